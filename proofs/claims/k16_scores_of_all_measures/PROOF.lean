import PyProof.Rows.All
import Wide.All
import OpenK.AllK
import Wide.FinOn
import Lean
import PyProof.EqAt
import PyProof.EqKinds
import PyProof.TupleCall
import PyProof.ExcClass2
import PyProof.InstStoreFacts
import PyProof.ExcArgs
import PyProof.ExcInit
import PyProof.ExcBaseAll.ValueError
import KE.KIsAll
import PyProof.RulesRaise
import PyProof.RulesAs
import PyProof.RaisesMany
import PyProof.NeKinds
import PyProof.EnumFor
import PyProof.EnumStmt
import PyProof.EnumMake
import PyProof.Rows.EnumRows
import PyProof.CompFree
import KE.KIntText
import PyProof.StrBlockG
import PyProof.StrBlockH
import PyProof.StrWalks
import PyProof.Rows.StrNews2
import PyProof.Rows.StrOr
import PyProof.Rows.Digits
import PyProof.StrBlockL
import PyProof.MeetsStr2
import PyProof.CompMap
import KE.IntTextLaws
import PyProof.Rows.StrPartPair
import PyProof.StrLawsTight
import PyProof.StrLawsChain
import PyProof.Rows.StrIntSpec
import PyProof.Rows.StrItems
import PyProof.ReprRoads
import PyProof.ReprBulk
import PyProof.FitsInt
import PyProof.CallFns
import PyProof.Rows.FactsT3
import PyProof.ListRange
import PyProof.TupleOfSeq
import PyProof.TupleOfGen
import PyProof.ConsumeWalk
import PyProof.Rows.SeqGen
import PyProof.CompUse
import KE.KUnpack
import PyProof.Draws
import PyProof.Rows.RuleB_bool
import PyProof.WalkInts
import PyProof.SeqI3
import KE.KRevSl
import KE.BitLaws
import PyProof.Rows.SumAny
import PyProof.ZipIter
import PyProof.TupleIter
import PyProof.WalksMore
import PyProof.Rows.FactsT2
import PyProof.Rows.SortWalk
import PyProof.Rows.SeqMore2
import PyProof.DictCompW
import PyProof.Cells
import PySem.Challenge.RW_trialdeal_k16_scores_of_all_measures
set_option Elab.async false
set_option linter.all false
set_option maxRecDepth 100000
namespace L2
open PySem PySem.Spec PyProof.Rows
inductive Key where
 | inl (i:Int) | inr (x:Str) | Æ
 deriving DecidableEq
def jy:Key->Value->Bool
 | .inl k,v=>Value.isInt k v
 | .inr x,v=>Value.isStrOf x v
 | .Æ,v=>v == .none
def Gw (w:World):Key->Int
 | .inl k=>hashInt k
 | .inr x=>hashStr w x
 | .Æ=>0xFCA86420
theorem mh {prog:Program}{w:World}{A:Around}{E:Value->Shared->Prop}{s:Shared}{Q:Int->Shared->Prop}(h:Q 0xFCA86420 { s with toks:=s.toks+1 }):wpAny (model prog w) A (pyHash .none) Q E s:=by
 unfold pyHash;have hT:s.TypeIs .none "NoneType" := rfl;have hv:[Value.none].any Value.onHeap=false:=rfl;refine wpAny_bind ?_;rw [cRoomFor,if_neg (by rw [hv];exact Bool.false_ne_true)];refine wpAny_pure ?_
 refine wpAny_bind (wpAny_specialOf hT PySem.F.slot_NoneType_hash.lookup ?_);show wpAny _ _ (if(some (Value.builtin "NoneType.__hash__")==some Value.none)=true then _ else _) Q E s
 rw [if_neg (by rw [beq_builtin_none];exact Bool.false_ne_true)]
 refine wpAny_bind (wpAny_specialOf hT PySem.F.slot_NoneType_hash.lookup ?_);show wpAny _ _ (callSpecialIfBoundUnlessNone? .none "__hash__" _>>=_) Q E s;refine wpAny_bind (wpAny_callSpecialIfBoundUnlessNone?_slot hT PySem.F.slot_NoneType_hash
  (wpAny_call_entry PySem.F.slot_NoneType_hash hT PySem.F.entry_NoneType_hash
   (show wpAny _ _ (do ret (<- mkInt 0xFCA86420)) _ _ s from wpAny_ret_mkInt ?_) (PySem.F.args_NoneType_hash_1 _)))
 show wpAny _ _ (if(decide (-(2:Int)^63<=0xFCA86420)&&decide ((0xFCA86420:Int)<2^63))=true then _ else _) Q E _
 rw [if_pos (by decide)]
 exact wpAny_pure h
theorem bc:∀{k:Key}{v:Value},jy k v=true->(∃ i t,k=Key.inl i/\v=Value.int i t)\/(∃ x t,k=Key.inr x/\v=Value.str x t)\/(k=Key.Æ/\v=Value.none)
 | .inl i,v,h=>by
  obtain⟨t,e⟩:=Value.isInt_shape (k:=i) (v:=v) h;exact .inl ⟨i,t,rfl,e⟩
 | .inr x,v,h=>by
  obtain⟨t,e⟩:=Value.isStrOf_shape (x:=x) (v:=v) h;exact .inr (.inl ⟨x,t,rfl,e⟩)
 | .Æ,v,h=>.inr (.inr ⟨rfl,eq_of_beq h⟩)
theorem qM (i:Int)(t:Tok):jy (.inl i) (.int i t)=true:=by simp [jy,Value.isInt]
theorem qH (x:Str)(t:Tok):jy (.inr x) (.str x t)=true:=by simp [jy,Value.isStrOf]
theorem AJ (a b:Int):decide (Key.inl a=Key.inl b)=(a==b):=by
 by_cases e:a=b
 ·subst e;simp
 ·rw [decide_eq_false (λ q=>e (Key.inl.inj q))];exact(beq_eq_false_iff_ne.mpr e).symm
theorem yZ (a b:Str):decide (Key.inr a=Key.inr b)=decide (a=b):=by
 by_cases e:a=b
 ·subst e;simp
 ·rw [decide_eq_false (λ q=>e (Key.inr.inj q)),decide_eq_false e]
theorem zx (a:Int)(b:Str):decide (Key.inl a=Key.inr b)=false:=decide_eq_false (λ q=>nomatch q)
theorem ya (a:Str)(b:Int):decide (Key.inr a=Key.inl b)=false:=decide_eq_false (λ q=>nomatch q)
theorem xM (a:Int):decide (Key.inl a=Key.Æ)=false:=decide_eq_false (λ q=>nomatch q)
theorem AD (a:Int):decide (Key.Æ = Key.inl a)=false:=decide_eq_false (λ q=>nomatch q)
theorem Bz (a:Str):decide (Key.inr a=Key.Æ)=false:=decide_eq_false (λ q=>nomatch q)
theorem zB (a:Str):decide (Key.Æ = Key.inr a)=false:=decide_eq_false (λ q=>nomatch q)
def bz (prog:Program)(w:World):PySem.KeyKind prog w Key where
 is:=jy
 hash:=Gw w
 inj:=λ v a b ha hb=>by
  rcases bc ha with⟨i,t,rfl,rfl⟩ | ⟨x,t,rfl,rfl⟩ | ⟨rfl,rfl⟩
  ·rcases bc hb with⟨j,u,rfl,e⟩ | ⟨y,u,rfl,e⟩ | ⟨rfl,e⟩
   ·injection e with e1 _;rw [e1]
   ·exact nomatch e
   ·exact nomatch e
  ·rcases bc hb with⟨j,u,rfl,e⟩ | ⟨y,u,rfl,e⟩ | ⟨rfl,e⟩
   ·exact nomatch e
   ·injection e with e1 _;rw [e1]
   ·exact nomatch e
  ·rcases bc hb with⟨j,u,rfl,e⟩ | ⟨y,u,rfl,e⟩ | ⟨rfl,e⟩
   ·exact nomatch e
   ·exact nomatch e
   ·rfl
 byValue:=λ k v h=>by
  rcases bc h with⟨i,t,rfl,rfl⟩ | ⟨x,t,rfl,rfl⟩ | ⟨rfl,rfl⟩ <;> rfl
 pyHash:=λ hv h=>by
  rcases bc hv with⟨i,t,rfl,rfl⟩ | ⟨x,t,rfl,rfl⟩ | ⟨rfl,rfl⟩
  ·exact wpAny_pyHash_int h
  ·exact wpAny_pyHash_str h
  ·exact mh h
 eqBool:=λ hu hv h=>by
  rcases bc hu with⟨i,t,rfl,rfl⟩ | ⟨x,t,rfl,rfl⟩ | ⟨rfl,rfl⟩
  ·rcases bc hv with⟨j,u,rfl,rfl⟩ | ⟨y,u,rfl,rfl⟩ | ⟨rfl,rfl⟩
   ·rw [AJ] at h;exact wpAny_eqBool_int h
   ·rw [zx] at h;exact SeqAt.EqAt.int_str i t y u _ _ _ _ h
   ·rw [xM] at h;exact SeqAt.EqAt.int_none i t _ _ _ _ h
  ·rcases bc hv with⟨j,u,rfl,rfl⟩ | ⟨y,u,rfl,rfl⟩ | ⟨rfl,rfl⟩
   ·rw [ya] at h;exact SeqAt.EqAt.str_int x t j u _ _ _ _ h
   ·rw [yZ] at h;exact wpAny_eqBool_str h
   ·rw [Bz] at h;exact SeqAt.EqAt.str_none x t _ _ _ _ h
  ·rcases bc hv with⟨j,u,rfl,rfl⟩ | ⟨y,u,rfl,rfl⟩ | ⟨rfl,rfl⟩
   ·rw [AD] at h;exact SeqAt.EqAt.none_int j u _ _ _ _ h
   ·rw [zB] at h;exact SeqAt.EqAt.none_str y u _ _ _ _ h
   ·exact SeqAt.EqAt.same _ _ _ _ _ (by simpa using h)
 «strs» := λ k x t v h=>by
  rcases bc h with⟨i,u,rfl,e⟩ | ⟨y,u,rfl,e⟩ | ⟨rfl,e⟩
  ·exact nomatch e
  ·injection e with e1 _
   subst e1;cases v <;> rfl
  ·exact nomatch e
theorem nQ (prog:Program)(w:World)(k:Key)(v:Value):(bz prog w).is k v=jy k v:=rfl
theorem l8 (prog:Program)(w:World)(i:Int)(t:Tok):(bz prog w).is (.inl i) (.int i t)=true:=qM i t
theorem nr (prog:Program)(w:World)(x:Str)(t:Tok):(bz prog w).is (.inr x) (.str x t)=true:=qH x t
inductive V where
 | Æ | bl (b:Bool) | int (i:Int) | str (x:Str) | Jb (b:Array UInt8) | JY (b:UInt64) | ref (a:Addr) | ty (n:String)
 deriving DecidableEq
def RelV:V->Value->Prop
 | .Æ,u=>u=Value.none
 | .bl b,u=>u=Value.bool b
 | .int i,u=>∃ t,u=Value.int i t
 | .str x,u=>∃ t,u=Value.str x t
 | .Jb b,u=>∃ t,u=Value.bytes b t
 | .JY b,u=>∃ t,u=Value.float b t
 | .ref a,u=>u=Value.ref a
 | .ty n,u=>u=Value.type n
abbrev Vals:List V->List Value->Prop:=Paired RelV
theorem Vals.length {xs:List V}{us:List Value}(r:Vals xs us):xs.length=us.length:=Paired.length r
theorem Vals.get:∀{xs:List V}{us:List Value}{i:Nat}{x:V},Vals xs us->xs[i]?=some x->∃ u,us[i]?=some u/\RelV x u
 | _,_,_,_,.nil,e=>by simp at e
 | _,_,0,_,.cons r _,e=>by simp at e;subst e;exact⟨_,rfl,r⟩
 | _,_,i+1,x,.cons _ t,e=>by
  obtain⟨u,h1,h2⟩:=Vals.get (i:=i) (x:=x) t (by simpa using e)
  exact⟨u,by simpa using h1,h2⟩
theorem Vals.set {x:V}{u:Value}(r:RelV x u):∀{xs:List V}{us:List Value}(i:Nat),Vals xs us->Vals (xs.set i x) (us.set i u)
 | _,_,_,.nil=>.nil
 | _,_,0,.cons _ t=>.cons r t
 | _,_,i+1,.cons q t=>.cons q (Vals.set r i t)
theorem Vals.append:∀{xs ys:List V}{us ws:List Value},Vals xs us->Vals ys ws->Vals (xs++ys) (us++ws)
 | _,_,_,_,.nil,s=>s
 | _,_,_,_,.cons r t,s=>.cons r (Vals.append t s)
def ô:Option V->Option Value->Prop
 | some v,some u=>RelV v u
 | none,none=>True
 | _,_=>False
def KV {κ:Type}:List (κ × V)->List (κ × Value)->Prop:=Paired λ (p:κ × V)(q:κ × Value)=>p.1=q.1/\RelV p.2 q.2
def kV:Key->V
 | .inl i=>.int i
 | .inr x=>.str x
 | .Æ=>.Æ
inductive HO where
 | lst (xs:List V)
 | tup (xs:List V)
 | dK (kvs:List (Key × V)) | dT (kvs:List (List Key × V))
 | set (S:Int->Bool)(n:Nat)
 | ins (C dx:Addr)(fs:List (Str × V))
 | own (x:Addr)
 | xd (fs:List (Str × V))
 | met (f x:Addr)
 | ę (lo hi:Int)
 | ŉ (o:Obj)(u:HO)
 | Ln (ps:Array Value)
 | ext (φ:Heap->Prop)
abbrev Hp:=Addr->Option HO
def ae (H:Hp)(a:Addr)(o:HO):Hp:=λ b=>if b=a then some o else H b
theorem aL {H:Hp}{a:Addr}{o:HO}:ae H a o a=some o:=by unfold ae;rw [if_pos rfl]
theorem ag {H:Hp}{a b:Addr}{o:HO}(h:b≠a):ae H a o b=H b:=by unfold ae;rw [if_neg h]
theorem fq {H:Hp}{a:Addr}{o u:HO}:ae (ae H a o) a u=ae H a u:=by
 funext b;unfold ae;split <;> rfl
theorem CG {H:Hp}{a b:Addr}{o u:HO}(h:H a=some o)(h':H b=some u)(d:o≠u):a≠b:=by
 intro e;subst e;rw [h] at h';exact d (Option.some.inj h')
theorem c5 {H:Hp}{a b:Addr}{o:HO}(h:H a=some o)(h':H b=none):a≠b:=by
 intro e;subst e;rw [h] at h';cases h'
section
variable (P:Program)(w:World)
def Å (H:Hp)(h:Heap)(a:Addr):HO->Prop
 | .lst xs=>xs.length<=sizeLine/\∃(its:List Value)(n:Nat),Vals xs its/\h.get? a=some { cls:=.type "list",data:=.seq its.toArray n }
 | .tup xs=>xs.length<=sizeLine/\∃ its:List Value,Vals xs its/\IsTup h a its.toArray
 | .dK kvs=>kvs.length<=sizeLine/\(a==sysModules)=false/\∃ vs,KV kvs vs/\h.DictOf (bz P w) a vs
 | .dT kvs=>kvs.length<=sizeLine/\(a==sysModules)=false/\∃ xs:List (List Key × Addr × Value),
   Paired (λ (p:List Key × V)(q:List Key × Addr × Value)=>p.1=q.1/\H q.2.1=some (.tup (p.1.map kV))/\RelV p.2 q.2.2) kvs xs /\
   ∃ o es ep,h.get? a=some o/\o.ExactDict/\o.data=.dict es ep/\es.toList=xs.map (entryOfKey (tupleKind (bz P w)))/\(xs.map (·.1)).Nodup
 | .set S n=>h.SetOf (intKind P w) a S n
 | .ins C dx fs=>H dx=some (.own a)/\fs.length<=1000/\dx≠a/\h.get? a=some (PySem.W.instObj C dx) /\
   ∃ mA,h.Ns1 dx mA/\(∀ f,ô (fs.lookup f) (mA f))/\PySem.Within mA (fs.map (·.1))
 | .own _=>∃ o,h.get? a=some o
 | .xd fs=>∃ mA,h.Ns1 a mA/\∀ f,ô (fs.lookup f) (mA f)
 | .ę lo hi=>∃ t u v,h.get? a=some { cls:=.type "range",data:=.fields #[.int lo t,.int hi u,.int 1 v] }
 | .ŉ o u=>h.get? a=some o/\Å H h a u
 | .Ln ps=>h.get? a=some { cls:=.none,data:=.fields ps }
 | .met f x=>h.get? a=some (PySem.W.methodObj (.ref f) (.ref x))
 | .ext φ=>φ h/\(∃ o,h.get? a=some o)/\∀ h1 h2:Heap,φ h1->(∀ o,h1.get? a=some o->h2.get? a=some o)->φ h2
def õ (H:Hp)(h:Heap):Prop:=∀ a o,H a=some o->Å P w H h a o
end
section
variable {P:Program}{w:World}{H H':Hp}{h h':Heap}{a:Addr}{o:HO}
theorem Å.lt (x:Å P w H h a o):a<h.objs.size:=by
 cases o with
 | lst xs=>obtain⟨_,_,_,_,e⟩:=x;exact Heap.lt_size e
 | tup xs=>obtain⟨_,_,_,p⟩:=x;exact p.lt
 | dK kvs=>obtain⟨_,_,_,_,o,_,_,e,_⟩:=x;exact Heap.lt_size e
 | dT kvs=>obtain⟨_,_,_,_,o,_,_,e,_⟩:=x;exact Heap.lt_size e
 | set S n=>obtain⟨o,_,_,_,e,_⟩:=x;exact Heap.lt_size e
 | ins C dx fs=>obtain⟨_,_,_,e,_⟩:=x;exact Heap.lt_size e
 | own y=>obtain⟨_,e⟩:=x;exact Heap.lt_size e
 | xd fs=>obtain⟨_,⟨_,_,_,e,_⟩,_⟩:=x;exact Heap.lt_size e
 | ę lo hi=>obtain⟨_,_,_,e⟩:=x;exact Heap.lt_size e
 | ŉ ob u=>obtain⟨e,_⟩:=x;exact Heap.lt_size e
 | Ln ps=>exact Heap.lt_size (show h.get? a=some _ from x)
 | met f y=>exact Heap.lt_size (show h.get? a=some _ from x)
 | ext φ=>obtain⟨_,⟨_,e⟩,_⟩:=x;exact Heap.lt_size e
theorem Paired.Lq {α β:Type}{F G:α->β->Prop}:∀{Mv:List α}{Mw:List β},Paired F Mv Mw->(∀ a b,F a b->G a b)->Paired G Mv Mw
 | _,_,.nil,_=>.nil
 | _,_,.cons r t,f=>.cons (f _ _ r) (Paired.Lq t f)
theorem Å.ē (x:Å P w H h a o)(k:∀ b u,(b=a\/H b=some (.own a))->h.get? b=some u->h'.get? b=some u)
  (ho:∀ b,H b=some (.own a)->H' b=some (.own a))(ht:∀ b xs,H b=some (.tup xs)->H' b=some (.tup xs)):Å P w H' h' a o:=by
 induction o with
 | lst xs=>obtain⟨z,its,n,r,e⟩:=x;exact⟨z,its,n,r,k _ _ (.inl rfl) e⟩
 | tup xs=>obtain⟨z,its,r,ob,e,c⟩:=x;exact⟨z,its,r,ob,k _ _ (.inl rfl) e,c⟩
 | dK kvs=>obtain⟨z,y,vs,r,ob,es,ep,e,c⟩:=x;exact⟨z,y,vs,r,ob,es,ep,k _ _ (.inl rfl) e,c⟩
 | dT kvs =>
  obtain⟨z,y,xs,r,ob,es,ep,e,c⟩:=x;exact⟨z,y,xs,Paired.Lq r λ p q z=>⟨z.1,ht _ _ z.2.1,z.2.2⟩,ob,es,ep,k _ _ (.inl rfl) e,c⟩
 | set S n=>obtain⟨ob,es,ep,t,e,c⟩:=x;exact⟨ob,es,ep,t,k _ _ (.inl rfl) e,c⟩
 | ins C dx fs =>
  obtain⟨d,z,ne,e,mA,⟨od,es,ep,e2,c⟩,r⟩:=x;exact⟨ho _ d,z,ne,k _ _ (.inl rfl) e,mA,⟨od,es,ep,k _ _ (.inr d) e2,c⟩,r⟩
 | own y=>obtain⟨ob,e⟩:=x;exact⟨ob,k _ _ (.inl rfl) e⟩
 | xd fs=>obtain⟨mA,⟨od,es,ep,e,c⟩,r⟩:=x;exact⟨mA,⟨od,es,ep,k _ _ (.inl rfl) e,c⟩,r⟩
 | ę lo hi=>obtain⟨t,u,v,e⟩:=x;exact⟨t,u,v,k _ _ (.inl rfl) e⟩
 | ŉ ob u ih=>obtain⟨e,q⟩:=x;exact⟨k _ _ (.inl rfl) e,ih q⟩
 | Ln ps =>
  have e:h.get? a=some { cls:=.none,data:=.fields ps }:=x;show h'.get? a=some { cls:=.none,data:=.fields ps };exact k a _ (.inl rfl) e
 | met f y =>
  have e:h.get? a=some (PySem.W.methodObj (.ref f) (.ref y)):=x;show h'.get? a=some (PySem.W.methodObj (.ref f) (.ref y));exact k a _ (.inl rfl) e
 | ext φ=>obtain⟨p,⟨o,e⟩,st⟩:=x;exact⟨st _ _ p λ o q=>k _ _ (.inl rfl) q,⟨o,k _ _ (.inl rfl) e⟩,st⟩
theorem õ.lt (x:õ P w H h)(e:H a=some o):a<h.objs.size:=(x a o e).lt
theorem õ.fresh (x:õ P w H h)(e:h.objs.size<=a):H a=none:=by
 cases q:H a with
 | none=>rfl
 | some u=>exact absurd (Nat.lt_of_lt_of_le (x.lt q) e) (Nat.lt_irrefl _)
theorem õ.kept (x:õ P w H h)(k:∀ b u,h.get? b=some u->h'.get? b=some u):õ P w H h':=λ a o e =>
 (x a o e).ē (λ b u _ q=>k b u q) (λ _ q=>q) λ _ _ q=>q
theorem õ.laid (x:õ P w H h)(k:∀ b u,h.get? b=some u->h'.get? b=some u)(hp:h.objs.size<=a)(new:Å P w (ae H a o) h' a o):õ P w (ae H a o) h':=λ b u e=>by
 have hn:=x.fresh hp;by_cases hb:b=a
 ·subst hb;rw [aL] at e;cases e;exact new
 ·rw [ag hb] at e;exact(x b u e).ē (λ c v _ q=>k c v q) (λ c q=>by rw [ag (c5 q hn)];exact q) λ c xs q=>by rw [ag (c5 q hn)];exact q
end
def Rd (H:Hp)(a:Addr)(u:HO):Prop:=H a=some u\/∃ o,H a=some (.ŉ o u)
theorem Rd.ok {P:Program}{w:World}{H:Hp}{h:Heap}{a:Addr}{u:HO}(r:Rd H a u)(x:õ P w H h):Å P w H h a u:=by
 rcases r with r | ⟨o,r⟩
 ·exact x a u r
 ·obtain⟨_,q⟩:=x a _ r;exact q
def DS:Option HO->Prop
 | some (.lst _)=>True
 | some (.dK _)=>True
 | some (.dT _)=>True
 | some (.set _ _)=>True
 | some (.ins _ _ _)=>True
 | some (.ext _)=>True
 | _=>False
section
variable {P:Program}{w:World}{H:Hp}{h h':Heap}{x e:Addr}{o':HO}
theorem õ.write (ok:õ P w H h)(mu:DS (H x))(he:e=x\/H e=some (.own x))(k:∀ b u,b≠e->h.get? b=some u->h'.get? b=some u)(Mc:∃ u,h'.get? e=some u)
  (new:Å P w (ae H x o') h' x o'):õ P w (ae H x o') h':=λ b u q=>by
 have Mx:∀ c y,H c=some (.own y)->c≠x:=λ c y r z=>by subst z;rw [r] at mu;exact mu
 have O7:∀ c xs,H c=some (.tup xs)->c≠x:=λ c xs r z=>by subst z;rw [r] at mu;exact mu
 by_cases hb:b=x
 ·subst hb;rw [aL] at q;cases q;exact new
 ·rw [ag hb] at q;by_cases Lu:b=e
  ·have q':H b=some (.own x):=by
    rcases he with z | z
    ·exact absurd (Lu.trans z) hb
    ·rw [Lu];exact z
   rw [q] at q';cases q';obtain⟨v,hv⟩:=Mc;exact⟨v,by rw [Lu];exact hv⟩
  ·refine(ok b u q).ē (λ c v hc r=>k c v ?_ r) (λ c r=>by rw [ag (Mx c b r)];exact r) λ c xs r=>by rw [ag (O7 c xs r)];exact r
   rcases hc with rfl | hc
   ·exact Lu
   ·rintro rfl;rcases he with z | z
    ·exact Mx c b hc z
    ·rw [hc] at z;cases z;exact hb rfl
end
structure Un (fs ex:List Addr)(H H':Hp)(h h':Heap):Prop where
 keep:∀ b o,h.get? b=some o->H b=none->b ∉ fs->b ∉ ex->h'.get? b=some o
 slot:∀ b o,h.get? b=some o->H b=none->b∈fs->b ∉ ex->∃ sl,h'.get? b=some { o with slots:=sl }
 free:∀ b o,h.get? b=some o->H b=none->b ∉ ex->H' b=none
 there:∀ b o,h.get? b=some o->b ∉ ex->∃ o',h'.get? b=some o'
 Ĝ:∀ b xs,H b=some (.tup xs)->H' b=some (.tup xs)
 Ĕ:∀ b o u,H b=some (.ŉ o u)->H' b=some (.ŉ o u)
 ĝ:∀ b ps,H b=some (.Ln ps)->∃ more,H' b=some (.Ln (ps++more))
 sys:H sysModules=none->H' sysModules=none
section
variable {fs Uz ex ex':List Addr}{H H1 H2:Hp}{h h1 h2 h':Heap}{a x e:Addr}{o:HO}
theorem Un.any (u:Un fs ex H H1 h h1){b:Addr}{ob:Obj}(q:h.get? b=some ob)(n:H b=none)(hx:b ∉ ex):∃ sl,h1.get? b=some { ob with slots:=sl }:=by
 by_cases hb:b∈fs
 ·exact u.slot b ob q n hb hx
 ·exact⟨ob.slots,u.keep b ob q n hb hx⟩
theorem Un.kept (k:∀ b u,h.get? b=some u->h'.get? b=some u):Un fs ex H H h h' :=
 ⟨λ b ob q _ _ _=>k b ob q,λ b ob q _ _ _=>⟨ob.slots,k b ob q⟩,λ _ _ _ n _=>n,λ b ob q _=>⟨ob,k b ob q⟩,λ _ _ q=>q,λ _ _ _ q=>q,λ _ ps q=>⟨#[],by rw [q];simp⟩,λ q=>q⟩
theorem Un.refl:Un fs ex H H h h:=Un.kept λ _ _ q=>q
theorem Un.laid (k:∀ b u,h.get? b=some u->h'.get? b=some u)(hp:h.objs.size<=a)(hn:H a=none)(hz:sysModules<h.objs.size):Un fs ex H (ae H a o) h h' where
 sys:=λ q=>by rw [ag (Nat.ne_of_lt (Nat.lt_of_lt_of_le hz hp))];exact q
 keep:=λ b u q _ _ _=>k b u q
 slot:=λ b u q _ _ _=>⟨u.slots,k b u q⟩
 free:=λ b u q n _=>by rw [ag (Nat.ne_of_lt (Nat.lt_of_lt_of_le (Heap.lt_size q) hp))];exact n
 there:=λ b u q _=>⟨u,k b u q⟩
 Ĝ:=λ b xs q=>by rw [ag (c5 q hn)];exact q
 Ĕ:=λ b u xs q=>by rw [ag (c5 q hn)];exact q
 ĝ:=λ b ps q=>⟨#[],by rw [ag (c5 q hn),q];simp⟩
theorem Un.write (mu:DS (H x))(he:e=x\/H e=some (.own x))(k:∀ b u,b≠e->h.get? b=some u->h'.get? b=some u)(Mc:∃ u,h'.get? e=some u):Un fs ex H (ae H x o) h h':=by
 have hx:∀ b,H b=none->b≠x:=λ b n z=>by subst z;rw [n] at mu;exact mu
 have hb:∀ b,H b=none->b≠e:=λ b n z=>by
  subst z;rcases he with r | r
  ·exact hx b n r
  ·rw [n] at r;cases r
 have hm:∀ b u,H b=some u->¬ DS (some u)->b≠x:=λ b u q nm z=>by subst z;rw [q] at mu;exact nm mu
 refine⟨λ b u q n _ _=>k b u (hb b n) q,λ b u q n _ _=>⟨u.slots,k b u (hb b n) q⟩,λ b u q n _=>by rw [ag (hx b n)];exact n,λ b u q _=>?_,
  λ b xs q=>by rw [ag (hm b _ q λ z=>z)];exact q,λ b u xs q=>by rw [ag (hm b _ q λ z=>z)];exact q,λ b ps q=>⟨#[],by rw [ag (hm b _ q λ z=>z),q];simp⟩,λ q=>by rw [ag (hx _ q)];exact q⟩
 by_cases Lu:b=e
 ·subst Lu;exact Mc
 ·exact⟨u,k b u Lu q⟩
end
def FG (h:Heap)(H:Hp):List Addr:=(List.range h.objs.size).filter λ a=>(H a).isSome
def lO (h:Heap)(H:Hp):Heap:=PySem.W.hideAll h (FG h H)
theorem qJ (h:Heap)(H:Hp):(lO h H).objs.size=h.objs.size:=PySem.W.hideAll_size _ _
theorem rT {h:Heap}{H:Hp}{b:Addr}{o:Obj}(e:h.get? b=some o)(n:H b=none):(lO h H).get? b=some o :=
 PySem.W.hideAll_get _ e λ hm=>by
  have q:(H b).isSome=true:=(List.mem_filter.mp hm).2;rw [n] at q;simp at q
theorem vA {h:Heap}{H:Hp}{b:Addr}{o:Obj}(e:(lO h H).get? b=some o):h.get? b=some o/\H b=none:=by
 have e':h.get? b=some o:=PySem.W.of_hideAll (FG h H) e;refine⟨e',?_⟩;cases q:H b with
 | none=>rfl
 | some x =>
  have hm:b∈FG h H:=List.mem_filter.mpr ⟨List.mem_range.mpr (Heap.lt_size e'),by simp [q]⟩
  have z:(lO h H).get? b=none:=PySem.W.hideAll_none (FG h H) hm;rw [z] at e;cases e
def ul (g h:Heap)(L:Addr):List (Addr × Obj):=(List.range h.objs.size).filterMap λ a=>if a=L\/(g.get? a).isSome=true then none else(h.get? a).map λ o=>(a,o)
def rest (g h:Heap)(L d:Addr):List (Addr × Obj):=(ul g h L).filter λ p=>decide (p.1≠d)
structure Mod (K:PySem.W.Frag)(mg:Str->Option Value)(base:Heap):Prop where
 KL:K.In base
 glob:base.Ns mainGlobals mg
 blt:∃ mb,base.Ns builtinsNs mb/\∀ x:Str,x ≠ "__name__" -> mb x=bootBuiltins x
 nolimit:base.NoLimit
structure Cx where
 prog:Program
 w:World
 K:PySem.W.Frag
 mg:Str->Option Value
 base:Heap
 A:Around
 N:List Str
 ã:Shared
 ŵ:Hp
 env:Env
 outer:List Env
 stack:List Env
 ex:List Addr
 fn:Str->Bool
 calm:Bool
 pn:List (Addr × Obj)
 xe:Value->Shared->Prop
def jN (l:List Env):List Addr:=l.filterMap (·.frame)
abbrev Cx.fs (X:Cx):List Addr:=jN X.outer
def w4 (sc:Scope)(x:Str):Prop:=sc.names.lookup x=some .local\/sc.names.lookup x=some .cell\/sc.names.lookup x=some .free
def yJ (sc:Scope)(x:Str):Prop:=sc.names.lookup x=some .local\/sc.names.lookup x=some .cell
def HA (env:Env)(h:Heap)(m:Str->Option Value)(x:Str)(u:Value):Prop :=
 (env.kindOf x=some .local/\m x=some u)\/((env.kindOf x=some .cell\/env.kindOf x=some .free)/\∃ c,env.cells.lookup x=some c/\h.IsCell c (some u))
structure Cx.Ok (X:Cx):Prop where
 mod:Mod X.K X.mg X.base
 kind:X.env.scope.kind=.function
 glob:X.env.globals=mainGlobals
 blt:X.env.builtins=builtinsNs
 above:X.ã.heap.objs.size<=X.env.locals
 inj:∀ x y c,X.env.cells.lookup x=some c->X.env.cells.lookup y=some c->x=y
 has:∀ x,(X.env.kindOf x=some .cell\/X.env.kindOf x=some .free)->∃ c,X.env.cells.lookup x=some c
 KN:∀ x c,X.fn x=true->X.env.cells.lookup x=some c->X.ã.heap.objs.size<=c
 hd:X.calm=true->X.A.handled=none
 frames:X.A.frames=some X.stack
 Lv:X.stack=X.outer\/(X.stack=X.env::X.outer/\X.env.frame=some X.env.locals)
 Mz:∀ b∈X.ex,b≠X.env.locals/\∀ x c,X.env.cells.lookup x=some c->c≠b
 bs:∀ b o,X.base.get? b=some o->X.ã.heap.get? b=some o/\X.ŵ b=none
 Ŭ:X.base.objs.size<=X.ã.heap.objs.size
 Ļ:∀ b o,X.base.get? b=some o->b ∉ X.ex
 Ŝ:∀ b∈X.ex,b ∉ X.fs
 ć:X.ã.heap.FunFrames X.base X.outer
 JZ:∀ b∈X.fs,X.ŵ b=none
structure Inv (X:Cx)(pins:List (Addr × Obj))(σ:List (Option V))(H:Hp)(s:Shared):Prop where
 ok:X.Ok
 os:s.os=X.ã.os
 bare:AllBare s.gens
 base:Un X.fs X.ex X.ŵ H X.ã.heap s.heap
 loc:∃ m,s.heap.Ns X.env.locals m/\∀(i:Nat)(x:Str)(v:V),X.N[i]?=some x->σ[i]?=some (some v)->w4 X.env.scope x->∃ u,RelV v u/\HA X.env s.heap m x u
 cell:∀ x c,X.env.cells.lookup x=some c->∃ v,s.heap.IsCell c v
 free:H X.env.locals=none
 è:∀ x c,X.env.cells.lookup x=some c->H c=none
 pin:∀ p∈X.pn++pins,s.heap.get? p.1=some p.2/\H p.1=none/\p.1≠X.env.locals/\p.1 ∉ X.fs/\∀ v,p.2.data ≠ .cell v
 É:õ X.prog X.w H s.heap
 len:σ.length=X.N.length
section
variable {X:Cx}{pins:List (Addr × Obj)}{σ:List (Option V)}{H H':Hp}{s:Shared}{h':Heap}
theorem Cx.Ok.O8 (ok:X.Ok){b:Addr}{o:Obj}(e:X.base.get? b=some o):b ∉ X.fs:=λ hb=>by
 have:=(ok.ć.mem hb).1;rw [e] at this;cases this
theorem Inv.bs (I:Inv X pins σ H s):∀ b o,X.base.get? b=some o->s.heap.get? b=some o/\H b=none:=λ b o e =>
 ⟨I.base.keep b o (I.ok.bs b o e).1 (I.ok.bs b o e).2 (I.ok.O8 e) (I.ok.Ļ b o e),I.base.free b o (I.ok.bs b o e).1 (I.ok.bs b o e).2 (I.ok.Ļ b o e)⟩
theorem Inv.bk (I:Inv X pins σ H s):∀ b o,X.base.get? b=some o->s.heap.get? b=some o:=λ b o e=>(I.bs b o e).1
theorem Inv.mod (I:Inv X pins σ H s):Mod X.K X.mg X.base:=I.ok.mod
theorem Inv.Ý (I:Inv X pins σ H s):X.K.In s.heap:=I.ok.mod.KL.keeps I.bk
theorem Inv.lt (I:Inv X pins σ H s):X.env.locals<s.heap.objs.size:=let ⟨_,hn,_⟩:=I.loc;hn.lt
theorem Inv.sz (I:Inv X pins σ H s):X.ã.heap.objs.size<=s.heap.objs.size:=Nat.le_trans I.ok.above (Nat.le_of_lt I.lt)
theorem Inv.O9 (I:Inv X pins σ H s){a:Addr}(h:s.heap.objs.size<=a):a ∉ X.fs:=λ hb=>by
 obtain⟨_,o,ho,_⟩:=I.ok.ć.mem hb;exact absurd (Nat.lt_of_lt_of_le (Heap.lt_size ho) (Nat.le_trans I.sz h)) (Nat.lt_irrefl _)
theorem Inv.Jl (I:Inv X pins σ H s):∀ x c,X.env.cells.lookup x=some c->c≠X.env.locals:=λ x c e z=>by
 obtain⟨v,o,ho,hd⟩:=I.cell x c e;obtain⟨m,⟨o',es,ep,Lx,Jm,_⟩,_⟩:=I.loc;rw [z,Lx] at ho;cases ho;rw [Jm] at hd;cases hd
theorem Inv.ć (I:Inv X pins σ H s):s.heap.FunFrames X.base X.outer:=by
 have all:∀(l:List Env),(∀ b∈jN l,b∈X.fs)->X.ã.heap.FunFrames X.base l->s.heap.FunFrames X.base l:=by
  intro l
  induction l with
  | nil=>intro _ _;trivial
  | cons env r ih =>
   intro hs hl;obtain⟨hk,⟨L,o,hf,hn,ho,hd⟩,hr⟩:=hl;have hL:L∈X.fs:=hs L (by unfold jN;rw [List.filterMap_cons,hf];exact List.mem_cons_self)
   obtain⟨sl,e⟩:=I.base.slot L o ho (I.ok.JZ L hL) hL λ z=>I.ok.Ŝ L z hL;exact⟨hk,⟨L,_,hf,hn,e,hd⟩,ih (λ b hb=>hs b (by unfold jN;rw [List.filterMap_cons,hf];exact List.mem_cons_of_mem _ hb)) hr⟩
 exact all X.outer (λ _ hb=>hb) I.ok.ć
theorem Inv.stack (I:Inv X pins σ H s):s.heap.FunFrames X.base X.stack:=by
 rcases I.ok.Lv with e | ⟨e,hf⟩
 ·rw [e];exact I.ć
 ·rw [e];obtain⟨m,hn,_⟩:=I.loc;refine .cons (by rw [I.ok.kind];decide) hf hn ?_ I.ć
  exact Heap.get?_none_of_le (Nat.le_trans I.ok.Ŭ I.ok.above)
theorem Inv.î (I:Inv X pins σ H s):∀ b∈jN X.stack,b∈X.env.locals::X.fs:=λ b hb=>by
 rcases I.ok.Lv with e | ⟨e,hf⟩
 ·rw [e] at hb;exact List.mem_cons_of_mem _ hb
 ·rw [e] at hb;unfold jN at hb;rw [List.filterMap_cons,hf] at hb;exact hb
theorem Inv.Ě (I:Inv X pins σ H s):∀ b∈jN X.stack,H b=none:=λ b hb=>by
 rcases List.mem_cons.mp (I.î b hb) with e | hb
 ·rw [e];exact I.free
 ·obtain⟨_,o,ho,_⟩:=I.ok.ć.mem hb;exact I.base.free b o ho (I.ok.JZ b hb) λ z=>I.ok.Ŝ b z hb
theorem Inv.step {g':Array GenState}{t':Nat}{d':Drawn}{ch:List Addr}(I:Inv X pins σ H s)
  (J1:∀ b∈ch,(b∈X.ex\/X.ã.heap.objs.size<=b)/\b≠X.env.locals/\(∀ x c,X.env.cells.lookup x=some c->c≠b)/\∀ p∈X.pn++pins,p.1≠b)
  (keep:∀ b o,b≠X.env.locals->b ∉ X.fs->b ∉ ch->s.heap.get? b=some o->H b=none->h'.get? b=some o)
  (slot:∀ b o,b≠X.env.locals->b∈X.fs->b ∉ ch->s.heap.get? b=some o->H b=none->∃ sl,h'.get? b=some { o with slots:=sl })(free:∀ b o,b ∉ ch->s.heap.get? b=some o->H b=none->H' b=none)
  (there:∀ b o,b ∉ ch->s.heap.get? b=some o->∃ o',h'.get? b=some o')
  (Ĝ:∀ b xs,H b=some (.tup xs)->H' b=some (.tup xs))(Ĕ:∀ b o u,H b=some (.ŉ o u)->H' b=some (.ŉ o u))(ĝ:∀ b ps,H b=some (.Ln ps)->∃ more,H' b=some (.Ln (ps++more)))(sys:H sysModules=none->H' sysModules=none)
  (ns:∀ m,s.heap.Ns X.env.locals m->h'.Ns X.env.locals m)(É:õ X.prog X.w H' h')(hg:AllBare g') :
  Inv X pins σ H' { s with heap:=h',gens:=g',drawn:=d',toks:=t' }:=by
 have Sg:∀ b o,X.ã.heap.get? b=some o->b≠X.env.locals:=λ b o e=>Nat.ne_of_lt (Nat.lt_of_lt_of_le (Heap.lt_size e) I.ok.above);have N8:∀ b o,X.ã.heap.get? b=some o->b ∉ X.ex->b ∉ ch:=λ b o e hx hb=>by
  rcases(J1 b hb).1 with z | z
  ·exact hx z
  ·exact absurd (Nat.lt_of_lt_of_le (Heap.lt_size e) z) (Nat.lt_irrefl _)
 have cellK:∀ x c,X.env.cells.lookup x=some c->∀ v,s.heap.IsCell c v->h'.IsCell c v:=λ x c e v ⟨o,ho,hd⟩=>by
  have Jn:c ∉ ch:=λ z=>(J1 c z).2.2.1 x c e rfl;by_cases hc:c∈X.fs
  ·obtain⟨sl,q⟩:=slot c o (I.Jl x c e) hc Jn ho (I.è x c e);exact⟨_,q,hd⟩
  ·exact⟨o,keep c o (I.Jl x c e) hc Jn ho (I.è x c e),hd⟩
 refine⟨I.ok,I.os,hg,⟨λ b o e n hb hx=>?_,λ b o e n hb hx=>?_,λ b o e n hx=>?_,λ b o e hx=>?_,λ b xs e=>Ĝ b xs (I.base.Ĝ b xs e),λ b o xs e=>Ĕ b o xs (I.base.Ĕ b o xs e),λ b ps e=>?_,λ q=>sys (I.base.sys q)⟩,?_,λ x c e=>?_,?_,λ x c e=>?_,λ p hp=>?_,É,I.len⟩
 ·exact keep b o (Sg b o e) hb (N8 b o e hx) (I.base.keep b o e n hb hx) (I.base.free b o e n hx)
 ·obtain⟨sl,e1⟩:=I.base.slot b o e n hb hx;obtain⟨Pa,e2⟩:=slot b _ (Sg b o e) hb (N8 b o e hx) e1 (I.base.free b o e n hx);exact⟨Pa,e2⟩
 ·obtain⟨o',e1⟩:=I.base.there b o e hx;exact free b o' (N8 b o e hx) e1 (I.base.free b o e n hx)
 ·obtain⟨o',e1⟩:=I.base.there b o e hx;exact there b o' (N8 b o e hx) e1
 ·obtain⟨m1,e1⟩:=I.base.ĝ b ps e;obtain⟨m2,e2⟩:=ĝ b _ e1;exact⟨m1++m2,by rw [e2,Array.append_assoc]⟩
 ·obtain⟨m,hn,hl⟩:=I.loc;refine⟨m,ns m hn,λ i x v e1 e2 e3=>?_⟩;obtain⟨u,r,l⟩:=hl i x v e1 e2 e3;refine⟨u,r,?_⟩;rcases l with l | ⟨k,c,e,z⟩
  ·exact .inl l
  ·exact .inr ⟨k,c,e,cellK x c e _ z⟩
 ·obtain⟨v,z⟩:=I.cell x c e;exact⟨v,cellK x c e v z⟩
 ·obtain⟨m,⟨o,_,_,ho,_⟩,_⟩:=I.loc;exact free _ o (λ z=>(J1 _ z).2.1 rfl) ho I.free
 ·obtain⟨v,o,ho,hd⟩:=I.cell x c e;exact free c o (λ z=>(J1 c z).2.2.1 x c e rfl) ho (I.è x c e)
 ·obtain⟨e,n,ne,nf,d⟩:=I.pin p hp;have Jn:p.1 ∉ ch:=λ z=>(J1 p.1 z).2.2.2 p hp rfl;exact⟨keep p.1 p.2 ne nf Jn e n,free p.1 p.2 Jn e n,ne,nf,d⟩
theorem Inv.un {t':Nat}(I:Inv X pins σ H s)(u:Un X.fs [] H H' s.heap h')(É:õ X.prog X.w H' h'):Inv X pins σ H' { s with heap:=h',toks:=t' }:=by
 obtain⟨m,⟨o,es,ep,ho,r⟩,_⟩:=id I.loc;obtain⟨sl,hL⟩:=u.any ho I.free (by simp)
 exact I.step (g':=s.gens) (d':=s.drawn) (ch:=[]) (λ _ z=>nomatch z) (λ b o _ hb _ e n=>u.keep b o e n hb (by simp)) (λ b o _ hb _ e n=>u.slot b o e n hb (by simp)) (λ b o _ e n=>u.free b o e n (by simp)) (λ b o _ e=>u.there b o e (by simp)) u.Ĝ u.Ĕ u.ĝ u.sys (λ m' hm=>by
  obtain⟨o',Md,Pb,Lx,r'⟩:=hm;rw [ho] at Lx;cases Lx;exact⟨_,Md,Pb,hL,r'⟩) É I.bare
theorem Inv.call {g':Array GenState}{t':Nat}{d':Drawn}{ch:List Addr}(I:Inv X pins σ H s)(u:Un (jN X.stack) ch H H' s.heap h')(É:õ X.prog X.w H' h')(hg:AllBare g')
  (J1:∀ b∈ch,(b∈X.ex\/X.ã.heap.objs.size<=b)/\b≠X.env.locals/\(∀ x c,X.env.cells.lookup x=some c->c≠b)/\∀ p∈X.pn++pins,p.1≠b) :
  Inv X pins σ H' { s with heap:=h',gens:=g',drawn:=d',toks:=t' }:=by
 obtain⟨m,⟨o,es,ep,ho,r⟩,_⟩:=id I.loc;obtain⟨sl,hL⟩:=u.any ho I.free λ z=>(J1 _ z).2.1 rfl;exact I.step (ch:=ch) J1 (λ b o hL hb hc e n=>u.keep b o e n (λ z=>(List.mem_cons.mp (I.î b z)).elim hL hb) hc) (λ b o _ _ hc e n=>u.any e n hc) (λ b o hc e n=>u.free b o e n hc) (λ b o hc e=>u.there b o e hc) u.Ĝ u.Ĕ u.ĝ u.sys (λ m' hm=>by
  obtain⟨o',Md,Pb,Lx,r'⟩:=hm;rw [ho] at Lx;cases Lx;exact⟨_,Md,Pb,hL,r'⟩) É hg
theorem Inv.turned {t':Nat}{it:Addr}(I:Inv X pins σ H s)(k:∀ b o,b≠it->s.heap.get? b=some o->h'.get? b=some o)(hn:H it=none)(hL:it≠X.env.locals)
  (h1:it∈X.ex\/X.ã.heap.objs.size<=it)(h2:∀ x c,X.env.cells.lookup x=some c->c≠it)(h3:∀ p∈X.pn++pins,p.1≠it):Inv X pins σ H { s with heap:=h',toks:=t' }:=by
 have Sh:∀ b u,H b=some u->b≠it:=λ b u e z=>by rw [z,hn] at e;cases e
 refine I.step (g':=s.gens) (d':=s.drawn) (ch:=[it]) (λ b hb=>?_) (λ b o _ _ hc e _=>k b o (λ z=>hc (by simp [z])) e) (λ b o _ _ hc e _=>⟨o.slots,k b o (λ z=>hc (by simp [z])) e⟩) (λ _ _ _ _ n=>n)
  (λ b o hc e=>⟨o,k b o (λ z=>hc (by simp [z])) e⟩) (λ _ _ e=>e) (λ _ _ _ e=>e) (λ b ps e=>⟨#[],by rw [e];simp⟩) (λ q=>q) (λ m hm=>?_) (λ b u e=>?_) I.bare
 ·have e:b=it:=by simpa using hb
  subst e;exact⟨h1,hL,h2,h3⟩
 ·obtain⟨o,es,ep,ho,r⟩:=hm;exact⟨o,es,ep,k _ o (Ne.symm hL) ho,r⟩
 ·refine(I.É b u e).ē (λ c v hc q=>k c v ?_ q) (λ _ q=>q) λ _ _ q=>q;rcases hc with z | z
  ·rw [z];exact Sh b u e
  ·exact Sh c _ z
theorem Inv.tok (I:Inv X pins σ H s)(t:Nat):Inv X pins σ H { s with toks:=t }:=I.un (h':=s.heap) (t':=t) Un.refl I.É
theorem Inv.kept {t':Nat}(I:Inv X pins σ H s)(k:∀ b u,s.heap.get? b=some u->h'.get? b=some u):Inv X pins σ H { s with heap:=h',toks:=t' }:=I.un (Un.kept k) (I.É.kept k)
theorem Inv.laid {a:Addr}{o:HO}{t':Nat}(I:Inv X pins σ H s)(k:∀ b u,s.heap.get? b=some u->h'.get? b=some u)(hp:s.heap.objs.size<=a)(new:Å X.prog X.w (ae H a o) h' a o) :
  Inv X pins σ (ae H a o) { s with heap:=h',toks:=t' }:=I.un (Un.laid k hp (I.É.fresh hp) (Nat.lt_trans (by decide:sysModules<mainGlobals) (I.mod.glob.keeps I.bk).lt)) (I.É.laid k hp new)
theorem Inv.write {x e:Addr}{o:HO}{t':Nat}(I:Inv X pins σ H s)(mu:DS (H x))(he:e=x\/H e=some (.own x))(k:∀ b u,b≠e->s.heap.get? b=some u->h'.get? b=some u)(Mc:∃ u,h'.get? e=some u)
  (new:Å X.prog X.w (ae H x o) h' x o):Inv X pins σ (ae H x o) { s with heap:=h',toks:=t' }:=I.un (Un.write mu he k Mc) (I.É.write mu he k Mc new)
theorem Inv.ŭ {Ĵ:List (Addr × Obj)}(I:Inv X pins σ H s)(h:∀ p ∈ Ĵ,s.heap.get? p.1=some p.2/\H p.1=none/\p.1≠X.env.locals/\p.1 ∉ X.fs/\∀ v,p.2.data ≠ .cell v):Inv X Ĵ σ H s :=
 ⟨I.ok,I.os,I.bare,I.base,I.loc,I.cell,I.free,I.è,λ p hp=>(List.mem_append.mp hp).elim (λ z=>I.pin p (List.mem_append_left _ z)) (h p),I.É,I.len⟩
theorem jd {N:List Str}(hN:N.Nodup){i j:Nat}{x:Str}(a:N[i]?=some x)(b:N[j]?=some x):i=j:=by
 obtain⟨h1,e1⟩:=List.getElem?_eq_some_iff.mp a;obtain⟨h2,e2⟩:=List.getElem?_eq_some_iff.mp b;exact(List.getElem_inj hN).mp (e1.trans e2.symm)
theorem jT {M:Model}{A:Around}{E:Value->Shared->Prop}{i:Nat}{x:Str}{v:V}{u:Value}{Q:Unit->Shared->Prop}(I:Inv X pins σ H s)(hN:X.N.Nodup)(hi:X.N[i]?=some x)(hx:yJ X.env.scope x)(r:RelV v u)
  (h:∀ s',Inv X pins (σ.set i (some v)) H s'->(∃ a,Heap.SameBut a s.heap s'.heap/\(a=X.env.locals\/X.env.cells.lookup x=some a))->Q () s')(hf:X.fn x=true\/X.env.scope.names.lookup x=some .local:=by first | exact .inl rfl | exact .inr rfl | assumption):wpAny M A (storeName X.env x u) Q E s:=by
 obtain⟨m,hn,hl⟩:=id I.loc;have Ly:(X.env.scope.kind == .class||(X.env.scope.kind == .module&&X.env.locals != X.env.globals))=false:=by rw [I.ok.kind];rfl
 have Ŷ:i < σ.length:=by rw [I.len];exact(List.getElem?_eq_some_iff.mp hi).1
 have Jl:=I.Jl;have tracked:∀{a:Addr}{h':Heap},(∃ o,s.heap.get? a=some o/\H a=none)->Heap.SameBut a s.heap h'->õ X.prog X.w H h':=λ {a h'} ha hs b ob e=>by
  obtain⟨_,_,KO⟩:=ha;refine(I.É b ob e).ē (λ c w' hc q=>(hs.2 c ?_).trans q) (λ _ q=>q) λ _ _ q=>q;rintro rfl;rcases hc with rfl | hc
  ·rw [KO] at e;cases e
  ·rw [KO] at hc;cases hc
 rcases hx with hk | hk
 ·refine wpAny_storeName_local hk hn (λ h' KP hs=>?_) Ly;obtain⟨oL,_,_,Si,_⟩:=id hn;refine h _ ⟨I.ok,I.os,I.bare,⟨λ b o e n hb hx=>?_,λ b o e n hb hx=>?_,I.base.free,λ b o e hx=>?_,I.base.Ĝ,I.base.Ĕ,I.base.ĝ,I.base.sys⟩,⟨_,KP,λ j y v' e1 e2 e3=>?_⟩,λ y c e=>?_,I.free,I.è,λ p hp=>?_,tracked ⟨oL,Si,I.free⟩ hs,by simpa using I.len⟩ ⟨_,hs,.inl rfl⟩
  ·exact(hs.2 b (Nat.ne_of_lt (Nat.lt_of_lt_of_le (Heap.lt_size e) I.ok.above))).trans (I.base.keep b o e n hb hx)
  ·obtain⟨sl,e1⟩:=I.base.slot b o e n hb hx;exact⟨sl,(hs.2 b (Nat.ne_of_lt (Nat.lt_of_lt_of_le (Heap.lt_size e) I.ok.above))).trans e1⟩
  ·obtain⟨o',e1⟩:=I.base.there b o e hx;exact⟨o',(hs.2 b (Nat.ne_of_lt (Nat.lt_of_lt_of_le (Heap.lt_size e) I.ok.above))).trans e1⟩
  ·by_cases hj:j=i
   ·subst hj;rw [hi] at e1;cases e1;rw [List.getElem?_set_self Ŷ] at e2;cases e2;exact⟨u,r,.inl ⟨hk,by simp⟩⟩
   ·rw [List.getElem?_set_ne (Ne.symm hj)] at e2;obtain⟨u',r',q⟩:=hl j y v' e1 e2 e3;refine⟨u',r',?_⟩;rcases q with⟨k,e⟩ | ⟨k,c,e,z⟩
    ·refine .inl ⟨k,?_⟩;have:y≠x:=λ e=>hj (jd hN e1 (e ▸ hi));simp [this,e]
    ·exact .inr ⟨k,c,e,z.sameBut hs (Jl y c e)⟩
  ·obtain⟨w',z⟩:=I.cell y c e;exact⟨w',z.sameBut hs (Jl y c e)⟩
  ·obtain⟨e,n,ne,nf,d⟩:=I.pin p hp;exact⟨(hs.2 p.1 ne).trans e,n,ne,nf,d⟩
 ·have Pc:X.fn x=true:=by
   rcases hf with z | z
   ·exact z
   ·rw [z] at hk;cases hk
  obtain⟨c,hc⟩:=I.ok.has x (.inl hk);obtain⟨w',z⟩:=I.cell x c hc;refine wpAny_storeName_cell I.ok.kind hk hc z (λ h' ŝ hs=>?_);obtain⟨oc,Sj,Pd⟩:=id z;refine h { s with heap:=h' } ⟨I.ok,I.os,I.bare,⟨λ b o e n hb hx=>?_,λ b o e n hb hx=>?_,I.base.free,λ b o e hx=>?_,I.base.Ĝ,I.base.Ĕ,I.base.ĝ,I.base.sys⟩,⟨m,hn.sameBut hs (Ne.symm (Jl x c hc)),λ j y v' e1 e2 e3=>?_⟩,λ y c' e=>?_,I.free,I.è,λ p hp=>?_,tracked ⟨oc,Sj,I.è x c hc⟩ hs,by simpa using I.len⟩ ⟨c,hs,.inr hc⟩
  ·exact(hs.2 b (Nat.ne_of_lt (Nat.lt_of_lt_of_le (Heap.lt_size e) (I.ok.KN x c Pc hc)))).trans (I.base.keep b o e n hb hx)
  ·obtain⟨sl,e1⟩:=I.base.slot b o e n hb hx;exact⟨sl,(hs.2 b (Nat.ne_of_lt (Nat.lt_of_lt_of_le (Heap.lt_size e) (I.ok.KN x c Pc hc)))).trans e1⟩
  ·obtain⟨o',e1⟩:=I.base.there b o e hx;exact⟨o',(hs.2 b (Nat.ne_of_lt (Nat.lt_of_lt_of_le (Heap.lt_size e) (I.ok.KN x c Pc hc)))).trans e1⟩
  ·by_cases hj:j=i
   ·subst hj;rw [hi] at e1;cases e1;rw [List.getElem?_set_self Ŷ] at e2;cases e2;exact⟨u,r,.inr ⟨.inl hk,c,hc,ŝ⟩⟩
   ·rw [List.getElem?_set_ne (Ne.symm hj)] at e2;obtain⟨u',r',q⟩:=hl j y v' e1 e2 e3;refine⟨u',r',?_⟩;rcases q with q | ⟨k,c',e,z'⟩
    ·exact .inl q
    ·refine .inr ⟨k,c',e,z'.sameBut hs ?_⟩;rintro rfl;exact hj (jd hN e1 (I.ok.inj _ _ _ e hc ▸ hi))
  ·by_cases Sk:c'=c
   ·subst Sk;exact⟨_,ŝ⟩
   ·obtain⟨w2,z2⟩:=I.cell y c' e;exact⟨w2,z2.sameBut hs Sk⟩
  ·obtain⟨e,n,ne,nf,d⟩:=I.pin p hp;refine⟨(hs.2 p.1 ?_).trans e,n,ne,nf,d⟩;intro q;rw [q,Sj] at e;have q':oc=p.2:=Option.some.inj e;exact d w' (by rw [<- q'];exact Pd)
theorem dI {M:Model}{A:Around}{E:Value->Shared->Prop}{i:Nat}{x:Str}{v:V}{u:Value}{Q:Unit->Shared->Prop}(I:Inv X pins σ H s)(hN:X.N.Nodup)(hi:X.N[i]?=some x)(hx:yJ X.env.scope x)(r:RelV v u)
  (h:∀ s',Inv X pins (σ.set i (some v)) H s'->Q () s')(hf:X.fn x=true\/X.env.scope.names.lookup x=some .local:=by first | exact .inl rfl | exact .inr rfl | assumption):wpAny M A (storeName X.env x u) Q E s :=
 jT I hN hi hx r (λ s' I' _=>h s' I') hf
theorem Inv.Ů {s':Shared}{ch:List Addr}(I:Inv X pins σ H s)(ho:s'.os=s.os)(u:Un (jN X.stack) ch H H' s.heap s'.heap)(É:õ X.prog X.w H' s'.heap)(hg:AllBare s'.gens)
  (J1:∀ b∈ch,(b∈X.ex\/X.ã.heap.objs.size<=b)/\b≠X.env.locals/\(∀ x c,X.env.cells.lookup x=some c->c≠b)/\∀ p∈X.pn++pins,p.1≠b):Inv X pins σ H' s':=by
 obtain⟨h',g',d',t',o'⟩:=s';have e:o'=s.os:=ho;subst e;exact I.call (g':=g') (t':=t') (d':=d') u É hg J1
end
abbrev XK:=Value->Option Addr->Hp->Prop
abbrev St:=List (Option V)
abbrev VK:=V->Hp->Prop
abbrev TE:=St->Hp->VK->Prop
abbrev TT:=St->Hp->(Bool->Hp->Prop)->Prop
abbrev TA:=St->Hp->(List V->Hp->Prop)->Prop
structure bA where
 nx:St->Hp->Prop
 rt:VK
 bk:St->Hp->Prop:=λ _ _=>False
 ct:St->Hp->Prop:=λ _ _=>False
abbrev TS:=bA->St->Hp->Prop
def EP (X:Cx)(pins:List (Addr × Obj))(σ:St)(Q:VK)(u:Value)(s':Shared):Prop:=∃ v H',Inv X pins σ H' s'/\RelV v u/\Q v H'
def TP (X:Cx)(pins:List (Addr × Obj))(σ:St)(Q:Bool->Hp->Prop)(b:Bool)(s':Shared):Prop:=∃ H',Inv X pins σ H' s'/\Q b H'
def AP (X:Cx)(pins:List (Addr × Obj))(σ:St)(Q:List V->Hp->Prop)(us:List Value)(s':Shared):Prop:=∃ vs H',Inv X pins σ H' s'/\Vals vs us/\Q vs H'
def SP (X:Cx)(pins:List (Addr × Obj))(D:bA)(f:Flow)(s':Shared):Prop :=
 match f with
 | .next=>∃ Ï H',Inv X pins Ï H' s'/\D.nx Ï H'
 | .brk=>∃ Ï H',Inv X pins Ï H' s'/\D.bk Ï H'
 | .cont=>∃ Ï H',Inv X pins Ï H' s'/\D.ct Ï H'
 | .ret u=>∃ v Ï H',Inv X pins Ï H' s'/\RelV v u/\D.rt v H'
def PE (X:Cx)(e:Expr)(t:TE):Prop :=
 ∀(pins:List (Addr × Obj))(s:Shared)(σ:St)(H:Hp)(Q:VK),Inv X pins σ H s->t σ H Q->wpAny (model X.prog X.w) X.A (eval e X.env) (EP X pins σ Q) X.xe s
def PT (X:Cx)(e:Expr)(t:TT):Prop :=
 ∀(pins:List (Addr × Obj))(s:Shared)(σ:St)(H:Hp)(Q:Bool->Hp->Prop),Inv X pins σ H s->t σ H Q->wpAny (model X.prog X.w) X.A (isTrue e X.env (eval e X.env)) (TP X pins σ Q) X.xe s
def PW (X:Cx)(e:Expr)(t:TT):Prop :=
 ∀(whole:Sem Value)(pins:List (Addr × Obj))(s:Shared)(σ:St)(H:Hp)(Q:Bool->Hp->Prop),Inv X pins σ H s->t σ H Q->wpAny (model X.prog X.w) X.A (isTrue e X.env whole) (TP X pins σ Q) X.xe s
theorem PW.pt {X:Cx}{e:Expr}{t:TT}(h:PW X e t):PT X e t:=h _
def PA (X:Cx)(es:List Expr)(t:TA):Prop :=
 ∀(pos:Pos)(pins:List (Addr × Obj))(s:Shared)(σ:St)(H:Hp)(Q:List V->Hp->Prop),Inv X pins σ H s->t σ H Q->wpAny (model X.prog X.w) X.A (spliced (backTo pos (starEach es X.env))) (AP X pins σ Q) X.xe s
def PS (X:Cx)(st:Stmt)(t:TS):Prop :=
 ∀(pins:List (Addr × Obj))(s:Shared)(σ:St)(H:Hp)(D:bA),Inv X pins σ H s->t D σ H->wpAny (model X.prog X.w) X.A (exec st X.env) (SP X pins D) X.xe s
def ü (X:Cx)(st:List Stmt)(t:TS):Prop :=
 ∀(pins:List (Addr × Obj))(s:Shared)(σ:St)(H:Hp)(D:bA),Inv X pins σ H s->t D σ H->wpAny (model X.prog X.w) X.A (execs st X.env) (SP X pins D) X.xe s
theorem aT {α:Type}{t:Sem α}{Q Q':α->Shared->Prop}{M:Model}{A:Around}{E:Value->Shared->Prop}{s:Shared}(h:wpAny M A t Q E s)(hQ:∀ a s,Q a s->Q' a s):wpAny M A t Q' E s:=wpAny_mono h hQ λ _ _ x=>x
section
variable {X:Cx}
theorem IR {a b:Expr}{ta tb:TE}(ha:PE X a ta)(hb:PE X b tb){pins:List (Addr × Obj)}{s:Shared}{σ:St}{H:Hp}{R:V->V->Hp->Prop}(I:Inv X pins σ H s)(h:ta σ H λ x H1=>tb σ H1 λ y H2=>R x y H2)
  {α:Type}{Q:α->Shared->Prop}{f:Value->Value->Sem α}
  (hf:∀ v u s2 x y H2,Inv X pins σ H2 s2->RelV x v->RelV y u->R x y H2->wpAny (model X.prog X.w) X.A (f v u) Q X.xe s2) :
  wpAny (model X.prog X.w) X.A (eval a X.env) (λ v Ç=>wpAny (model X.prog X.w) X.A (eval b X.env) (λ u ï=>wpAny (model X.prog X.w) X.A (f v u) Q X.xe ï) X.xe Ç) X.xe s:=by
 refine aT (ha pins s σ H _ I h) λ v s1 ⟨x,H1,I1,r1,q1⟩=>?_;refine aT (hb pins s1 σ H1 _ I1 q1) λ u s2 ⟨y,H2,I2,r2,q2⟩=>?_;exact hf v u s2 x y H2 I2 r1 r2 q2
def af (i:Nat):TE:=λ σ H Q=>∃ v,σ[i]?=some (some v)/\Q v H
def tC (v:V):TE:=λ _ H Q=>Q v H
theorem Az {i:Nat}{x:Str}{pos:Pos}(hN:X.N[i]?=some x)(hv:w4 X.env.scope x)(hd:(x==("__debug__" : Str))=false:=by decide)(ŷ:(x==("__classdict__" : Str))=false:=by decide):PE X (.Name x pos) (af i):=by
 intro pins s σ H Q I h;obtain⟨v,e,h⟩:=h;obtain⟨m,hn,hl⟩:=I.loc;obtain⟨u,r,l⟩:=hl i x v hN e hv;have fin:EP X pins σ Q u s:=⟨v,H,I,r,h⟩;rcases l with⟨hk,hm⟩ | ⟨hk,c,hc,Ğ⟩
 ·exact wpAny_Name (wpAny_loadName_local I.ok.kind hk hn hm fin) hd
 ·rcases hk with hk | hk
  ·exact wpAny_Name (wpAny_loadName_cell I.ok.kind hk hc Ğ fin) hd
  ·exact wpAny_Name (wpAny_loadName_free I.ok.kind hk hc Ğ fin ŷ) hd
theorem ay {i j pos}:PE X (.Constant (.int i) j pos) (tC (.int i)):=λ _ _ _ H _ I h=>wpAny_Constant_int ⟨.int i,H,I.tok _,⟨_,rfl⟩,h⟩
theorem ug {b j pos}:PE X (.Constant (.bool b) j pos) (tC (.bl b)):=λ _ _ _ H _ I h=>Constant_bool ⟨.bl b,H,I,rfl,h⟩
theorem gz {j pos}:PE X (.Constant .none j pos) (tC .Æ):=λ _ _ _ H _ I h=>Constant_none ⟨.Æ,H,I,rfl,h⟩
theorem aw {x j pos}:PE X (.Constant (.str x) j pos) (tC (.str x)):=λ _ _ _ H _ I h=>Calls.Constant_str ⟨.str x,H,I.tok _,⟨_,rfl⟩,h⟩
def Gl (X:Cx)(x:Str):Prop:=X.env.kindOf x=some .globalImplicit
theorem c7 {E:Value->Shared->Prop}{pins:List (Addr × Obj)}{s:Shared}{σ:St}{H:Hp}{x:Str}{u:Value}{pos:Pos}{Q:Value->Shared->Prop}(I:Inv X pins σ H s)(hg:Gl X x)(hm:X.mg x=some u)(h:Q u s)
  (hd:(x==("__debug__" : Str))=false:=by decide):wpAny (model X.prog X.w) X.A (eval (.Name x pos) X.env) Q E s :=
 Calls.Name_function_global I.ok.kind hg (Calls.loadGlobal_global (by rw [I.ok.glob];exact I.mod.glob.keeps I.bk) hm h) hd
theorem gB {E:Value->Shared->Prop}{pins:List (Addr × Obj)}{s:Shared}{σ:St}{H:Hp}{x:Str}{u:Value}{pos:Pos}{Q:Value->Shared->Prop}(I:Inv X pins σ H s)(hg:Gl X x)(hm:X.mg x=none)(hv:bootBuiltins x=some u)(h:Q u s)
  (hn:x ≠ "__name__" := by decide)(hd:(x==("__debug__" : Str))=false:=by decide):wpAny (model X.prog X.w) X.A (eval (.Name x pos) X.env) Q E s:=by
 obtain⟨mb,h1,h2⟩:=I.mod.blt;exact Calls.Name_function_global I.ok.kind hg (Calls.loadGlobal_builtin (by rw [I.ok.glob];exact I.mod.glob.keeps I.bk) hm (by rw [I.ok.blt];exact h1.keeps I.bk) ((h2 x hn).trans hv) h) hd
theorem bT {x:Str}{v:V}{u:Value}{pos:Pos}(hg:Gl X x)(hm:X.mg x=some u)(r:RelV v u)(hd:(x==("__debug__" : Str))=false:=by decide):PE X (.Name x pos) (tC v) :=
 λ _ _ _ H _ I h=>c7 I hg hm ⟨v,H,I,r,h⟩ hd
theorem vf {x:Str}{v:V}{u:Value}{pos:Pos}(hg:Gl X x)(hm:X.mg x=none)(hv:bootBuiltins x=some u)(r:RelV v u)(hn:x ≠ "__name__" := by decide)(hd:(x==("__debug__" : Str))=false:=by decide):PE X (.Name x pos) (tC v) :=
 λ _ _ _ H _ I h=>gB I hg hm hv ⟨v,H,I,r,h⟩ hn hd
variable {a b:Expr}{ta tb:TE}{pos:Pos}
def PC (X:Cx)(op:CmpOp)(a b:Expr)(t:TE):Prop :=
 ∀(pins:List (Addr × Obj))(s:Shared)(σ:St)(H:Hp)(Q:VK),Inv X pins σ H s->t σ H Q ->
  wpAny (model X.prog X.w) X.A (eval a X.env) (λ v Ç=>wpAny (model X.prog X.w) X.A (eval b X.env) (λ u ï=>wpAny (model X.prog X.w) X.A (compareOp op v u) (EP X pins σ Q) X.xe ï) X.xe Ç) X.xe s
theorem tN (b:Expr){op:CmpOp}(h:op ≠ .In)(h2:op ≠ .NotIn):behindInMarks op b=false:=by
 have e1:(op==CmpOp.In)=false:=by cases op <;> first | rfl | exact absurd rfl h
 have e2:(op==CmpOp.NotIn)=false:=by cases op <;> first | rfl | exact absurd rfl h2
 cases b <;> simp [behindInMarks,e1,e2]
def tB (t:TE):TT:=λ σ H Q=>t σ H λ x H1=>∃ c,x=.bl c/\Q c H1
theorem G1 {op:CmpOp}{t:TE}(h:PC X op a b t)(h1:behindInMarks op b=false:=by first | exact tN _ (by decide) (by decide) | rfl):PT X (.Compare a [op] [b] pos) (tB t):=by
 intro pins s σ H Q I hw;refine wpAny_isTrue_Compare1 (aT (h pins s σ H _ I hw) λ v s1 h1=>aT h1 λ u s2 h2=>aT h2 λ c s3 ⟨x,H1,I1,r1,q1⟩=>?_) h1;obtain⟨d,rfl,q⟩:=q1;cases r1;exact wpAny_truthy_bool ⟨H1,I1,q⟩
theorem bI {e:Expr}{t:TE}(h:PE X e t)(he:∀ whole,isTrue e X.env whole=(do let v <- whole;standAt e.pos;holding [v] (truthy v)):=by intro _;rfl):PT X e (tB t):=by
 intro pins s σ H Q I hw;refine isTrue_plain (aT (h pins s σ H _ I hw) λ v s1 ⟨x,H1,I1,r1,q1⟩=>?_) (he _);obtain⟨d,rfl,q⟩:=q1;cases r1;exact wpAny_truthy_bool ⟨H1,I1,q⟩
variable {tA N9:TT}{rest:List Expr}
def qX (t u:TT):TT:=λ σ H Q=>t σ H λ c H1=>if c=true then u σ H1 Q else Q false H1
def xh (t u:TT):TT:=λ σ H Q=>t σ H λ c H1=>if c=true then Q true H1 else u σ H1 Q
def qW (t:TT):TT:=λ σ H Q=>t σ H λ c H1=>Q (!c) H1
theorem gh (ha:PT X a tA):PW X (.BoolOp .And [a] pos) tA:=by
 intro wh pins s σ H Q I h;refine isTrue_and (aT (ha pins s σ H Q I h) λ c s1 e=>?_);cases c with
 | true=>exact isTrue_and_nil e
 | false=>exact e
theorem fc (ha:PT X a tA):PW X (.BoolOp .Or [a] pos) tA:=by
 intro wh pins s σ H Q I h;refine isTrue_or (aT (ha pins s σ H Q I h) λ c s1 e=>?_);cases c with
 | false=>exact isTrue_or_nil e
 | true=>exact e
theorem im (ha:PT X a tA)(hb:PW X (.BoolOp .And (b::rest) pos) N9):PW X (.BoolOp .And (a::b::rest) pos) (qX tA N9):=by
 intro wh pins s σ H Q I h;refine isTrue_and (aT (ha pins s σ H _ I h) λ c s1 ⟨H1,I1,q1⟩=>?_);cases c with
 | true=>exact hb wh pins s1 σ H1 Q I1 q1
 | false=>exact⟨H1,I1,q1⟩
theorem fD (ha:PT X a tA)(hb:PW X (.BoolOp .Or (b::rest) pos) N9):PW X (.BoolOp .Or (a::b::rest) pos) (xh tA N9):=by
 intro wh pins s σ H Q I h;refine isTrue_or (aT (ha pins s σ H _ I h) λ c s1 ⟨H1,I1,q1⟩=>?_);cases c with
 | true=>exact⟨H1,I1,q1⟩
 | false=>exact hb wh pins s1 σ H1 Q I1 q1
theorem cu (ha:PT X a tA):PT X (.UnaryOp .Not a pos) (qW tA):=by
 intro pins s σ H Q I h;exact isTrue_not (ha pins s σ H (λ c H1=>Q (!c) H1) I h)
def pO (ta tb:TE):TE:=λ σ H Q=>ta σ H λ x H1=>∃ c,x=.bl c/\if c=true then tb σ H1 Q else Q (.bl false) H1
def zu (ta tb:TE):TE:=λ σ H Q=>ta σ H λ x H1=>∃ c,x=.bl c/\if c=true then Q (.bl true) H1 else tb σ H1 Q
def xn (ta:TE):TE:=λ σ H Q=>ta σ H λ x H1=>∃ c,x=.bl c/\Q (.bl (!c)) H1
theorem eD {op}{t:TE}(h:PE X a t):PE X (.BoolOp op [a] pos) t:=λ pins s σ H Q I hw=>BoolOp_one (h pins s σ H Q I hw)
theorem dy (ha:PE X a ta)(hb:PE X (.BoolOp .And (b::rest) pos) tb):PE X (.BoolOp .And (a::b::rest) pos) (pO ta tb):=by
 intro pins s σ H Q I h;refine BoolOp_and (aT (ha pins s σ H _ I h) λ v s1 ⟨x,H1,I1,r1,q1⟩=>?_);obtain⟨c,rfl,q1⟩:=q1;cases r1;refine wpAny_truthy_bool ?_;cases c with
 | true=>exact hb pins s1 σ H1 Q I1 q1
 | false=>exact⟨.bl false,H1,I1,rfl,q1⟩
theorem E1 (ha:PE X a ta)(hb:PE X (.BoolOp .Or (b::rest) pos) tb):PE X (.BoolOp .Or (a::b::rest) pos) (zu ta tb):=by
 intro pins s σ H Q I h;refine BoolOp_or (aT (ha pins s σ H _ I h) λ v s1 ⟨x,H1,I1,r1,q1⟩=>?_);obtain⟨c,rfl,q1⟩:=q1;cases r1;refine wpAny_truthy_bool ?_;cases c with
 | false=>exact hb pins s1 σ H1 Q I1 q1
 | true=>exact⟨.bl true,H1,I1,rfl,q1⟩
theorem oV (ha:PE X a ta):PE X (.UnaryOp .Not a pos) (xn ta):=by
 intro pins s σ H Q I h;refine UnaryOp_ (aT (ha pins s σ H _ I h) λ v s1 ⟨x,H1,I1,r1,q1⟩=>?_);obtain⟨c,rfl,q1⟩:=q1;cases r1;exact not_of (wpAny_truthy_bool ⟨.bl (!c),H1,I1,rfl,q1⟩)
def IO (t:TT)(ta tb:TE):TE:=λ σ H Q=>t σ H λ c H1=>if c=true then ta σ H1 Q else tb σ H1 Q
theorem nv {c:Expr}(hc:PT X c tA)(ha:PE X a ta)(hb:PE X b tb):PE X (.IfExp c a b pos) (IO tA ta tb):=by
 intro pins s σ H Q I h;refine wpAny_IfExp (aT (hc pins s σ H _ I h) λ d s1 ⟨H1,I1,q1⟩=>?_);cases d with
 | true=>exact ha pins s1 σ H1 Q I1 q1
 | false=>exact hb pins s1 σ H1 Q I1 q1
end
def Ã (K:PySem.W.Frag)(H:Hp)(a:Addr)(xs:List V):Prop :=
 Rd H a (.lst xs) \/
  ∃(o:Obj)(its:Array Value)(n:Nat),K.lookup a=some o/\o.cls=.type "list" /\ o.dict=none/\o.data=.seq its n/\its.size<=sizeLine/\Vals xs its.toList
def Ì (K:PySem.W.Frag)(H:Hp)(a:Addr)(xs:List V):Prop :=
 Rd H a (.tup xs) \/
  ∃(o:Obj)(its:Array Value)(n:Nat),K.lookup a=some o/\o.cls=.type "tuple" /\ o.data=.seq its n/\its.size<=sizeLine/\Vals xs its.toList
def zD:Value->Option V
 | .none=>some .Æ
 | .bool b=>some (.bl b)
 | .int i _=>some (.int i)
 | .str x _=>some (.str x)
 | .bytes b _=>some (.Jb b)
 | .float b _=>some (.JY b)
 | .ref a=>some (.ref a)
 | .type n=>some (.ty n)
 | _=>none
theorem RelV.abs {x:V}{u:Value}(r:RelV x u):zD u=some x:=by
 cases x with
 | Æ=>cases r;rfl
 | bl _=>cases r;rfl
 | int _=>obtain⟨t,rfl⟩:=r;rfl
 | str _=>obtain⟨t,rfl⟩:=r;rfl
 | Jb _=>obtain⟨t,rfl⟩:=r;rfl
 | JY _=>obtain⟨t,rfl⟩:=r;rfl
 | ref _=>cases r;rfl
 | ty _=>cases r;rfl
theorem RelV.inj {x y:V}{u:Value}(r:RelV x u)(q:RelV y u):x=y:=Option.some.inj (r.abs.symm.trans q.abs)
theorem Vals.inj:∀{xs ys:List V}{us:List Value},Vals xs us->Vals ys us->xs=ys
 | _,_,_,.nil,.nil=>rfl
 | _,_,_,.cons r t,.cons r' t'=>by rw [r.inj r',Vals.inj t t']
section
variable {X:Cx}{pins:List (Addr × Obj)}{σ:St}{H:Hp}{s:Shared}{a:Addr}{xs ys:List V}
theorem Ã.of {K:PySem.W.Frag}(h:H a=some (.lst xs)):Ã K H a xs:=.inl (.inl h)
theorem Ì.of {K:PySem.W.Frag}(h:H a=some (.tup xs)):Ì K H a xs:=.inl (.inl h)
theorem Inv.list (I:Inv X pins σ H s)(h:Ã X.K H a xs):∃ its:List Value,Vals xs its/\PlainL s.heap a its.toArray/\xs.length<=sizeLine:=by
 rcases h with h | ⟨o,its,n,hk,hc,hd,hs,hz,r⟩
 ·obtain⟨z,its,n,r,e⟩:=h.ok I.É;exact⟨its,r,⟨_,n,e,rfl,rfl,rfl⟩,z⟩
 ·refine⟨its.toList,r,⟨o,n,I.Ý a o hk,hc,hd,by simpa using hs⟩,?_⟩
  have e:=r.length;simp only [Array.length_toList] at e;omega
theorem Inv.tuple (I:Inv X pins σ H s)(h:Ì X.K H a xs):∃ its:List Value,Vals xs its/\IsTup s.heap a its.toArray/\xs.length<=sizeLine:=by
 rcases h with h | ⟨o,its,n,hk,hc,hs,hz,r⟩
 ·obtain⟨z,its,r,p⟩:=h.ok I.É;exact⟨its,r,p,z⟩
 ·refine⟨its.toList,r,⟨o,I.Ý a o hk,hc,n,by simpa using hs⟩,?_⟩
  have e:=r.length;simp only [Array.length_toList] at e;omega
theorem Inv.ğ (I:Inv X pins σ H s)(h:Ã X.K H a xs)(h':Ã X.K H a ys):xs=ys:=by
 obtain⟨its,r,⟨o,n,e,_,_,d⟩,_⟩:=I.list h;obtain⟨its',r',⟨o',n',e',_,_,d'⟩,_⟩:=I.list h';rw [e] at e';cases e';rw [d] at d';injection d' with d1 _
 have:its=its':=by simpa using congrArg Array.toList d1
 subst this;exact r.inj r'
theorem Inv.ĵ (I:Inv X pins σ H s)(h:Ì X.K H a xs)(h':Ì X.K H a ys):xs=ys:=by
 obtain⟨its,r,⟨o,e,_,n,d⟩,_⟩:=I.tuple h;obtain⟨its',r',⟨o',e',_,n',d'⟩,_⟩:=I.tuple h';rw [e] at e';cases e';rw [d] at d';injection d' with d1 _
 have:its=its':=by simpa using congrArg Array.toList d1
 subst this;exact r.inj r'
end
abbrev Cx.ĭ (X:Cx)(E:Value->Shared->Prop):Cx:={ X with xe:=E }
abbrev Cx.ä (X:Cx):Cx:=X.ĭ λ _ _=>False
theorem Cx.Ok.ĭ {X:Cx}(ok:X.Ok)(E:Value->Shared->Prop):(X.ĭ E).Ok :=
 ⟨ok.mod,ok.kind,ok.glob,ok.blt,ok.above,ok.inj,ok.has,ok.KN,ok.hd,ok.frames,ok.Lv,ok.Mz,ok.bs,ok.Ŭ,ok.Ļ,ok.Ŝ,ok.ć,ok.JZ⟩
theorem Cx.Ok.ā {X:Cx}{E:Value->Shared->Prop}(ok:(X.ĭ E).Ok):X.Ok :=
 ⟨ok.mod,ok.kind,ok.glob,ok.blt,ok.above,ok.inj,ok.has,ok.KN,ok.hd,ok.frames,ok.Lv,ok.Mz,ok.bs,ok.Ŭ,ok.Ļ,ok.Ŝ,ok.ć,ok.JZ⟩
section
variable {X:Cx}{pins:List (Addr × Obj)}{σ:St}{H:Hp}{s:Shared}{E:Value->Shared->Prop}
theorem Inv.ĭ (I:Inv X pins σ H s)(E:Value->Shared->Prop):Inv (X.ĭ E) pins σ H s:=⟨I.ok.ĭ E,I.os,I.bare,I.base,I.loc,I.cell,I.free,I.è,I.pin,I.É,I.len⟩
theorem Inv.ā (I:Inv (X.ĭ E) pins σ H s):Inv X pins σ H s:=⟨I.ok.ā,I.os,I.bare,I.base,I.loc,I.cell,I.free,I.è,I.pin,I.É,I.len⟩
theorem SP.ā {D:bA}{f:Flow}{s':Shared}(h:SP (X.ĭ E) pins D f s'):SP X pins D f s':=by
 cases f with
 | next=>obtain⟨Ï,H',I,q⟩:=h;exact⟨Ï,H',I.ā,q⟩
 | brk=>obtain⟨Ï,H',I,q⟩:=h;exact⟨Ï,H',I.ā,q⟩
 | cont=>obtain⟨Ï,H',I,q⟩:=h;exact⟨Ï,H',I.ā,q⟩
 | ret u=>obtain⟨v,Ï,H',I,r,q⟩:=h;exact⟨v,Ï,H',I.ā,r,q⟩
theorem ü.ä {st:List Stmt}{t:TS}(h:ü X.ä st t):ü X st t:=λ pins s σ H D I hw =>
 wpAny_mono (h pins s σ H D (I.ĭ _) hw) (λ _ _ q=>q.ā) λ _ _ z=>False.elim z
variable {st:Stmt}{rest:List Stmt}{t u:TS}{e:Expr}{te:TE}{pos:Pos}
def bS:TS:=λ D σ H=>D.nx σ H
def aH (t u:TS):TS:=λ D σ H=>t { D with nx:=u D } σ H
theorem gG:ü X [] bS:=λ _ _ σ H _ I h=>wpAny_execs_nil ⟨σ,H,I,h⟩
theorem cw (h1:PS X st t)(h2:ü X rest u):ü X (st::rest) (aH t u):=by
 intro pins s σ H D I h;refine wpAny_execs_cons (aT (h1 pins s σ H { D with nx:=u D } I h) λ f s1 q=>?_)
 cases f with
 | next =>
  obtain⟨Ï,H',I',q⟩:=q;exact h2 pins s1 Ï H' D I' q
 | ret v=>exact q
 | brk=>exact q
 | cont=>exact q
theorem aY (h1:PS X st t):ü X [st] t:=by
 intro pins s σ H D I h;refine wpAny_execs_cons (aT (h1 pins s σ H D I h) λ f s1 q=>?_);cases f with
 | next=>exact wpAny_execs_nil q
 | ret v=>exact q
 | brk=>exact q
 | cont=>exact q
theorem vp:PS X (.Pass pos) bS:=λ _ _ σ H _ I h=>wpAny_Pass ⟨σ,H,I,h⟩
theorem Inv.quiet {pins:List (Addr × Obj)}{σ:St}{H:Hp}{s:Shared}(I:Inv X pins σ H s):interactive X.env=false:=by simp [interactive,I.ok.kind]
def iB (te:TE):TS:=λ D σ H=>te σ H λ _ H1=>D.nx σ H1
theorem aq (he:PE X e te)(hs:swapsWith e none pos.line X.env=pure false:=by rfl):PS X (.Expr e pos) (iB te):=by
 intro pins s σ H D I h;exact wpAny_Expr_any (aT (he pins s σ H _ I h) λ v s1 ⟨x,H1,I1,r1,q1⟩=>⟨σ,H1,I1,q1⟩) I.quiet hs
def bN (te:TE):TS:=λ D σ H=>te σ H D.rt
theorem cZ (he:PE X e te):PS X (.Return (some e) pos) (bN te):=by
 intro pins s σ H D I h;exact wpAny_Return_some (aT (he pins s σ H _ I h) λ v s1 ⟨x,H1,I1,r1,q1⟩=>⟨x,σ,H1,I1,r1,q1⟩)
def dz (c:TT)(t u:TS):TS:=λ D σ H=>c σ H λ b H1=>if b=true then t D σ H1 else u D σ H1
theorem bo {c:Expr}{a b:List Stmt}{tc:TT}(hc:PT X c tc)(ha:ü X a t)(hb:ü X b u):PS X (.If c a b pos) (dz tc t u):=by
 intro pins s σ H D I h;refine wpAny_If (aT (hc pins s σ H _ I h) λ d s1 ⟨H1,I1,q1⟩=>?_);cases d with
 | true=>exact ha pins s1 σ H1 D I1 q1
 | false=>exact hb pins s1 σ H1 D I1 q1
end
abbrev TG:=V->St->Hp->(St->Hp->Prop)->Prop
abbrev vy:=List V->St->Hp->(St->Hp->Prop)->Prop
def PG (X:Cx)(target:Expr)(t:TG):Prop :=
 ∀(pins:List (Addr × Obj))(s:Shared)(σ:St)(H:Hp)(v:V)(u:Value)(Q:St->Hp->Prop),Inv X pins σ H s->RelV v u->t v σ H Q ->
  wpAny (model X.prog X.w) X.A (assign target X.env u) (λ _ s'=>∃ Ï H',Inv X pins Ï H' s'/\Q Ï H') X.xe s
def E6 (X:Cx)(ts:List Expr)(t:vy):Prop :=
 ∀(pins:List (Addr × Obj))(s:Shared)(σ:St)(H:Hp)(vs:List V)(us:List Value)(Q:St->Hp->Prop),Inv X pins σ H s->Vals vs us->t vs σ H Q ->
  wpAny (model X.prog X.w) X.A (assignInOrder ((assignEach ts X.env).map (·.2)) us) (λ _ s'=>∃ Ï H',Inv X pins Ï H' s'/\Q Ï H') X.xe s
abbrev sj:=V->V->V->Hp->(Hp->Prop)->Prop
def AV (X:Cx)(t:sj):Prop :=
 ∀(pins:List (Addr × Obj))(s:Shared)(σ:St)(H:Hp)(o i v:V)(ov iv u:Value)(Q:Hp->Prop),Inv X pins σ H s->RelV o ov->RelV i iv->RelV v u->t o i v H Q ->
  wpAny (model X.prog X.w) X.A (setItem ov iv u) (λ _ s'=>∃ H',Inv X pins σ H' s'/\Q H') X.xe s
abbrev FF:=V->V->Hp->VK->Prop
def HR (X:Cx)(op:Operator)(t:FF):Prop :=
 ∀(pins:List (Addr × Obj))(s:Shared)(σ:St)(H:Hp)(x y:V)(v u:Value)(Q:VK),Inv X pins σ H s->RelV x v->RelV y u->t x y H Q ->
  wpAny (model X.prog X.w) X.A (inplaceOp op v u) (EP X pins σ Q) X.xe s
section
variable {X:Cx}{pos:Pos}
def aW (i:Nat):TG:=λ v σ H Q=>Q (σ.set i (some v)) H
theorem bV {i:Nat}{x:Str}(hN:X.N.Nodup)(hi:X.N[i]?=some x)(hx:yJ X.env.scope x)(hf:X.fn x=true\/X.env.scope.names.lookup x=some .local:=by first | exact .inl rfl | exact .inr rfl | assumption):PG X (.Name x pos) (aW i):=by
 intro pins s σ H v u Q I r h;exact wpAny_assign_Name (dI I hN hi hx r (λ s' I'=>⟨_,H,I',h⟩) hf)
def gI:vy:=λ vs σ H Q=>vs=[]/\Q σ H
def bE (t:TG)(u:vy):vy:=λ vs σ H Q=>∃ v r,vs=v::r/\t v σ H λ Ï H'=>u r Ï H' Q
theorem aU:E6 X [] gI:=by
 intro pins s σ H vs us Q I r h;obtain⟨e,h⟩:=h;subst e;cases r;exact assignInOrder_nil ⟨σ,H,I,h⟩
theorem dq {e:Expr}{es:List Expr}{t:TG}{u:vy}(h1:PG X e t)(h2:E6 X es u)
  (hs:(assignEach (e::es) X.env).map (·.2)=assign e X.env::(assignEach es X.env).map (·.2):=by rfl):E6 X (e::es) (bE t u):=by
 intro pins s σ H vs us Q I r h;obtain⟨v,vr,e1,h⟩:=h;subst e1;cases r with
 | cons r rr =>
  rw [hs];refine assignInOrder_cons (aT (h1 pins s σ H _ _ _ I r h) λ _ s1 ⟨Mf,H1,I1,q1⟩=>?_);exact h2 pins s1 Mf H1 _ _ Q I1 rr q1
def ib (K:PySem.W.Frag)(n:Nat)(t:vy):TG:=λ v σ H Q=>∃ a xs,v=.ref a/\Ì K H a xs/\xs.length=n/\t xs σ H Q
theorem bq {es:List Expr}{k:Nat}{t:vy}{n:Nat}(hc:X.calm=true)(h:E6 X es t)
  (hn:(assignEach es X.env).length=n:=by rfl)(Jc:(assignEach es X.env).findIdx? (·.1)=none:=by rfl):PG X (.Tuple es k pos) (ib X.K n t):=by
 intro pins s σ H v u Q I r hw;obtain⟨a,xs,e1,hq,hl,hw⟩:=hw;subst e1;cases r;obtain⟨its,rv,ht,hz⟩:=I.tuple hq;refine assign_Tuple_tuple (I.ok.hd hc) ht (by simp [hn,<- hl,rv.length]) Jc λ h' hx=>?_
 have I1:Inv X pins σ H { s with heap:=h' }:=I.kept (t':=s.toks) λ b o e=>hx b o (Nat.ne_of_lt (Heap.lt_size e)) e
 exact h pins _ σ H xs _ Q I1 (by simpa using rv) hw
def Fd (to ti:TE)(t:sj):TG:=λ v σ H Q=>to σ H λ o H1=>ti σ H1 λ i H2=>t o i v H2 λ H3=>Q σ H3
theorem kT {o i:Expr}{to ti:TE}{t:sj}(ho:PE X o to)(hi:PE X i ti)(hs:AV X t)
  (ha:∀ v,assign (.Subscript o i pos) X.env v=(do
   let ov <- holding [v] (eval o X.env)
   let iv <- holding [v,ov] (eval i X.env)
   standAt pos
   holding [v,ov,iv] (setItem ov iv v)
   release [v,ov,iv] []):=by intro _;rfl):PG X (.Subscript o i pos) (Fd to ti t):=by
 intro pins s σ H v u Q I r h;rw [ha];refine wpAny_bind (wpAny_holding (aT (ho pins s σ H _ I h) λ ov s1 ⟨x,H1,I1,r1,q1⟩=>?_));refine wpAny_bind (wpAny_holding (aT (hi pins s1 σ H1 _ I1 q1) λ iv s2 ⟨y,H2,I2,r2,q2⟩=>?_));refine wpAny_bind (wpAny_standAt (wpAny_bind (wpAny_holding (aT (hs pins s2 σ H2 x y v ov iv u _ I2 r1 r2 r q2) λ _ s3 ⟨H3,I3,q3⟩=>?_))));exact wpAny_release ⟨σ,H3,I3,q3⟩
def cH (te:TE)(g:TG):TS:=λ D σ H=>te σ H λ x H1=>g x σ H1 D.nx
theorem ft {tg e:Expr}{te:TE}{g:TG}(he:PE X e te)(hg:PG X tg g)(hs:swapsWithSole [tg] e pos.line X.env=pure false:=by rfl)(hw:swappedStores [tg] e X.env=pure none:=by rfl)
  (h1:(assignEach [tg] X.env).map (·.2)=[assign tg X.env]:=by rfl):PS X (.Assign [tg] e pos) (cH te g):=by
 intro pins s σ H D I h;refine wpAny_Assign_stores (aT (he pins s σ H _ I h) λ v s1 ⟨x,H1,I1,r1,q1⟩=>?_) hs hw;rw [h1];exact aT (hg pins s1 σ H1 x v _ I1 r1 q1) λ _ s2 q=>q
theorem iI {i:Nat}{x:Str}{e:Expr}{te:TE}{pos':Pos}(hN:X.N.Nodup)(hi:X.N[i]?=some x)(hx:yJ X.env.scope x)(he:PE X e te)(hs:swapsWith e (some (.Name x pos')) pos.line X.env=pure false:=by rfl)(hf:X.fn x=true\/X.env.scope.names.lookup x=some .local:=by first | exact .inl rfl | exact .inr rfl | assumption) :
  PS X (.Assign [.Name x pos'] e pos) (cH te (aW i)):=by
 intro pins s σ H D I h;refine wpAny_Assign_Name (aT (he pins s σ H _ I h) λ v s1 ⟨y,H1,I1,r1,q1⟩=>?_) hs;exact dI I1 hN hi hx r1 (λ s2 I2=>⟨_,H1,I2,q1⟩) hf
def Gu (i j:Nat)(ta:TA):TS:=λ D σ H=>ta σ H λ vs H1=>∃ v w,vs=[v,w]/\D.nx ((σ.set i (some v)).set j (some w)) H1
theorem yj {i j:Nat}{x y:Str}{a b:Expr}{ta:TA}{px py pt:Pos} {kt k2 Pe}(hc:X.calm=true)(hN:X.N.Nodup)(hi:X.N[i]?=some x)(hj:X.N[j]?=some y)(UA:i≠j)
  (hx:X.env.scope.names.lookup x=some .local)(hy:X.env.scope.names.lookup y=some .local)(ha:PA X [a,b] ta)
  (hw:swappedStores [.Tuple [.Name x px,.Name y py] kt pt] (.Tuple [a,b] k2 Pe) X.env=pure (some [x,y]))
  (hs:swapsWithSole [.Tuple [.Name x px,.Name y py] kt pt] (.Tuple [a,b] k2 Pe) pos.line X.env=pure false:=by rfl) :
  PS X (.Assign [.Tuple [.Name x px,.Name y py] kt pt] (.Tuple [a,b] k2 Pe) pos) (Gu i j ta):=by
 intro pins s σ H D I h;rw [exec_Assign_arm];refine wpAny_bind (wpAny_standAt ?_);rw [hs];refine wpAny_bind (wpAny_pure ?_);rw [if_neg (by decide)]
 refine wpAny_bind (Tuple_ (aT (ha _ pins s σ H _ I h) λ us s1 ⟨vs,H1,I1,r1,q1⟩=>?_));obtain⟨v,w,e1,q1⟩:=q1;subst e1;obtain⟨u1,u2,rfl,rv,Jd⟩:∃ u1 u2,us=[u1,u2]/\RelV v u1/\RelV w u2:=by
  cases r1 with
  | cons p q =>
   cases q with
   | cons p' q' =>
    cases q';exact⟨_,_,rfl,p,p'⟩
 refine wpAny_newObj_type ?_ (by show 2<=sizeLine;decide)
 have I2:Inv X pins σ H1 { s1 with heap:=s1.heap.push { cls:=.type "tuple",data:=.seq [u1,u2].toArray } }:=I1.kept (t':=s1.toks) λ b o e=>Heap.get?_push_of_some _ e
 rw [hw];refine wpAny_bind (wpAny_pure ?_);show wpAny (model X.prog X.w) X.A (do rule "assign.swapped-stores";let items <- unpackItems (.ref s1.heap.objs.size) 2 none;assignInOrder [λ v=>bindName X.env y v,λ v=>bindName X.env x v] items.reverse;pure Flow.next) _ _ _
 refine wpAny_bind (wpAny_rule (wpAny_bind (unpackItems_tuple (items:=#[u1,u2]) (I.ok.hd hc) (IsTup.new s1.heap _) λ h' Jo=>?_)));have I3:=I2.kept (h':=h') (t':=s1.toks) λ b o e=>Jo b o (Nat.ne_of_lt (Heap.lt_size e)) e;show wpAny _ _ (assignInOrder [λ v=>bindName X.env y v,λ v=>bindName X.env x v] [u2,u1] >>= λ _=>pure Flow.next) _ _ _;refine wpAny_bind (assignInOrder_cons (wpAny_bindName (dI I3 hN hj (.inl hy) Jd (λ s2 I4=>?_) (.inr hy))));refine assignInOrder_cons (wpAny_bindName (dI I4 hN hi (.inl hx) rv (λ s3 I5=>assignInOrder_nil (wpAny_pure ?_)) (.inr hx)));rw [List.set_comm _ _ (Ne.symm UA)] at I5;exact⟨_,H1,I5,q1⟩
def xo (to ti te:TE)(Kb:V->V->Hp->VK->Prop)(Oa:FF)(Kc:sj):TS:=λ D σ H=>to σ H λ o H1=>ti σ H1 λ i H2=>Kb o i H2 λ x H3=>te σ H3 λ y H4=>Oa x y H4 λ z H5=>Kc o i z H5 λ H6=>D.nx σ H6
def D6 (X:Cx)(t:V->V->Hp->VK->Prop):Prop :=
 ∀(pins:List (Addr × Obj))(s:Shared)(σ:St)(H:Hp)(o i:V)(ov iv:Value)(Q:VK),Inv X pins σ H s->RelV o ov->RelV i iv->t o i H Q ->
  wpAny (model X.prog X.w) X.A (getItem ov iv) (EP X pins σ Q) X.xe s
theorem wf {o i e:Expr}{to ti te:TE}{Kb:V->V->Hp->VK->Prop}{Oa:FF}{Kc:sj}{op:Operator}{Lz:Pos}(ho:PE X o to)(hi:PE X i ti)(hg:D6 X Kb)(he:PE X e te)(hp:HR X op Oa)(hs:AV X Kc)
  (ha:∀ ov iv new,augStore i ov iv new=(do holding [new,ov,iv] (setItem ov iv new);release [new,ov,iv] [];pure .next):=by intros;rfl):PS X (.AugAssign (.Subscript o i Lz) op e pos) (xo to ti te Kb Oa Kc):=by
 intro pins s σ H D I h;refine wpAny_AugAssign_SubscriptAny (aT (ho pins s σ H _ I h) λ ov s1 ⟨x1,H1,I1,r1,q1⟩=>?_) ha;refine aT (hi pins s1 σ H1 _ I1 q1) λ iv s2 ⟨x2,H2,I2,r2,q2⟩=>?_;refine aT (hg pins s2 σ H2 x1 x2 ov iv _ I2 r1 r2 q2) λ old s3 ⟨x3,H3,I3,r3,q3⟩=>?_;refine aT (he pins s3 σ H3 _ I3 q3) λ v s4 ⟨x4,H4,I4,r4,q4⟩=>?_;refine aT (hp pins s4 σ H4 x3 x4 old v _ I4 r3 r4 q4) λ new s5 ⟨x5,H5,I5,r5,q5⟩=>?_;exact aT (hs pins s5 σ H5 x1 x2 x5 ov iv new _ I5 r1 r2 r5 q5) λ _ s6 ⟨H6,I6,q6⟩=>⟨σ,H6,I6,q6⟩
def Ie (f:Int->Int->Int):FF:=λ x y H Q=>∃ i j,x=.int i/\y=.int j/\Q (.int (f i j)) H
theorem A7:HR X .Add (Ie λ i j=>i+j):=by
 intro pins s σ H x y v u Q I r1 r2 h;obtain⟨i,j,e1,e2,q⟩:=h;subst e1;subst e2;obtain⟨t,rfl⟩:=r1;obtain⟨t',rfl⟩:=r2;exact iadd_int ⟨.int _,H,I.tok _,⟨_,rfl⟩,q⟩
def oh (c:TT)(tb:TS):TS:=λ D σ H=>∃ W:Nat->St->Hp->Prop,(∃ m,W m σ H)/\∀ m σ H,W m σ H ->
 c σ H λ b H1=>if b=true then ∃ N:St->Hp->Prop,(∀ Ï H',N Ï H'->∃ m',m'<m/\W m' Ï H')/\tb { D with nx:=N,ct:=N,bk:=D.nx } σ H1 else D.nx σ H1
theorem jF {c:Expr}{body:List Stmt}{tc:TT}{tb:TS}(hp:PassesOwn (model X.prog X.w) X.A X.env X.xe)(hc:PT X c tc)(hb:ü X body tb):PS X (.While c body [] pos) (oh tc tb):=by
 intro pins s σ H D I h;obtain⟨W,⟨m0,w0⟩,turn⟩:=h;refine wpAny_While (codeAny_whileLoop (λ n s'=>∃ Ï H',Inv X pins Ï H' s'/\W n Ï H') ?_ m0 ⟨σ,H,I,w0⟩);rintro n s1 ⟨Mf,H1,I1,w1⟩;refine wpAny_passesOwn hp (aT (hc pins s1 Mf H1 _ I1 (turn n Mf H1 w1)) λ b s2 ⟨H2,I2,q2⟩=>?_);cases b with
 | true =>
  obtain⟨N,hN,q2⟩:=q2;rw [if_pos rfl];refine wpAny_passesOwn hp (aT (hb pins s2 Mf H2 _ I2 q2) λ f s3 q3=>?_);cases f with
  | next =>
   obtain⟨Jp,H3,I3,n3⟩:=q3;obtain⟨m',hm,w3⟩:=hN Jp H3 n3;exact⟨m',hm,Jp,H3,I3,w3⟩
  | cont =>
   obtain⟨Jp,H3,I3,n3⟩:=q3;obtain⟨m',hm,w3⟩:=hN Jp H3 n3;exact⟨m',hm,Jp,H3,I3,w3⟩
  | brk=>exact q3
  | ret v=>exact q3
 | false =>
  rw [if_neg Bool.false_ne_true];exact wpAny_execs_nil ⟨Mf,H2,I2,q2⟩
end
structure It where
 go:Nat->Hp->Prop
 Ŋ:Nat->Hp->V->Hp->Prop
 stop:Nat->Hp->Prop
def dh (X:Cx)(pins:List (Addr × Obj))(H:Hp)(b:Addr):Prop :=
 H b=none/\b≠X.env.locals/\b ∉ X.fs/\(b∈X.ex\/X.ã.heap.objs.size<=b)/\(∀ x c,X.env.cells.lookup x=some c->c≠b)/\∀ p∈X.pn++pins,p.1≠b
theorem Inv.Jq {X:Cx}{pins:List (Addr × Obj)}{σ:St}{H H':Hp}{s:Shared}{b:Addr}(I:Inv X pins σ H s)(hb:s.heap.objs.size<=b)(hn:H' b=none):dh X pins H' b:=by
 refine⟨hn,Nat.ne_of_gt (Nat.lt_of_lt_of_le I.lt hb),I.O9 hb,.inr (Nat.le_trans I.sz hb),λ x c e z=>?_,λ p hp z=>?_⟩
 ·obtain⟨v,q⟩:=I.cell x c e;exact absurd (Nat.lt_of_lt_of_le q.lt (by rw [z];exact hb)) (Nat.lt_irrefl _)
 ·exact absurd (Nat.lt_of_lt_of_le (Heap.lt_size (I.pin p hp).1) (by rw [z];exact hb)) (Nat.lt_irrefl _)
structure qP (P:Program)(w:World)(K:PySem.W.Frag)(tg:Expr)(J:It)(fp:List Addr)(it:Addr)(tn:Nat->Heap->Prop):Prop where
 mem:it∈fp
 obj:∀ i h,tn i h->∀ b∈fp,∃ o,h.get? b=some o/\∀ v,o.data ≠ .cell v
 keep:∀ i h h',tn i h->(∀ b∈fp,∀ o,h.get? b=some o->h'.get? b=some o)->tn i h'
 item:∀(X:Cx),X.prog=P->X.w=w->X.K=K->X.calm=true->∀(i:Nat)(pins:List (Addr × Obj))(s:Shared)(σ:St)(H:Hp)(E:Value->Shared->Prop),Inv X pins σ H s->(∀ b∈fp,dh X pins H b)->tn i s.heap->J.go i H ->
  wpAny (model P w) X.A (pyNext (.ref it)) (λ r s1=>∃ u,r=some u /\
   wpAny (model P w) X.A (letOwnedTupleGo tg (.ref it) u) (λ _ s2=>∃ x H',Inv X pins σ H' s2/\RelV x u/\J.Ŋ i H x H'/\tn (i+1) s2.heap/\∀ b∈fp,H' b=none) E s1) E s
 done:∀(X:Cx),X.prog=P->X.w=w->X.K=K->X.calm=true->∀(i:Nat)(pins:List (Addr × Obj))(s:Shared)(σ:St)(H:Hp)(E:Value->Shared->Prop),Inv X pins σ H s->(∀ b∈fp,dh X pins H b)->tn i s.heap->J.stop i H ->
  wpAny (model P w) X.A (pyNext (.ref it)) (λ r s1=>r=none/\Inv X pins σ H s1) E s
 self:∀(A:Around)(i:Nat)(s:Shared)(Q:Value->Shared->Prop)(E:Value->Shared->Prop),tn i s.heap->Q (.ref it) s->wpAny (model P w) A (pyIter (.ref it)) Q E s
abbrev TI:=St->Hp->(It->Hp->Prop)->Prop
def HF (X:Cx)(pins:List (Addr × Obj))(σ:St)(tg:Expr)(R:It->Hp->Prop)(LA:Value)(s2:Shared):Prop :=
 ∃(it:Addr)(fp:List Addr)(tn:Nat->Heap->Prop)(J:It)(H':Hp),LA=.ref it/\Inv X pins σ H' s2/\qP X.prog X.w X.K tg J fp it tn/\tn 0 s2.heap/\(∀ b∈fp,dh X pins H' b)/\R J H'
def PI (X:Cx)(tg iter:Expr)(wi:TI):Prop :=
 ∀(pins:List (Addr × Obj))(s:Shared)(σ:St)(H:Hp)(R:It->Hp->Prop),Inv X pins σ H s->wi σ H R ->
  wpAny (model X.prog X.w) X.A (eval iter X.env) (λ v s1=>wpAny (model X.prog X.w) X.A (pyIter v) (HF X pins σ tg R) X.xe s1) X.xe s
theorem sY {M:Model}{A:Around}{E:Value->Shared->Prop}{s:Shared}{tg:Expr}{it:Addr}{u:Value}{o:Obj}{n:String}{vs:Array Value}{Q:Unit->Shared->Prop}(ho:s.heap.get? it=some o)(hc:o.cls=.type n)(hd:o.data=.fields vs)
  (hn:["enumerate","zip","dict_itemiterator","dict_reverseitemiterator","odict_iterator","itertools.zip_longest","itertools.pairwise"].contains n=false)(hQ:Q () s):wpAny M A (letOwnedTupleGo tg (.ref it) u) Q E s:=by
 unfold letOwnedTupleGo;cases tg <;> first
  | exact wpAny_pure hQ
  | (cases u <;> first
    | exact wpAny_pure hQ
    | (refine wpAny_bind (wpAny_load ho ?_)
       rw [hc,hd];show wpAny M A (if(["enumerate","zip","dict_itemiterator","dict_reverseitemiterator","odict_iterator","itertools.zip_longest","itertools.pairwise"].contains n&&vs[0]?==some (rawInt _))=true then _ else _) Q E s
       rw [if_neg (by intro h;rw [hn,Bool.false_and] at h;cases h)]
       exact wpAny_pure hQ))
def lS (K:PySem.W.Frag)(a:Addr):It :=
 ⟨λ i H=>∃ xs x,Ã K H a xs/\xs[i]?=some x,λ i H x H'=>H'=H/\∀ xs,Ã K H a xs->xs[i]?=some x,λ i H=>∃ xs,Ã K H a xs/\xs.length<=i⟩
def BU (K:PySem.W.Frag)(a:Addr):It :=
 ⟨λ i H=>∃ xs x,Ì K H a xs/\xs[i]?=some x,λ i H x H'=>H'=H/\∀ xs,Ì K H a xs->xs[i]?=some x,λ i H=>∃ xs,Ì K H a xs/\xs.length<=i⟩
def wx (lo:Int)(n:Nat):It:=⟨λ i _=>i<n,λ i H x H'=>H'=H/\x=.int (lo+i),λ i _=>n<=i⟩
theorem qQ {P:Program}{w:World}{K:PySem.W.Frag}{tg:Expr}(a it:Addr):qP P w K tg (lS K a) [it] it (λ i h=>h.IsListIter it a i) where
 mem:=by simp
 obj:=λ i h st b hb=>by
  have e:b=it:=by simpa using hb
  subst e;obtain⟨o,e,c,d⟩:=st;exact⟨o,e,λ v z=>by rw [d] at z;cases z⟩
 keep:=λ i h h' st k=>st.at λ o e=>k it (by simp) o e
 item:=by
  intro X hP hw hK hc i pins s σ H E I hf st hg;subst hP hw hK;obtain⟨xs,x,hq,hx⟩:=hg;obtain⟨its,rv,p,hz⟩:=I.list hq;obtain⟨u,hu,ru⟩:=rv.get hx;obtain⟨f0,f1,f2,f3,f4,f5⟩:=hf it (by simp)
  refine wpAny_pyNext_list_item st p.isList (x:=u) (by simpa using hu) λ h' KQ sb=>?_
  have I1:Inv X pins σ H { s with heap:=h' }:=I.turned (t':=s.toks) (λ b o hb e=>(sb.2 b hb).trans e) f0 f1 f3 f4 f5
  obtain⟨o,e,c,d⟩:=id KQ;exact⟨u,rfl,sY (s:={ s with heap:=h' }) e c d (by decide) ⟨x,H,I1,ru,⟨rfl,λ ys hy=>by rw [I.ğ hy hq];exact hx⟩,KQ,λ b hb=>(hf b hb).1⟩⟩
 done:=by
  intro X hP hw hK hc i pins s σ H E I hf st hg;subst hP hw hK;obtain⟨xs,hq,hx⟩:=hg;obtain⟨its,rv,p,hz⟩:=I.list hq;obtain⟨f0,f1,f2,f3,f4,f5⟩:=hf it (by simp)
  have hl:=rv.length;exact wpAny_pyNext_list_end (I.ok.hd hc) st p.isList (by simp;omega) λ h' eb=>⟨rfl,I.turned (t':=s.toks) (λ b o hb e=>eb b o hb e) f0 f1 f3 f4 f5⟩
 self:=λ _ _ _ _ _ st h=>wpAny_pyIter_listiter st h
theorem oQ {P:Program}{w:World}{K:PySem.W.Frag}{tg:Expr}(a it:Addr):qP P w K tg (BU K a) [it] it (λ i h=>h.IsTupleIter it a i) where
 mem:=by simp
 obj:=λ i h st b hb=>by
  have e:b=it:=by simpa using hb
  subst e;obtain⟨o,e,c,d⟩:=st;exact⟨o,e,λ v z=>by rw [d] at z;cases z⟩
 keep:=λ i h h' st k=>st.at λ o e=>k it (by simp) o e
 item:=by
  intro X hP hw hK hc i pins s σ H E I hf st hg;subst hP hw hK;obtain⟨xs,x,hq,hx⟩:=hg;obtain⟨its,rv,p,hz⟩:=I.tuple hq;obtain⟨u,hu,ru⟩:=rv.get hx;obtain⟨f0,f1,f2,f3,f4,f5⟩:=hf it (by simp)
  refine wpAny_pyNext_tuple_item st (show s.heap.IsTuple a its.toArray from p) (x:=u) (by simpa using hu) λ h' KQ sb=>?_
  have I1:Inv X pins σ H { s with heap:=h' }:=I.turned (t':=s.toks) (λ b o hb e=>(sb.2 b hb).trans e) f0 f1 f3 f4 f5
  obtain⟨o,e,c,d⟩:=id KQ;exact⟨u,rfl,sY (s:={ s with heap:=h' }) e c d (by decide) ⟨x,H,I1,ru,⟨rfl,λ ys hy=>by rw [I.ĵ hy hq];exact hx⟩,KQ,λ b hb=>(hf b hb).1⟩⟩
 done:=by
  intro X hP hw hK hc i pins s σ H E I hf st hg;subst hP hw hK;obtain⟨xs,hq,hx⟩:=hg;obtain⟨its,rv,p,hz⟩:=I.tuple hq;obtain⟨f0,f1,f2,f3,f4,f5⟩:=hf it (by simp)
  have hl:=rv.length;exact wpAny_pyNext_tuple_end (I.ok.hd hc) st (show s.heap.IsTuple a its.toArray from p) (by simp;omega) λ h' eb=>⟨rfl,I.turned (t':=s.toks) (λ b o hb e=>eb b o hb e) f0 f1 f3 f4 f5⟩
 self:=λ _ _ _ _ _ st h=>wpAny_pyIter_tupleiter st h
theorem oY {P:Program}{w:World}{K:PySem.W.Frag}{tg:Expr}(it:Addr)(lo:Int)(n:Nat):qP P w K tg (wx lo n) [it] it (λ i h=>IsRangeIter h it (lo+(i:Nat)*1) ((n:Int)-(i:Nat)) 1) where
 mem:=by simp
 obj:=λ i h st b hb=>by
  have e:b=it:=by simpa using hb
  subst e;exact⟨_,st,λ v z=>by
   have z':Data.fields _=Data.cell v:=z;cases z'⟩
 keep:=λ i h h' st k=>k it (by simp) _ st
 item:=by
  intro X hP hw hK hc i pins s σ H E I hf st hg;subst hP hw hK;obtain⟨f0,f1,f2,f3,f4,f5⟩:=hf it (by simp)
  have W:=Walks.range (prog:=X.prog) (w:=X.w) (I.ok.hd hc) it lo 1 n;refine W.item i s _ _ hg st λ v h' tk hv KQ kk=>?_;obtain⟨t,rfl⟩:=hv;have I1:Inv X pins σ H { s with heap:=h',toks:=tk }:=I.turned (λ b o hb e=>kk b o (by simpa using hb) e) f0 f1 f3 f4 f5
  refine⟨_,rfl,sY (s:={ s with heap:=h',toks:=tk }) (n:="range_iterator") KQ rfl rfl (by decide) ⟨.int (lo+i),H,I1,⟨t,?_⟩,⟨rfl,rfl⟩,KQ,λ b hb=>(hf b hb).1⟩⟩
  rw [Int.mul_one]
 done:=by
  intro X hP hw hK hc i pins s σ H E I hf st hg;subst hP hw hK;obtain⟨f0,f1,f2,f3,f4,f5⟩:=hf it (by simp)
  exact wpAny_pyNext_range_end (I.ok.hd hc) st (by have:n<=i:=hg;omega) λ h' eb=>⟨rfl,I.turned (t':=s.toks) (λ b o hb e=>eb b o hb e) f0 f1 f3 f4 f5⟩
 self:=λ _ _ _ _ _ st h=>wpAny_pyIter_rangeiter st h
section
variable {X:Cx}{tg:Expr}
def bC (K:PySem.W.Frag)(tl:TE):TI:=λ σ H R=>tl σ H λ x H1=>∃ a,x=.ref a/\(∃ xs,Ã K H1 a xs)/\R (lS K a) H1
def E4 (K:PySem.W.Frag)(tl:TE):TI:=λ σ H R=>tl σ H λ x H1=>∃ a,x=.ref a/\(∃ xs,Ì K H1 a xs)/\R (BU K a) H1
theorem aR {l:Expr}{tl:TE}(hl:PE X l tl):PI X tg l (bC X.K tl):=by
 intro pins s σ H R I h;refine aT (hl pins s σ H _ I h) λ v s1 ⟨x,H1,I1,r1,q1⟩=>?_;obtain⟨a,e,⟨xs,hq⟩,q⟩:=q1;subst e;cases r1;obtain⟨its,rv,p,hz⟩:=I1.list hq;refine wpAny_pyIter_list p.isList ?_;refine⟨s1.heap.objs.size,[s1.heap.objs.size],_,_,H1,rfl,I1.kept (t':=s1.toks) λ b o e=>Heap.get?_push_of_some _ e,qQ a _,⟨_,Heap.get?_push_size _ rfl,rfl,rfl⟩,λ b hb=>?_,q⟩;have e:b=s1.heap.objs.size:=by simpa using hb
 subst e;exact I1.Jq (Nat.le_refl _) (I1.É.fresh (Nat.le_refl _))
theorem pb {l:Expr}{tl:TE}(hl:PE X l tl):PI X tg l (E4 X.K tl):=by
 intro pins s σ H R I h;refine aT (hl pins s σ H _ I h) λ v s1 ⟨x,H1,I1,r1,q1⟩=>?_;obtain⟨a,e,⟨xs,hq⟩,q⟩:=q1;subst e;cases r1;obtain⟨its,rv,p,hz⟩:=I1.tuple hq;refine wpAny_pyIter_tuple (show s1.heap.IsTuple a its.toArray from p) ?_;refine⟨s1.heap.objs.size,[s1.heap.objs.size],_,_,H1,rfl,I1.kept (t':=s1.toks) λ b o e=>Heap.get?_push_of_some _ e,oQ a _,⟨_,Heap.get?_push_size _ rfl,rfl,rfl⟩,λ b hb=>?_,q⟩;have e:b=s1.heap.objs.size:=by simpa using hb
 subst e;exact I1.Jq (Nat.le_refl _) (I1.É.fresh (Nat.le_refl _))
theorem t9 {pins:List (Addr × Obj)}{σ:St}{H:Hp}{s:Shared}{R:It->Hp->Prop}{E:Value->Shared->Prop}{lo hi:Int}{t u v:Tok}{tk:Nat}(I:Inv X pins σ H s)(h1:-(2^62)<=lo)(h2:lo<2^62)(h3:-(2^62)<=hi)(h4:hi<2^62)
  (q:R (wx lo (hi-lo).toNat) H):wpAny (model X.prog X.w) X.A (pyIter (.ref s.heap.objs.size)) (HF X pins σ tg R) E { s with heap:=s.heap.push { cls:=.type "range",data:=.fields #[.int lo t,.int hi u,.int 1 v] },toks:=tk }:=by
 refine wpAny_pyIter_range (IsRange.new ..) (small_one h1 h2 h3 h4) ?_;have I1:Inv X pins σ H { s with heap:=s.heap.push { cls:=.type "range",data:=.fields #[.int lo t,.int hi u,.int 1 v] },toks:=tk }:=I.kept λ b o e=>Heap.get?_push_of_some _ e
 refine⟨(s.heap.push { cls:=.type "range",data:=.fields #[.int lo t,.int hi u,.int 1 v] }).objs.size,[(s.heap.push { cls:=.type "range",data:=.fields #[.int lo t,.int hi u,.int 1 v] }).objs.size],_,_,H,rfl,
  I1.kept (t':=tk) λ b o e=>Heap.get?_push_of_some _ e,oY _ lo (hi-lo).toNat,?_,λ b hb=>?_,q⟩
 ·have e1:lo+((0:Nat):Int)*1=lo:=by simp
  have e2:(((hi-lo).toNat:Nat):Int)-((0:Nat):Int)=Builtin.Range.rangeSize lo hi 1:=by rw [rangeSize_one];split <;> omega
  show IsRangeIter _ _ (lo+((0:Nat):Int)*1) ((((hi-lo).toNat:Nat):Int)-((0:Nat):Int)) 1;rw [e1,e2];exact Heap.get?_push_size _ rfl
 ·have e:b=(s.heap.push { cls:=.type "range",data:=.fields #[.int lo t,.int hi u,.int 1 v] }).objs.size:=by simpa using hb
  subst e;exact I1.Jq (Nat.le_refl _) (I1.É.fresh (Nat.le_refl _))
def nE (ta:TA):TI:=λ σ H R=>ta σ H λ vs H1=>∃ j:Int,vs=[.int j]/\-(2^62)<=j/\j<2^62/\R (wx 0 j.toNat) H1
theorem fY {a:Expr}{ta:TA}{p pos:Pos}(hg:Gl X "range")(hm:X.mg "range" = none)(ha:PA X [a] ta)(hs:starEach [a] X.env=[(false,eval a X.env)]:=by rfl):PI X tg (.Call (.Name "range" p) [a] [] pos) (nE ta):=by
 intro pins s σ H R I h;refine Call_ (gB I hg hm boot_range (PyProof.Rows.callWith_type1 (aT (ha pos pins s σ H _ I h) λ us s1 ⟨vs,H1,I1,r1,q1⟩=>?_) hs rfl));obtain⟨j,e,q1,q2,q⟩:=q1;subst e;cases r1 with
 | cons r rr =>
  cases rr;obtain⟨t,rfl⟩:=r;exact call_range_1 (t9 I1 (by omega) (by omega) q1 q2 (by simpa using q))
def gC (wi:TI)(g:TG)(tb:TS):TS:=λ D σ H=>wi σ H λ J H1=>∃ W:Nat->Nat->St->Hp->Prop,(∃ m,W 0 m σ H1)/\∀ i m σ H,W i m σ H ->
 (J.stop i H/\D.nx σ H)\/(J.go i H/\∃ N:St->Hp->Prop,(∀ Ï H',N Ï H'->∃ m',m'<m/\W (i+1) m' Ï H')/\∀ x H',J.Ŋ i H x H'->g x σ H' λ Ù H2=>tb { D with nx:=N,ct:=N,bk:=D.nx } Ù H2)
def kS (fp:List Addr)(h:Heap):List (Addr × Obj):=fp.filterMap λ b=>(h.get? b).map λ o=>(b,o)
theorem aZ {fp:List Addr}{h:Heap}{b:Addr}{o:Obj}(hb:b∈fp)(e:h.get? b=some o):(b,o)∈kS fp h:=List.mem_filterMap.mpr ⟨b,hb,by rw [e];rfl⟩
theorem qA {fp:List Addr}{h:Heap}{p:Addr × Obj}(hp:p∈kS fp h):p.1∈fp/\h.get? p.1=some p.2:=by
 obtain⟨b,hb,e⟩:=List.mem_filterMap.mp hp;cases q:h.get? b with
 | none=>rw [q] at e;cases e
 | some o =>
  rw [q] at e;have e':(b,o)=p:=Option.some.inj e;subst e';exact⟨hb,q⟩
theorem Inv.pinned {pins:List (Addr × Obj)}{σ:St}{H:Hp}{s:Shared}{fp:List Addr}(I:Inv X pins σ H s)(hf:∀ b∈fp,dh X pins H b)(ho:∀ b∈fp,∃ o,s.heap.get? b=some o/\∀ v,o.data ≠ .cell v):Inv X (pins++kS fp s.heap) σ H s :=
 I.ŭ λ p hp=>(List.mem_append.mp hp).elim (λ z=>I.pin p (List.mem_append_right _ z)) λ z=>by
  obtain⟨hb,e⟩:=qA z;obtain⟨f0,f1,f2,_⟩:=hf p.1 hb;obtain⟨o,e',d⟩:=ho p.1 hb;rw [e] at e';cases e';exact⟨e,f0,f1,f2,d⟩
theorem Inv.à {pins pl:List (Addr × Obj)}{σ:St}{H:Hp}{s:Shared}(I:Inv X (pins++pl) σ H s):Inv X pins σ H s:=I.ŭ λ p hp=>I.pin p (List.mem_append_right _ (List.mem_append_left _ hp))
theorem bZ {iter:Expr}{body:List Stmt}{wi:TI}{g:TG}{tb:TS}{pos:Pos}(hp:PassesOwn (model X.prog X.w) X.A X.env X.xe)(hc:X.calm=true)(hi:PI X tg iter wi)(hg:PG X tg g)(hb:ü X body tb)
  (hs:∀ x,foldedSetIterable iter X.env x=pure x:=by intro _;rfl):PS X (.For tg iter body [] pos) (gC wi g tb):=by
 intro pins s σ H D I h;refine wpAny_For (aT (hi pins s σ H _ I h) λ v s1 h1=>aT h1 λ LA s2 h2=>?_) hs;obtain⟨it,fp,tn,J,H2,e,I2,T,Į,f2,W,⟨m0,w0⟩,turn⟩:=h2;subst e;have ê:∀{H':Hp},(∀ b∈fp,H' b=none)->∀ b∈fp,dh X pins H' b:=λ hn b hb=>⟨hn b hb,(f2 b hb).2⟩;refine codeAny_forLoop_any (λ n s'=>∃ i Ï H',Inv X pins Ï H' s'/\tn i s'.heap/\(∀ b∈fp,H' b=none)/\W i n Ï H') ?_ m0 ⟨0,σ,H2,I2,Į,λ b hb=>(f2 b hb).1,w0⟩;rintro n s3 ⟨i,Jp,H3,I3,Je,Sl,w3⟩;rcases turn i n Jp H3 w3 with⟨stop,qn⟩ | ⟨go,N,hN,step⟩
 ·refine wpAny_passesOwn hp (aT (T.done X rfl rfl rfl hc i pins s3 Jp H3 X.xe I3 (ê Sl) Je stop) λ r s4 ⟨hr,I4⟩=>?_);subst hr;exact wpAny_execs_nil ⟨Jp,H3,I4,qn⟩
 ·refine wpAny_passesOwn hp (aT (T.item X rfl rfl rfl hc i pins s3 Jp H3 X.xe I3 (ê Sl) Je go) λ r s4 ⟨u,hr,h4⟩=>?_);subst hr;refine wpAny_passesOwn hp (aT h4 λ _ s5 ⟨x,H5,I5,r5,y5,ĕ,Jr⟩=>?_);have Js:=I5.pinned (ê Jr) (T.obj _ _ ĕ);refine wpAny_passesOwn hp (aT (hg _ s5 Jp H5 x u _ Js r5 (step x H5 y5)) λ _ s6 ⟨Mg,H6,I6,q6⟩=>?_);refine wpAny_passesOwn hp (aT (hb _ s6 Mg H6 _ I6 q6) λ f s7 q7=>?_);have again:∀{Jt:St}{H7:Hp},Inv X (pins++kS fp s5.heap) Jt H7 s7->N Jt H7->∃ m,m<n/\∃ i Ï H',Inv X pins Ï H' s7/\tn i s7.heap/\(∀ b∈fp,H' b=none)/\W i m Ï H':=λ {Jt H7} I7 n7=>by
   obtain⟨m',hm,w7⟩:=hN Jt H7 n7;refine⟨m',hm,i+1,Jt,H7,I7.à,T.keep _ _ _ ĕ λ b hb o e=>(I7.pin (b,o) (List.mem_append_right _ (List.mem_append_right _ (aZ hb e)))).1,λ b hb=>?_,w7⟩;obtain⟨o,e,d⟩:=T.obj _ _ ĕ b hb;exact(I7.pin (b,o) (List.mem_append_right _ (List.mem_append_right _ (aZ hb e)))).2.1
  cases f with
  | next=>obtain⟨Jt,H7,I7,n7⟩:=q7;exact again I7 n7
  | cont=>obtain⟨Jt,H7,I7,n7⟩:=q7;exact again I7 n7
  | brk=>obtain⟨Jt,H7,I7,q7⟩:=q7;exact⟨Jt,H7,I7.à,q7⟩
  | ret v=>obtain⟨x7,Jt,H7,I7,r7,q7⟩:=q7;exact⟨x7,Jt,H7,I7.à,r7,q7⟩
end
theorem cL {K:PySem.W.Frag}{a:Addr}{xs:List V}{g:TG}{tb:TS}{D:bA}{σ:St}{H:Hp}(Pv:Nat->St->Hp->Prop)(h0:Pv 0 σ H)(hl:∀ i σ H,i<=xs.length->Pv i σ H->Ã K H a xs)
  (hs:∀ i x σ H,xs[i]?=some x->Pv i σ H->g x σ H λ Ù H2=>tb { D with nx:=Pv (i+1),ct:=Pv (i+1),bk:=D.nx } Ù H2)(hd:∀ σ H,Pv xs.length σ H->D.nx σ H) :
  ∃ W:Nat->Nat->St->Hp->Prop,(∃ m,W 0 m σ H)/\∀ i m σ H,W i m σ H ->
   ((lS K a).stop i H/\D.nx σ H)\/((lS K a).go i H/\∃ N:St->Hp->Prop,(∀ Ï H',N Ï H'->∃ m',m'<m/\W (i+1) m' Ï H')/\∀ x H',(lS K a).Ŋ i H x H'->g x σ H' λ Ù H2=>tb { D with nx:=N,ct:=N,bk:=D.nx } Ù H2):=by
 refine⟨λ i m σ H=>m=xs.length-i/\i<=xs.length/\Pv i σ H,⟨xs.length,by simp,Nat.zero_le _,h0⟩,?_⟩
 rintro i m σ H ⟨rfl,hi,p⟩;have q:=hl i σ H hi p;by_cases þ:i<xs.length
 ·refine .inr ⟨⟨xs,xs[i],q,by simp [þ]⟩,Pv (i+1),λ Ï H' p'=>⟨xs.length-(i+1),by omega,rfl,þ,p'⟩,λ x H' y=>?_⟩
  obtain⟨e,y⟩:=y;subst e;exact hs i x σ _ (y xs q) p
 ·have e:i=xs.length:=by omega
  subst e;exact .inl ⟨⟨xs,q,Nat.le_refl _⟩,hd σ H p⟩
theorem kr {lo:Int}{n:Nat}{g:TG}{tb:TS}{D:bA}{σ:St}{H:Hp}(Pv:Nat->St->Hp->Prop)(h0:Pv 0 σ H)
  (hs:∀ i σ H,i<n->Pv i σ H->g (.int (lo+i)) σ H λ Ù H2=>tb { D with nx:=Pv (i+1),ct:=Pv (i+1),bk:=D.nx } Ù H2)(hd:∀ σ H,Pv n σ H->D.nx σ H) :
  ∃ W:Nat->Nat->St->Hp->Prop,(∃ m,W 0 m σ H)/\∀ i m σ H,W i m σ H ->
   ((wx lo n).stop i H/\D.nx σ H)\/((wx lo n).go i H/\∃ N:St->Hp->Prop,(∀ Ï H',N Ï H'->∃ m',m'<m/\W (i+1) m' Ï H')/\∀ x H',(wx lo n).Ŋ i H x H'->g x σ H' λ Ù H2=>tb { D with nx:=N,ct:=N,bk:=D.nx } Ù H2):=by
 refine⟨λ i m σ H=>m=n-i/\i<=n/\Pv i σ H,⟨n,by simp,Nat.zero_le _,h0⟩,?_⟩
 rintro i m σ H ⟨rfl,hi,p⟩;by_cases þ:i<n
 ·refine .inr ⟨þ,Pv (i+1),λ Ï H' p'=>⟨n-(i+1),by omega,rfl,þ,p'⟩,λ x H' y=>?_⟩
  obtain⟨e,y⟩:=y;subst e y;exact hs i σ _ þ p
 ·have e:i=n:=by omega
  subst e;exact .inl ⟨Nat.le_refl _,hd σ H p⟩
theorem sR {c:TT}{tb:TS}{D:bA}{σ:St}{H:Hp}(Pv:St->Hp->Prop)(μ:St->Hp->Nat)(h0:Pv σ H)
  (hs:∀ σ H,Pv σ H->c σ H λ b H1=>if b=true then tb { D with nx:=λ Ï H'=>Pv Ï H'/\μ Ï H' < μ σ H,ct:=λ Ï H'=>Pv Ï H'/\μ Ï H' < μ σ H,bk:=D.nx } σ H1 else D.nx σ H1)
  (mono:∀ σ H Q Q',(∀ b H1,Q b H1->Q' b H1)->c σ H Q->c σ H Q'):oh c tb D σ H:=by
 refine⟨λ m σ H=>m = μ σ H/\Pv σ H,⟨_,rfl,h0⟩,?_⟩;rintro m σ H ⟨rfl,p⟩;refine mono σ H _ _ (λ b H1 q=>?_) (hs σ H p);cases b with
 | true=>exact⟨_,λ Ï H' ⟨p',l⟩=>⟨_,l,rfl,p'⟩,q⟩
 | false=>exact q
abbrev R2:=V->V->Hp->VK->Prop
def iJ (X:Cx)(f:Value->Value->Sem Value)(r:R2):Prop :=
 ∀(pins:List (Addr × Obj))(s:Shared)(σ:St)(H:Hp)(x y:V)(v u:Value)(Q:VK),Inv X pins σ H s->RelV x v->RelV y u->r x y H Q ->
  wpAny (model X.prog X.w) X.A (f v u) (EP X pins σ Q) X.xe s
def G3 (X:Cx)(f:Value->Sem Value)(r:V->Hp->VK->Prop):Prop :=
 ∀(pins:List (Addr × Obj))(s:Shared)(σ:St)(H:Hp)(x:V)(v:Value)(Q:VK),Inv X pins σ H s->RelV x v->r x H Q ->
  wpAny (model X.prog X.w) X.A (f v) (EP X pins σ Q) X.xe s
def cV (X:Cx)(f:Value)(r:List V->Hp->VK->Prop):Prop :=
 ∀(pins:List (Addr × Obj))(s:Shared)(σ:St)(H:Hp)(xs:List V)(us:List Value)(Q:VK),Inv X pins σ H s->Vals xs us->r xs H Q ->
  wpAny (model X.prog X.w) X.A (call f us) (EP X pins σ Q) X.xe s
def aJ (r:R2)(ta tb:TE):TE:=λ σ H Q=>ta σ H λ x H1=>tb σ H1 λ y H2=>r x y H2 Q
def IN (r:V->Hp->VK->Prop)(ta:TE):TE:=λ σ H Q=>ta σ H λ x H1=>r x H1 Q
def rI (C:Int->Int->Prop)(g:Int->Int->V):R2:=λ x y H Q=>∃ i j,x=.int i/\y=.int j/\C i j/\Q (g i j) H
def c8 (g:Int->Int->V):R2:=λ x y H Q=>∃ i j,x=.int i/\y=.int j/\Q (g i j) H
def rU (g:Int->V):V->Hp->VK->Prop:=λ x H Q=>∃ i,x=.int i/\Q (g i) H
section
variable {X:Cx}{a b c:Expr}{ta tb tc:TE}{pos:Pos}
theorem zV (ha:PE X a ta)(hb:PE X b tb){pins:List (Addr × Obj)}{s:Shared}{σ:St}{H:Hp}{R:V->V->Hp->Prop}(I:Inv X pins σ H s)
  (h:ta σ H λ x H1=>tb σ H1 λ y H2=>R x y H2){Q:Value->Shared->Prop}{f:Value->Value->Sem Value}
  (hf:∀ v u s2 x y H2,Inv X pins σ H2 s2->RelV x v->RelV y u->R x y H2->wpAny (model X.prog X.w) X.A (f v u) Q X.xe s2) :
  wpAny (model X.prog X.w) X.A (eval a X.env) (λ v Ç=>wpAny (model X.prog X.w) X.A (eval b X.env) (λ u ï=>wpAny (model X.prog X.w) X.A (f v u) Q X.xe ï) X.xe Ç) X.xe s:=by
 refine aT (ha pins s σ H _ I h) λ v s1 ⟨x,H1,I1,r1,q1⟩=>?_;refine aT (hb pins s1 σ H1 _ I1 q1) λ u s2 ⟨y,H2,I2,r2,q2⟩=>?_;exact hf v u s2 x y H2 I2 r1 r2 q2
theorem ax {op:Operator}{r:R2}(ho:iJ X (binaryOp op) r)(ha:PE X a ta)(hb:PE X b tb):PE X (.BinOp a op b pos) (aJ r ta tb):=by
 intro pins s σ H Q I h;exact wpAny_BinOp (zV ha hb I h λ v u s2 x y H2 I2 rx ry q=>ho pins s2 σ H2 x y v u Q I2 rx ry q)
theorem Ec {op:UnaryOp}{r:V->Hp->VK->Prop}(ho:G3 X (unaryOp op) r)(ha:PE X a ta):PE X (.UnaryOp op a pos) (IN r ta):=by
 intro pins s σ H Q I h;exact UnaryOp_ (aT (ha pins s σ H _ I h) λ v s1 ⟨x,H1,I1,r1,q1⟩=>ho pins s1 σ H1 x v Q I1 r1 q1)
theorem FC {f:Value->Value->Sem Value}{C:Int->Int->Prop}{g:Int->Int->Int}
  (rule:∀(i j:Int)(t u:Tok)(s:Shared)(Q:Value->Shared->Prop)(E:Value->Shared->Prop),C i j->Q (.int (g i j) s.toks) { s with toks:=s.toks+1 }->wpAny (model X.prog X.w) X.A (f (.int i t) (.int j u)) Q E s) :
  iJ X f (rI C λ i j=>.int (g i j)):=by
 intro pins s σ H x y v u Q I rx ry h;obtain⟨i,j,rfl,rfl,hc,q⟩:=h;obtain⟨t,rfl⟩:=rx;obtain⟨t',rfl⟩:=ry;exact rule i j t t' s _ _ hc ⟨.int (g i j),H,I.tok _,⟨_,rfl⟩,q⟩
theorem yn {f:Value->Value->Sem Value}{g:Int->Int->Int}
  (rule:∀(i j:Int)(t u:Tok)(s:Shared)(Q:Value->Shared->Prop)(E:Value->Shared->Prop),Q (.int (g i j) s.toks) { s with toks:=s.toks+1 }->wpAny (model X.prog X.w) X.A (f (.int i t) (.int j u)) Q E s) :
  iJ X f (c8 λ i j=>.int (g i j)):=by
 intro pins s σ H x y v u Q I rx ry h;obtain⟨i,j,rfl,rfl,q⟩:=h;obtain⟨t,rfl⟩:=rx;obtain⟨t',rfl⟩:=ry;exact rule i j t t' s _ _ ⟨.int (g i j),H,I.tok _,⟨_,rfl⟩,q⟩
theorem wz {f:Value->Value->Sem Value}{g:Int->Int->Bool}
  (rule:∀(i j:Int)(t u:Tok)(s:Shared)(Q:Value->Shared->Prop)(E:Value->Shared->Prop),Q (.bool (g i j)) s->wpAny (model X.prog X.w) X.A (f (.int i t) (.int j u)) Q E s) :
  iJ X f (c8 λ i j=>.bl (g i j)):=by
 intro pins s σ H x y v u Q I rx ry h;obtain⟨i,j,rfl,rfl,q⟩:=h;obtain⟨t,rfl⟩:=rx;obtain⟨t',rfl⟩:=ry;exact rule i j t t' s _ _ ⟨.bl (g i j),H,I,rfl,q⟩
def iG (i j:Int):Prop:=0<j/\j<1073741824
def DW (i j:Int):Prop:=0<=j/\j<=1000000/\i.natAbs<2^64
def ÿ (i j:Int):Prop:=(-(2^64)<i/\i<2^64)\/(-(2^64)<j/\j<2^64)
theorem ÿ.ok {i j:Int}(h:ÿ i j):IntMulOk i j:=by
 rcases h with⟨h1,h2⟩ | ⟨h1,h2⟩
 ·exact .of_left (intBits_le_64 h1 h2)
 ·exact .of_right (intBits_le_64 h1 h2)
theorem bt:iJ X (binaryOp .Add) (c8 λ i j=>.int (i+j)):=yn λ _ _ _ _ _ _ _ q=>add_int q
theorem fR:iJ X (binaryOp .Sub) (c8 λ i j=>.int (i-j)):=yn λ _ _ _ _ _ _ _ q=>sub_int q
theorem eI:iJ X (binaryOp .Mult) (rI ÿ λ i j=>.int (i*j)):=FC λ _ _ _ _ _ _ _ hc q=>mul_int q hc.ok
theorem fh:iJ X (binaryOp .FloorDiv) (rI iG λ i j=>.int (i/j)):=FC λ i j _ _ _ _ _ hc q=>by
 have h1:(0:Int)<j:=hc.1;have h2:j<1073741824:=hc.2;exact floordiv_int (by omega) (by rw [Int.fdiv_eq_ediv_of_nonneg i (by omega)];exact q) (.inl (PyProof.noPylong_small (by omega)))
theorem dC:iJ X (binaryOp .Mod) (rI (λ _ j=>0<j) λ i j=>.int (i%j)):=FC λ i j _ _ _ _ _ hc q=>by
 have h1:(0:Int)<j:=hc;exact mod_int' (by omega) (by rw [Int.fmod_eq_emod_of_nonneg i (by omega)];exact q)
theorem yk:iJ X (binaryOp .Pow) (rI DW λ i j=>.int (i^j.toNat)):=FC λ _ _ _ _ _ _ _ hc q=>pow_int_small hc.1 hc.2.1 hc.2.2 q
theorem An:iJ X (binaryOp .BitXor) (c8 λ i j=>.int (Builtin.bitXor i j)):=yn λ _ _ _ _ _ _ _ q=>xor_int q
theorem Ix {f:Value->Sem Value}{g:Int->Int}
  (rule:∀(i:Int)(t:Tok)(s:Shared)(Q:Value->Shared->Prop)(E:Value->Shared->Prop),Q (.int (g i) s.toks) { s with toks:=s.toks+1 }->wpAny (model X.prog X.w) X.A (f (.int i t)) Q E s) :
  G3 X f (rU λ i=>.int (g i)):=by
 intro pins s σ H x v Q I rx h;obtain⟨i,rfl,q⟩:=h;obtain⟨t,rfl⟩:=rx;exact rule i t s _ _ ⟨.int (g i),H,I.tok _,⟨_,rfl⟩,q⟩
theorem yc:G3 X (unaryOp .USub) (rU λ i=>.int (-i)):=Ix λ _ _ _ _ _ q=>neg_int q
end
def EG:V->V->Bool
 | .Æ,.Æ=>true | .Æ,.int _=>true | .int _,.Æ=>true | .Æ,.bl _=>true | .bl _,.Æ=>true | .Æ,.str _=>true | .str _,.Æ=>true
 | .int _,.int _=>true | .bl _,.bl _=>true | .str _,.str _=>true | .Jb _,.Jb _=>true
 | .int _,.str _=>true | .str _,.int _=>true | .bl _,.str _=>true | .str _,.bl _=>true
 | _,_=>false
def pP:R2:=λ x y H Q=>EG x y=true/\Q (.bl (decide (x=y))) H
def Fw:R2:=λ x y H Q=>EG x y=true/\Q (.bl (!decide (x=y))) H
theorem pU {i j:Int}:decide (V.int i=V.int j)=(i==j):=by
 rw [Bool.eq_iff_iff];simp
theorem rE {i j:Bool}:decide (V.bl i=V.bl j)=(i==j):=by
 rw [Bool.eq_iff_iff];simp
theorem pD {i j:Str}:decide (V.str i=V.str j)=(i==j):=by
 rw [Bool.eq_iff_iff];simp
theorem pQ {i j:Array UInt8}:decide (V.Jb i=V.Jb j)=(i.toList==j.toList):=by
 rw [Bool.eq_iff_iff];cases i;cases j;simp
section
variable {X:Cx}{a b c:Expr}{ta tb tc:TE}{pos:Pos}
theorem aS {pins:List (Addr × Obj)}{σ:St}{H:Hp}{s:Shared}{Q:VK}{k k':Bool}(I:Inv X pins σ H s)(q:Q (.bl k) H)(e:k=k'):EP X pins σ Q (.bool k') s:=by
 subst e;exact⟨.bl k,H,I,rfl,q⟩
theorem cr:iJ X (compareOp .Eq) pP:=by
 intro pins s σ H x y v u Q I rx ry h;obtain⟨hs,q⟩:=h;cases x with
 | Æ =>
  cases rx;cases y with
  | Æ=>cases ry;exact PySem.EqNone.eq_none_none (aS I q (by simp))
  | bl j=>cases ry;exact PySem.EqNone.eq_none_bool (aS I q (by simp))
  | int j=>obtain⟨t',rfl⟩:=ry;exact PySem.EqNone.eq_none_int (aS I q (by simp))
  | str j=>obtain⟨t',rfl⟩:=ry;exact PySem.EqNone.eq_none_str (aS I q (by simp))
  | _=>exact absurd (show false=true from hs) Bool.false_ne_true
 | bl i =>
  cases rx;cases y with
  | Æ=>cases ry;exact PySem.EqNone.eq_bool_none (aS I q (by simp))
  | bl j=>cases ry;exact eq_bool (aS I q rE)
  | str j=>obtain⟨t',rfl⟩:=ry;exact PySem.EqMixed.eq_bool_str (aS I q (by simp))
  | _=>exact absurd (show false=true from hs) Bool.false_ne_true
 | int i =>
  obtain⟨t,rfl⟩:=rx;cases y with
  | Æ=>cases ry;exact PySem.EqNone.eq_int_none (aS I q (by simp))
  | int j=>obtain⟨t',rfl⟩:=ry;exact eq_int (aS I q pU)
  | str j=>obtain⟨t',rfl⟩:=ry;exact PySem.EqMixed.eq_int_str (aS I q (by simp))
  | _=>exact absurd (show false=true from hs) Bool.false_ne_true
 | str i =>
  obtain⟨t,rfl⟩:=rx;cases y with
  | Æ=>cases ry;exact PySem.EqNone.eq_str_none (aS I q (by simp))
  | bl j=>cases ry;exact PySem.EqMixed.eq_str_bool (aS I q (by simp))
  | int j=>obtain⟨t',rfl⟩:=ry;exact PySem.EqMixed.eq_str_int (aS I q (by simp))
  | str j=>obtain⟨t',rfl⟩:=ry;exact eq_str (aS I q pD)
  | _=>exact absurd (show false=true from hs) Bool.false_ne_true
 | Jb i =>
  obtain⟨t,rfl⟩:=rx;cases y with
  | Jb j=>obtain⟨t',rfl⟩:=ry;exact PySem.W.eq_bytes (aS I q pQ)
  | _=>exact absurd (show false=true from hs) Bool.false_ne_true
 | _=>cases y <;> exact absurd (show false=true from hs) Bool.false_ne_true
theorem jr:iJ X (compareOp .NotEq) Fw:=by
 intro pins s σ H x y v u Q I rx ry h;obtain⟨hs,q⟩:=h;cases x with
 | Æ =>
  cases rx;cases y with
  | Æ=>cases ry;exact PySem.EqNone.ne_none_none (aS I q (by simp))
  | bl j=>cases ry;exact PySem.EqNone.ne_none_bool (aS I q (by simp))
  | int j=>obtain⟨t',rfl⟩:=ry;exact PySem.EqNone.ne_none_int (aS I q (by simp))
  | str j=>obtain⟨t',rfl⟩:=ry;exact PySem.EqNone.ne_none_str (aS I q (by simp))
  | _=>exact absurd (show false=true from hs) Bool.false_ne_true
 | bl i =>
  cases rx;cases y with
  | Æ=>cases ry;exact PySem.EqNone.ne_bool_none (aS I q (by simp))
  | bl j=>cases ry;exact ne_bool (aS I q (congrArg not rE))
  | str j=>obtain⟨t',rfl⟩:=ry;exact PySem.EqMixed.ne_bool_str (aS I q (by simp))
  | _=>exact absurd (show false=true from hs) Bool.false_ne_true
 | int i =>
  obtain⟨t,rfl⟩:=rx;cases y with
  | Æ=>cases ry;exact PySem.EqNone.ne_int_none (aS I q (by simp))
  | int j=>obtain⟨t',rfl⟩:=ry;exact ne_int (aS I q (congrArg not pU))
  | str j=>obtain⟨t',rfl⟩:=ry;exact PySem.EqMixed.ne_int_str (aS I q (by simp))
  | _=>exact absurd (show false=true from hs) Bool.false_ne_true
 | str i =>
  obtain⟨t,rfl⟩:=rx;cases y with
  | Æ=>cases ry;exact PySem.EqNone.ne_str_none (aS I q (by simp))
  | bl j=>cases ry;exact PySem.EqMixed.ne_str_bool (aS I q (by simp))
  | int j=>obtain⟨t',rfl⟩:=ry;exact PySem.EqMixed.ne_str_int (aS I q (by simp))
  | str j=>obtain⟨t',rfl⟩:=ry;exact ne_str (aS I q (congrArg not pD))
  | _=>exact absurd (show false=true from hs) Bool.false_ne_true
 | Jb i =>
  obtain⟨t,rfl⟩:=rx;cases y with
  | Jb j=>obtain⟨t',rfl⟩:=ry;exact PySem.W.ne_bytes (aS I q (congrArg not pQ))
  | _=>exact absurd (show false=true from hs) Bool.false_ne_true
 | _=>cases y <;> exact absurd (show false=true from hs) Bool.false_ne_true
theorem pN:iJ X (compareOp .Lt) (c8 λ i j=>.bl (decide (i<j))):=wz λ _ _ _ _ _ _ _ q=>lt_int q
theorem wQ:iJ X (compareOp .LtE) (c8 λ i j=>.bl (decide (i<=j))):=wz λ _ _ _ _ _ _ _ q=>le_int q
theorem fS:iJ X (compareOp .Gt) (c8 λ i j=>.bl (decide (j<i))):=wz λ _ _ _ _ _ _ _ q=>gt_int q
theorem wY:iJ X (compareOp .GtE) (c8 λ i j=>.bl (decide (j<=i))):=wz λ _ _ _ _ _ _ _ q=>ge_int q
theorem yv:iJ X (compareOp .Is) (λ x y H Q=>y=.Æ/\Q (.bl (decide (x=.Æ))) H):=by
 intro pins s σ H x y v u Q I rx ry h;obtain⟨rfl,q⟩:=h;cases ry;refine is_none_gen (aS I q ?_);cases x <;> first
  | (cases rx;rfl)
  | (obtain⟨t,rfl⟩:=rx;rfl)
theorem vC:iJ X (compareOp .IsNot) (λ x y H Q=>y=.Æ/\Q (.bl (!decide (x=.Æ))) H):=by
 intro pins s σ H x y v u Q I rx ry h;obtain⟨rfl,q⟩:=h;cases ry;refine isnot_none_gen (aS I q ?_);cases x <;> first
  | (cases rx;rfl)
  | (obtain⟨t,rfl⟩:=rx;rfl)
theorem ar (b:Expr){op:CmpOp}(h:op ≠ .In:=by decide)(h2:op ≠ .NotIn:=by decide):behindInMarks op b=false:=by
 have e1:(op==CmpOp.In)=false:=by cases op <;> first | rfl | exact absurd rfl h
 have e2:(op==CmpOp.NotIn)=false:=by cases op <;> first | rfl | exact absurd rfl h2
 cases b <;> simp [behindInMarks,e1,e2]
theorem cC {op:CmpOp}{r:R2}(ho:iJ X (compareOp op) r)(ha:PE X a ta)(hb:PE X b tb)(hm:behindInMarks op b=false):PE X (.Compare a [op] [b] pos) (aJ r ta tb):=by
 intro pins s σ H Q I h;exact wpAny_Compare1 (zV ha hb I h λ v u s2 x y H2 I2 rx ry q=>ho pins s2 σ H2 x y v u Q I2 rx ry q) hm
def CB (t:TE):TT:=λ σ H Q=>t σ H λ x H'=>∃ k,x=.bl k/\Q k H'
theorem ao {op:CmpOp}{r:R2}(ho:iJ X (compareOp op) r)(ha:PE X a ta)(hb:PE X b tb)(hm:behindInMarks op b=false):PT X (.Compare a [op] [b] pos) (CB (aJ r ta tb)):=by
 intro pins s σ H Q I h;refine wpAny_isTrue_Compare1 (aT (ha pins s σ H _ I h) λ v s1 ⟨x,H1,I1,r1,q1⟩=>aT (hb pins s1 σ H1 _ I1 q1) λ u s2 ⟨y,H2,I2,r2,q2⟩ =>
  aT (ho pins s2 σ H2 x y v u _ I2 r1 r2 q2) λ c s3 ⟨z,H3,I3,r3,k,e,q3⟩=>?_) hm
 subst e;cases r3;exact wpAny_truthy_bool ⟨H3,I3,q3⟩
theorem jn:(sizeLine:Nat)<2^63:=by rw [sizeLine_eq];decide
theorem dY {x:V}{us:List Value}(r:Vals [x] us):∃ u,us=[u]/\RelV x u:=by
 cases r with
 | cons r1 r2=>cases r2;exact⟨_,rfl,r1⟩
theorem jC {x y:V}{us:List Value}(r:Vals [x,y] us):∃ u w',us=[u,w']/\RelV x u/\RelV y w':=by
 cases r with
 | cons r1 r2 =>
  cases r2 with
  | cons r3 r4=>cases r4;exact⟨_,_,rfl,r1,r3⟩
theorem qO (hc:X.calm=true):cV X (.builtin "max") (λ xs H Q=>∃ i j,xs=[.int i,.int j]/\Q (.int (if j>i then j else i)) H):=by
 intro pins s σ H xs us Q I r h;obtain⟨i,j,rfl,q⟩:=h;obtain⟨u,w',rfl,⟨t,rfl⟩,⟨t',rfl⟩⟩:=jC r;refine max_two_ints (I.ok.hd hc) λ h' tk k=>⟨_,H,I.kept k,?_,q⟩;by_cases hj:j>i
 ·rw [if_pos hj,if_pos hj];exact⟨_,rfl⟩
 ·rw [if_neg hj,if_neg hj];exact⟨_,rfl⟩
theorem qz (hc:X.calm=true):cV X (.builtin "min") (λ xs H Q=>∃ i j,xs=[.int i,.int j]/\Q (.int (if j<i then j else i)) H):=by
 intro pins s σ H xs us Q I r h;obtain⟨i,j,rfl,q⟩:=h;obtain⟨u,w',rfl,⟨t,rfl⟩,⟨t',rfl⟩⟩:=jC r;refine min_two_ints (I.ok.hd hc) λ h' tk k=>⟨_,H,I.kept k,?_,q⟩;by_cases hj:j<i
 ·rw [if_pos hj,if_pos hj];exact⟨_,rfl⟩
 ·rw [if_neg hj,if_neg hj];exact⟨_,rfl⟩
theorem gX:cV X (.type "int") (λ xs H Q=>(∃ i,xs=[.int i]/\Q (.int i) H)\/∃ k,xs=[.bl k]/\Q (.int (if k then 1 else 0)) H):=by
 intro pins s σ H xs us Q I r h;rcases h with⟨i,rfl,q⟩ | ⟨k,rfl,q⟩
 ·obtain⟨u,rfl,t,rfl⟩:=dY r;exact call_int_int ⟨.int i,H,I,⟨_,rfl⟩,q⟩
 ·obtain⟨u,rfl,r1⟩:=dY r;cases r1;exact call_int_bool ⟨.int (if k then 1 else 0),H,I.tok _,⟨_,rfl⟩,q⟩
end
structure Ş (h:Heap)(x dx C:Addr)(mA:Str->Option Value):Prop where
 obj:h.get? x=some (PySem.W.instObj C dx)
 ns:h.Ns1 dx mA
 ne:dx≠x
theorem ip {h:Heap}{dx:Addr}{mA:Str->Option Value}(n:h.Ns1 dx mA):∃ od,h.get? dx=some od/\∀ name,PySem.W.lookIn name od=some (mA name):=by
 obtain⟨o,es,ep,ho,hd,hk,_,hm⟩:=n;refine⟨o,ho,λ name=>?_⟩;have e:=hm name;unfold nsFind findBy at e;rw [<- Array.find?_toList] at e;unfold PySem.W.lookIn;rw [hd]
 dsimp only
 split
 ·rename_i y q
  rw [q] at e;exact congrArg some e
 ·rename_i q
  rw [q] at e;have a:es.toList.any (·.refKey)=false:=by
   rw [List.any_eq_false];intro y hy;obtain⟨z,t,Pf⟩:=hk y (Array.mem_toList_iff.mp hy);simp [DictEntry.refKey,Pf]
  have a':¬ es.toList.any (·.refKey)=true:=by rw [a];exact Bool.false_ne_true
  rw [if_neg a'];exact congrArg some e
theorem Ş.look {h:Heap}{x dx C:Addr}{mA:Str->Option Value}(I:Ş h x dx C mA):∃ od,PySem.W.InstAt h x (PySem.W.instObj C dx) C (some od)/\∀ name,PySem.W.lookIn name od=some (mA name) :=
 let ⟨od,ho,hl⟩:=ip I.ns
 ⟨od,⟨I.obj,rfl,rfl,ho⟩,hl⟩
section
variable {prog:Program}{w:World}{A:Around}{E:Value->Shared->Prop}{s:Shared}{K:PySem.W.Frag}{x dx C f:Addr}{mA:Str->Option Value}{name:Str}{v:Value}
theorem wE {expr:Bool}{Q:Value->Shared->Prop}(X:K.In s.heap)(I:Ş s.heap x dx C mA)(hg:PySem.W.plainGet K C name=true)(hh:PySem.W.hasDictIn K C=true)
  (ha:PySem.W.findIn K (.ref C) name=some none)(hv:mA name=some v)(KS:PySem.W.handedIn v=true)(h:Q v { s with toks:=s.toks+1 }) :
  wpAny (model prog w) A (getAttr (.ref x) name expr) Q E s:=by
 obtain⟨od,J,hl⟩:=I.look;exact PySem.W.get_value X J (PySem.W.plainGet_of hg).1 (PySem.W.findObj_own hh ha rfl (by rw [hl,hv])) KS h
theorem rM {pl:Sem Bool}{Q:Value × List Value->Shared->Prop}(X:K.In s.heap)(I:Ş s.heap x dx C mA)(hg:PySem.W.plainGet K C name=true)
  (hf:PySem.W.findIn K (.ref C) name=some (some (.ref f)))(ht:PySem.W.isFn K (.ref f)=true)(hv:mA name=none)(h:Q (.ref f,[.ref x]) s) :
  wpAny (model prog w) A (getMethod (.ref x) name pl) Q E s:=by
 obtain⟨od,J,hl⟩:=I.look;exact PySem.W.method_fn X J (PySem.W.plainGet_of hg).1 (PySem.W.plainGet_of hg).2 hf (beq_iff_eq.mp ht) (by show(PySem.W.lookIn name od).map (·.isSome)=some false;rw [hl,hv];rfl) h
theorem vB {ns:List Str}{Q:Unit->Shared->Prop}(X:K.In s.heap)(I:Ş s.heap x dx C mA)
  (hs:PySem.W.findIn K (.ref C) "__setattr__" = some (some (.builtin "object.__setattr__")))(hp:PySem.W.plainOver K C=true)(ht:PySem.W.takerIn K C name=some none)(hh:PySem.W.hasDictIn K C=true)
  (hw:PySem.Within mA ns)(hsz:ns.length<=sizeLine)
  (h:∀ h',Ş h' x dx C (λ y=>if y=name then some v else mA y)->Heap.SameBut dx s.heap h'->Q () { s with heap:=h',toks:=s.toks+2 }) :
  wpAny (model prog w) A (setAttr (.ref x) name v) Q E s:=by
 obtain⟨od,J,hl⟩:=I.look;refine PySem.W.set_plain X J hs (PySem.W.osa_open (s:={ s with toks:=s.toks+1 }) (r:=none) X J hp ht λ b=>?_)
 obtain⟨cd,hc,Jm⟩:=PySem.W.any_some hh;have hx:s.heap.get? x=some ⟨.ref C,some dx,.plain,#[]⟩:=I.obj;refine wpAny_bind (wpAny_pure (wpAny_bind (wpAny_bind (wpAny_loadPart hx (wpAny_bind (PySem.W.Looks.here (s:={ s with toks:=s.toks+1 }) (PySem.W.looks_clsIn X hc) ?_))))))
 rw [Jm];refine wpAny_pure (a:=some dx) (wpAny_bind (wpAny_pure (wpAny_bind ?_)));refine wpAny_nsSet1 (s:={ s with toks:=s.toks+1 }) I.ns λ h' Oc KU=>?_
 obtain⟨oD,UB,UC,LB,MB,Ju⟩:=Oc.count (PySem.Within.cons name v hw);refine wpAny_bind (wpAny_lookBehind LB (by rw [MB];exact pastItsLine_dict (Nat.le_trans Ju (by rw [List.length_cons];omega))) ?_)
 exact wpAny_pure (h _ ⟨(KU.2 _ (Ne.symm I.ne)).trans I.obj,Oc,I.ne⟩ KU)
theorem sE {R:Result->Shared->Prop}{vs:List Value}{kw:List (Str × Value)}(X:K.In s.heap)(hm:PySem.W.makesIn K C=true)
  (hi:PySem.W.findIn K (.ref C) "__init__" = some (some (.ref f)))(hf:PySem.W.typeIn K (.ref f)=some (.type "function"))
  (h:codeAny (model prog w) (A.under (.builtin "type.__call__" ⟨.ref C::vs,kw⟩)) (.call (.ref f) ⟨.ref (s.heap.objs.size+1)::vs,kw⟩) (PySem.W.InitBack (s.heap.objs.size+1) R)
   { s with heap:=(s.heap.push PySem.W.emptyDict).push (PySem.W.instObj C s.heap.objs.size) }) :
  codeAny (model prog w) A (.call (.ref C) ⟨vs,kw⟩) R s:=by
 obtain⟨hh,g,d,t,os⟩:=s;exact PySem.W.make_core (PySem.W.makes_of X hm) (PySem.W.looks_findIn X hi) (λ self=>PySem.W.bind_fn X self hf) (.inl rfl) h
end
def bO (f:Str)(v:V):List (Str × V)->List (Str × V)
 | []=>[(f,v)]
 | (g,x)::r=>if g=f then(g,v)::r else(g,x)::bO f v r
theorem fV (f g:Str)(v:V):∀ fs:List (Str × V),(bO f v fs).lookup g=if g=f then some v else fs.lookup g
 | []=>by
  show List.lookup g [(f,v)]=_;by_cases h:g=f
  ·have hb:(g==f)=true:=beq_iff_eq.mpr h;simp only [List.lookup,hb,if_pos h]
  ·have hb:(g==f)=false:=beq_eq_false_iff_ne.mpr h;simp only [List.lookup,hb,if_neg h]
 | (k,x)::r=>by
  have ih:=fV f g v r;rw [show bO f v ((k,x)::r)=(if k=f then(k,v)::r else(k,x)::bO f v r) from rfl]
  by_cases hk:k=f
  ·rw [if_pos hk];by_cases h:g=k
   ·have hb:(g==k)=true:=beq_iff_eq.mpr h;simp only [List.lookup,hb,if_pos (h.trans hk)]
   ·have hb:(g==k)=false:=beq_eq_false_iff_ne.mpr h;simp only [List.lookup,hb,if_neg (λ e:g=f=>h (e.trans hk.symm))]
  ·rw [if_neg hk];by_cases h:g=k
   ·have hb:(g==k)=true:=beq_iff_eq.mpr h;simp only [List.lookup,hb,if_neg (λ e:g=f=>hk (h.symm.trans e))]
   ·have hb:(g==k)=false:=beq_eq_false_iff_ne.mpr h;simp only [List.lookup,hb];exact ih
theorem hW (f:Str)(v:V):∀ fs:List (Str × V),f∈(bO f v fs).map (·.1)/\∀ g,g∈fs.map (·.1)->g∈(bO f v fs).map (·.1)
 | []=>⟨by simp [bO],λ g h=>by simp at h⟩
 | (k,x)::r=>by
  obtain⟨i1,i2⟩:=hW f v r;rw [show bO f v ((k,x)::r)=(if k=f then(k,v)::r else(k,x)::bO f v r) from rfl]
  by_cases hk:k=f
  ·rw [if_pos hk];subst hk;exact⟨by simp,λ g h=>by simpa using h⟩
  ·rw [if_neg hk];refine⟨?_,λ g h=>?_⟩
   ·rw [List.map_cons];exact List.mem_cons_of_mem _ i1
   ·rw [List.map_cons] at h ⊢;rcases List.mem_cons.mp h with e | e
    ·exact List.mem_cons.mpr (.inl e)
    ·exact List.mem_cons_of_mem _ (i2 g e)
theorem iF (f:Str)(v:V):∀ fs:List (Str × V),(bO f v fs).length<=fs.length+1
 | []=>by simp [bO]
 | (k,x)::r=>by
  have ih:=iF f v r;rw [show bO f v ((k,x)::r)=(if k=f then(k,v)::r else(k,x)::bO f v r) from rfl]
  by_cases hk:k=f
  ·rw [if_pos hk,List.length_cons,List.length_cons];omega
  ·rw [if_neg hk,List.length_cons,List.length_cons];omega
theorem ô.some_of {v:V}{o:Option Value}(r:ô (some v) o):∃ u,o=some u/\RelV v u:=by
 cases o with
 | none=>exact(show False from r).elim
 | some u=>exact⟨u,rfl,r⟩
theorem ô.none_of {o:Option Value}(r:ô none o):o=none:=by
 cases o with
 | none=>rfl
 | some u=>exact(show False from r).elim
theorem km {v:V}{u:Value}(r:RelV v u):PySem.W.handedIn u=true:=by
 cases v with
 | Æ=>cases (show u=Value.none from r);rfl
 | bl b=>cases (show u=Value.bool b from r);rfl
 | int i=>obtain⟨t,e⟩:=(show ∃ t,u=Value.int i t from r);cases e;rfl
 | str x=>obtain⟨t,e⟩:=(show ∃ t,u=Value.str x t from r);cases e;rfl
 | Jb b=>obtain⟨t,e⟩:=(show ∃ t,u=Value.bytes b t from r);cases e;rfl
 | JY b=>obtain⟨t,e⟩:=(show ∃ t,u=Value.float b t from r);cases e;rfl
 | ref a=>cases (show u=Value.ref a from r);rfl
 | ty n=>cases (show u=Value.type n from r);rfl
section
variable {P:Program}{w:World}{H H':Hp}{h h':Heap}{a C dx:Addr}{fs Uz:List (Str × V)}
theorem gT (É:õ P w H h)(e:H a=some (.ins C dx fs)):∃ mA,Ş h a dx C mA/\(∀ f,ô (fs.lookup f) (mA f))/\PySem.Within mA (fs.map (·.1))/\fs.length<=1000/\H dx=some (.own a):=by
 obtain⟨d,z,ne,ob,mA,n,r,q⟩:=(show Å P w H h a (.ins C dx fs) from É a _ e);exact⟨mA,⟨ob,n,ne⟩,r,q,z,d⟩
end
structure Ķ (K:PySem.W.Frag)(C:Addr):Prop where
 pg:PySem.W.plainGet K C Str.empty=true
 hd:PySem.W.hasDictIn K C=true
 po:PySem.W.plainOver K C=true
 sa:PySem.W.findIn K (.ref C) "__setattr__" = some (some (.builtin "object.__setattr__"))
theorem Ķ.get {K:PySem.W.Frag}{C:Addr}(c:Ķ K C)(f:Str):PySem.W.plainGet K C f=true:=c.pg
def ö (K:PySem.W.Frag)(C:Addr)(f:Str):Prop:=PySem.W.findIn K (.ref C) f=some none
theorem ö.MD {K:PySem.W.Frag}{C:Addr}{f:Str}(n:ö K C f):PySem.W.takerIn K C f=some none:=by
 unfold PySem.W.takerIn;rw [show PySem.W.findIn K (.ref C) f=some none from n];rfl
structure Ff (K:PySem.W.Frag)(C:Addr)(m:Str)(f:Addr):Prop where
 at_:PySem.W.findIn K (.ref C) m=some (some (.ref f))
 fn:PySem.W.isFn K (.ref f)=true
 kp:PySem.W.keepIn K (.ref f)=true
section
variable {X:Cx}{pins:List (Addr × Obj)}{σ:St}{H:Hp}{s:Shared}{a C dx:Addr}{fs:List (Str × V)}{f:Str}{v:V}{A:Around}{E:Value->Shared->Prop}
theorem nU {b:Bool}{Q:Value->Shared->Prop}(I:Inv X pins σ H s)(e:H a=some (.ins C dx fs))(c:Ķ X.K C)(n:ö X.K C f)(l:fs.lookup f=some v)
  (h:∀ u s',Inv X pins σ H s'->RelV v u->Q u s'):wpAny (model X.prog X.w) A (getAttr (.ref a) f b) Q E s:=by
 obtain⟨mA,O,r,_,_,_⟩:=gT I.É e;obtain⟨u,hu,ru⟩:=ô.some_of (v:=v) (o:=mA f) (by rw [<- l];exact r f)
 exact wE I.Ý O (c.get f) c.hd n hu (km ru) (h u _ (I.tok _) ru)
theorem gw {m:Str}{g:Addr}{pl:Sem Bool}{Q:Value × List Value->Shared->Prop}(I:Inv X pins σ H s)(e:H a=some (.ins C dx fs))(c:Ķ X.K C)(k:Ff X.K C m g)(l:fs.lookup m=none)
  (h:Q (.ref g,[.ref a]) s):wpAny (model X.prog X.w) A (getMethod (.ref a) m pl) Q E s:=by
 obtain⟨mA,O,r,_,_,_⟩:=gT I.É e;have hn:mA m=none:=ô.none_of (by rw [<- l];exact r m)
 exact rM I.Ý O (c.get m) k.at_ k.fn hn h
theorem nV {y:V}{u:Value}{Q:Unit->Shared->Prop}(I:Inv X pins σ H s)(e:H a=some (.ins C dx fs))(c:Ķ X.K C)(n:ö X.K C f)(hl:fs.length<1000)(ry:RelV y u)
  (h:∀ s',Inv X pins σ (ae H a (.ins C dx (bO f y fs))) s'->Q () s'):wpAny (model X.prog X.w) A (setAttr (.ref a) f u) Q E s:=by
 obtain⟨mA,O,r,wi,_,ho⟩:=gT I.É e;have hz:(fs.map (·.1)).length<=sizeLine:=by rw [List.length_map,sizeLine_eq];omega
 refine vB I.Ý O c.sa c.po n.MD c.hd wi hz λ h' O' sb=>h _ ?_;have hd:∃ o,h'.get? dx=some o:=let ⟨o,_,_,e',_⟩:=O'.ns;⟨o,e'⟩
 refine I.write (x:=a) (e:=dx) (by rw [e];exact True.intro) (.inr ho) (λ b q hb z=>(sb.2 b hb).trans z) hd ?_
 refine⟨by rw [ag O.ne];exact ho,?_,O.ne,O'.obj,_,O'.ns,λ g=>?_,λ g hg=>?_⟩
 ·have:=iF f y fs;omega
 ·show ô ((bO f y fs).lookup g) (if g=f then some u else mA g)
  rw [fV];by_cases q:g=f
  ·rw [if_pos q,if_pos q];exact ry
  ·rw [if_neg q,if_neg q];exact r g
 ·by_cases q:g=f
  ·rw [q];exact(hW f y fs).1
  ·refine(hW f y fs).2 g (wi g λ z=>hg ?_);show(if g=f then some u else mA g)=none
   rw [if_neg q];exact z
theorem Inv.made (I:Inv X pins σ H s):Inv X pins σ (ae (ae H s.heap.objs.size (.own (s.heap.objs.size+1))) (s.heap.objs.size+1) (.ins C s.heap.objs.size []))
  { s with heap:=(s.heap.push PySem.W.emptyDict).push (PySem.W.instObj C s.heap.objs.size) }:=by
 have e1:(s.heap.push PySem.W.emptyDict).get? s.heap.objs.size=some PySem.W.emptyDict:=Heap.get?_push_size s.heap rfl;have e2:((s.heap.push PySem.W.emptyDict).push (PySem.W.instObj C s.heap.objs.size)).get? (s.heap.objs.size+1)=some (PySem.W.instObj C s.heap.objs.size):=by
  have:=Heap.get?_push_size (s.heap.push PySem.W.emptyDict) (o:=PySem.W.instObj C s.heap.objs.size) rfl
  rwa [Heap.size_push] at this
 have e3:(s.heap.push PySem.W.emptyDict).Ns s.heap.objs.size (λ _=>none):=⟨PySem.W.emptyDict,#[],_,e1,rfl,(λ e he=>absurd he (by simp)),λ _=>rfl⟩
 have I1:=I.laid (a:=s.heap.objs.size) (o:=.own (s.heap.objs.size+1)) (h':=s.heap.push PySem.W.emptyDict) (t':=s.toks) (λ b u q=>Heap.get?_push_of_some _ q) (Nat.le_refl _) ⟨_,e1⟩;refine I1.laid (a:=s.heap.objs.size+1) (o:=.ins C s.heap.objs.size []) (t':=s.toks) (λ b u q=>Heap.get?_push_of_some _ q) (Nat.le_of_eq (Heap.size_push _ _)) ?_;have ne:s.heap.objs.size≠s.heap.objs.size+1:=Nat.ne_of_lt (Nat.lt_succ_self _);refine⟨by rw [ag ne,aL],Nat.zero_le _,ne,e2,λ _=>none,(Heap.Ns1.of_empty e3).at λ o q=>Heap.get?_push_of_some _ q,λ _=>True.intro,λ y hy=>absurd rfl hy⟩
theorem pq {prog:Program}{w:World}{env:Env}{e:Expr}{f:Str}{pos:Pos}{s:Shared}{Q:Value->Shared->Prop}(hb:attributeBase e f env (eval e env)=eval e env)
  (h:wpAny (model prog w) A (eval e env) (λ o Ç=>wpAny (model prog w) A (getAttr o f true) Q E Ç) E s):wpAny (model prog w) A (eval (.Attribute e f pos) env) Q E s :=
 Attribute_any_ h (by rw [arm_eval_Attribute,hb])
end
def CI (K:PySem.W.Frag)(ta:TE)(f:Str):TE:=λ σ H Q=>ta σ H λ x H1=>∃ a C dx fs v,x=.ref a/\H1 a=some (.ins C dx fs)/\Ķ K C/\ö K C f/\fs.lookup f=some v/\Q v H1
def Fa (K:PySem.W.Frag)(ta tv:TE)(f:Str):TS:=λ D σ H=>tv σ H λ y H1=>ta σ H1 λ x H2=>∃ a C dx fs,x=.ref a/\H2 a=some (.ins C dx fs)/\Ķ K C/\ö K C f/\fs.length<1000 /\
 D.nx σ (ae H2 a (.ins C dx (bO f y fs)))
section
variable {X:Cx}{o e value:Expr}{f:Str}{pos pos' Lz:Pos}{ta tv:TE}
theorem ud (he:PE X e ta)(hb:attributeBase e f X.env (eval e X.env)=eval e X.env):PE X (.Attribute e f pos) (CI X.K ta f):=by
 intro pins s σ H Q I h;refine pq hb (aT (he pins s σ H _ I h) λ u s1 ⟨x,H1,I1,rx,a,C,dx,fs,v,ex,ea,c,n,l,q⟩=>?_);subst ex;obtain rfl:u=Value.ref a:=rx;exact nU I1 ea c n l λ u' s2 I2 ru=>⟨v,H1,I2,ru,q⟩
theorem eF (ha:PE X o ta)(hv:PE X value tv)(hs:swapsWith value (some (.Attribute o f pos')) pos.line X.env=pure false):PS X (.Assign [.Attribute o f pos'] value pos) (Fa X.K ta tv f):=by
 intro pins s σ H D I h;refine plainObj_wpAny_Assign_Attribute (aT (hv pins s σ H _ I h) λ u s1 ⟨y,H1,I1,ry,q⟩=>aT (ha pins s1 σ H1 _ I1 q) λ ov s2 ⟨x,H2,I2,rx,a,C,dx,fs,ex,ea,c,n,l,q2⟩=>?_) hs;subst ex;obtain rfl:ov=Value.ref a:=rx;exact nV I2 ea c n l ry λ s3 I3=>⟨σ,_,I3,q2⟩
variable {pins:List (Addr × Obj)}{σ:St}{H:Hp}{s:Shared}{A:Around}{E:Value->Shared->Prop}{Q:Value->Shared->Prop}{c:Value}{b:Bool}
inductive ë (K:PySem.W.Frag)(H:Hp):V->Value->Prop where
 | Æ:ë K H .Æ (.type "NoneType")
 | bl (x:Bool):ë K H (.bl x) (.type "bool")
 | int (i:Int):ë K H (.int i) (.type "int")
 | str (x:Str):ë K H (.str x) (.type "str")
 | JY (x:UInt64):ë K H (.JY x) (.type "float")
 | lst {a:Addr}{xs:List V}(e:H a=some (.lst xs)):ë K H (.ref a) (.type "list")
 | ŉ {a:Addr}{o:Obj}{xs:List V}(e:H a=some (.ŉ o (.lst xs))):ë K H (.ref a) (.type "list")
 | tup {a:Addr}{xs:List V}(e:H a=some (.tup xs)):ë K H (.ref a) (.type "tuple")
 | dK {a:Addr}{kvs:List (Key × V)}(e:H a=some (.dK kvs)):ë K H (.ref a) (.type "dict")
 | dT {a:Addr}{kvs:List (List Key × V)}(e:H a=some (.dT kvs)):ë K H (.ref a) (.type "dict")
 | ins {a C dx:Addr}{fs:List (Str × V)}(e:H a=some (.ins C dx fs))(cl:Ķ K C)(ha:PySem.W.findIn K (.ref C) "__class__" = some (some (.builtin "object.__class__")))
   (hn:PySem.W.specialIn K (.builtin "object.__class__") "__get__" = some (some (.builtin "getset_descriptor.__get__")))(Ŗ:PySem.W.takesIn K (.builtin "object.__class__")=some true)
   (hm:PySem.W.mroIn K C (.type "object")=some true):ë K H (.ref a) (.ref C)
theorem ky {x:V}{u t:Value}(I:Inv X pins σ H s)(rx:RelV x u)(ty:ë X.K H x t)(e:PySem.W.kitOne X.K t c=some b)(h:∀ tk,Q (.bool b) { s with toks:=tk }) :
  wpAny (model X.prog X.w) A (call (.builtin "isinstance") [u,c]) Q E s:=by
 cases ty with
 | Æ=>cases (show u=Value.none from rx);exact PySem.W.kia_one PySem.W.kitx_none I.Ý True.intro e (λ z=>nomatch z) h
 | bl y=>cases (show u=Value.bool y from rx);exact PySem.W.kia_one PySem.W.kitx_bool I.Ý True.intro e (λ z=>nomatch z) h
 | int i=>obtain⟨t,q⟩:=(show ∃ t,u=Value.int i t from rx);cases q;exact PySem.W.kia_one PySem.W.kitx_int I.Ý True.intro e (λ z=>nomatch z) h
 | str y=>obtain⟨t,q⟩:=(show ∃ t,u=Value.str y t from rx);cases q;exact PySem.W.kia_one PySem.W.kitx_str I.Ý True.intro e (λ z=>nomatch z) h
 | JY y=>obtain⟨t,q⟩:=(show ∃ t,u=Value.float y t from rx);cases q;exact PySem.W.kia_one PySem.W.kitx_float I.Ý True.intro e (λ z=>nomatch z) h
 | @lst a xs ea =>
  cases (show u=Value.ref a from rx);obtain⟨_,_,n,_,h1⟩:=(show Å X.prog X.w H s.heap a (.lst xs) from I.É a _ ea);exact PySem.W.kia_one PySem.W.kitx_list I.Ý ⟨_,h1,rfl⟩ e (λ z=>nomatch z) h
 | @ŉ a ob xs ea =>
  cases (show u=Value.ref a from rx);obtain⟨_,_,_,n,_,h1⟩:=(show Å X.prog X.w H s.heap a (.ŉ ob (.lst xs)) from I.É a _ ea);exact PySem.W.kia_one PySem.W.kitx_list I.Ý ⟨_,h1,rfl⟩ e (λ z=>nomatch z) h
 | @tup a xs ea =>
  cases (show u=Value.ref a from rx);obtain⟨_,_,_,p⟩:=(show Å X.prog X.w H s.heap a (.tup xs) from I.É a _ ea);obtain⟨o,h1,h2,_⟩:=p;exact PySem.W.kia_one PySem.W.kitx_tuple I.Ý ⟨o,h1,h2⟩ e (λ z=>nomatch z) h
 | @dK a kvs ea =>
  cases (show u=Value.ref a from rx);obtain⟨_,_,vs,_,p⟩:=(show Å X.prog X.w H s.heap a (.dK kvs) from I.É a _ ea);obtain⟨o,es,ep,h1,h2,_⟩:=p;exact PySem.W.kia_one PySem.W.kitx_dict I.Ý ⟨o,h1,h2.1⟩ e (λ z=>nomatch z) h
 | @dT a kvs ea =>
  cases (show u=Value.ref a from rx);obtain⟨_,_,xs,_,o,es,ep,h1,h2,_⟩:=(show Å X.prog X.w H s.heap a (.dT kvs) from I.É a _ ea);exact PySem.W.kia_one PySem.W.kitx_dict I.Ý ⟨o,h1,h2.1⟩ e (λ z=>nomatch z) h
 | @ins a C dx fs ea cl ha hn Ŗ hm =>
  cases (show u=Value.ref a from rx);obtain⟨mA,O,_⟩:=gT I.É ea;obtain⟨od,J,_⟩:=O.look;exact PySem.W.kia_one (PySem.W.kitx_own (cl.get _) cl.hd ha hn Ŗ hm) I.Ý J e (λ z=>nomatch z) h
end
structure Ä (k:Nat)(A:Around):Prop where
 hd:A.handled=none
 dp:A.depth+3*k+5<recursionLimit
 un:A.units+16*k+200<cLine
 gd:A.guards=some []
theorem Ä.mono {j k:Nat}{A:Around}(r:Ä k A)(h:j<=k):Ä j A:=⟨r.hd,by have:=r.dp;omega,by have:=r.un;omega,r.gd⟩
theorem Ä.deeper {k:Nat}{A:Around}(r:Ä (k+1) A)(env:Env):Ä k (A.deeper env) :=
 ⟨r.hd,by have:=r.dp;show A.depth+1+3*k+5<_;omega,by have:=r.un;show A.units+3+16*k+200<_;omega,r.gd⟩
theorem oP {A:Around}{C:Addr}{us:List Value}{kw:List (Str × Value)}:(A.under (.builtin "type.__call__" ⟨.ref C::us,kw⟩)).depth=A.depth+1:=by
 first | rfl | simp [Around.under,Code.weight,Code.isCreation,Code.isGuard,Code.isCaller,Code.frames,Code.isFrame,guardIds]
theorem ou {A:Around}{C:Addr}{us:List Value}{kw:List (Str × Value)}:(A.under (.builtin "type.__call__" ⟨.ref C::us,kw⟩)).units=A.units+1:=by
 first | rfl | simp [Around.under,Code.cUnits,Code.frames,Code.isFrame]
theorem Ä.make {k:Nat}{A:Around}(r:Ä (k+1) A)(C:Addr)(us:List Value)(kw:List (Str × Value)):Ä k (A.under (.builtin "type.__call__" ⟨.ref C::us,kw⟩)) :=
 ⟨r.hd,by have:=r.dp;rw [oP];omega,by have:=r.un;rw [ou];omega,by have h:=r.gd;first | (simp only [Around.under];rw [h];rfl) | simp [Around.under,h,pushGuards,Code.guards,Code.isGuard,guardIds]⟩
theorem Ä.depth {k:Nat}{A:Around}(r:Ä k A):A.depth<recursionLimit:=by have:=r.dp;omega
theorem Ä.units {k:Nat}{A:Around}(r:Ä k A):A.units+64<cLine:=by have:=r.un;omega
theorem Ä.ş {k:Nat}{A:Around}(r:Ä k A):A.units<cLine:=by have:=r.un;omega
def aF:TA:=λ _ H Q=>Q [] H
def ah (ta:TE)(tr:TA):TA:=λ σ H Q=>ta σ H λ x H1=>tr σ H1 λ xs H2=>Q (x::xs) H2
section
variable {X:Cx}{e:Expr}{es:List Expr}{te:TE}{t:TA}{pos:Pos}
theorem ak:PA X [] aF:=λ _ _ _ _ H Q I h=>Calls.spliced_nil ⟨[],H,I,.nil,h⟩
theorem ac (ha:PE X e te)(hr:PA X es t)(hs:starEach (e::es) X.env=(false,eval e X.env)::starEach es X.env:=by rfl):PA X (e::es) (ah te t):=by
 intro pos pins s σ H Q I h;rw [hs];show wpAny _ _ (spliced ((false,eval e X.env)::backTo pos (starEach es X.env))) _ _ s;refine Calls.spliced_cons (aT (ha pins s σ H _ I h) λ u s1 ⟨x,H1,I1,r1,q1⟩=>?_);exact aT (hr pos pins s1 σ H1 _ I1 q1) λ us s2 ⟨xs,H2,I2,r2,q2⟩=>⟨x::xs,H2,I2,.cons r1 r2,q2⟩
def dw (t:TA):TE:=λ σ H Q=>t σ H λ xs H1=>xs.length<=sizeLine/\∀ p,H1 p=none->Q (.ref p) (ae H1 p (.tup xs))
def bM (t:TA):TE:=λ σ H Q=>t σ H λ xs H1=>xs.length<=sizeLine/\∀ p,H1 p=none->Q (.ref p) (ae H1 p (.lst xs))
theorem aI {x1}(h:PA X es t):PE X (.Tuple es x1 pos) (dw t):=by
 intro pins s σ H Q I hq;refine wpAny_Tuple_spliced (aT (h pos pins s σ H _ I hq) λ us s1 ⟨xs,H1,I1,r,z,q⟩=>⟨by rw [<- r.length];exact z,?_⟩)
 have hf:H1 s1.heap.objs.size=none:=I1.É.fresh (Nat.le_refl _);refine⟨.ref s1.heap.objs.size,ae H1 s1.heap.objs.size (.tup xs),I1.laid (t':=s1.toks) (λ b u e=>Heap.get?_push_of_some _ e) (Nat.le_refl _) ?_,rfl,q _ hf⟩;exact⟨z,us,r,⟨_,Heap.get?_push_size _ rfl,rfl,_,rfl⟩⟩
theorem cj (h:PA X es t):PE X (.List es pos) (bM t):=by
 intro pins s σ H Q I hq;refine wpAny_List_spliced (aT (h pos pins s σ H _ I hq) λ us s1 ⟨xs,H1,I1,r,z,q⟩=>⟨by rw [<- r.length];exact z,?_⟩)
 have hf:H1 s1.heap.objs.size=none:=I1.É.fresh (Nat.le_refl _);refine⟨.ref s1.heap.objs.size,ae H1 s1.heap.objs.size (.lst xs),I1.laid (t':=s1.toks) (λ b u e=>Heap.get?_push_of_some _ e) (Nat.le_refl _) ?_,rfl,q _ hf⟩;exact⟨z,us,0,r,Heap.get?_push_size _ rfl⟩
end
abbrev Sp:=List V->Hp->VK->XK->Prop
abbrev kc:=List Env->Hp->Shared->XK->Value->Shared->Prop
structure Š (P:Program)(w:World)(K:PySem.W.Frag)(mg:Str->Option Value)(base:Heap)(A:Around)(outer:List Env)(s:Shared)(H:Hp):Prop where
 frames:A.frames=some outer
 mod:Mod K mg base
 bs:∀ b o,base.get? b=some o->s.heap.get? b=some o/\H b=none
 Ŭ:base.objs.size<=s.heap.objs.size
 ć:s.heap.FunFrames base outer
 JZ:∀ b∈jN outer,H b=none
 É:õ P w H s.heap
 bare:AllBare s.gens
def CE (outer:List Env)(P:Program)(w:World)(H:Hp)(s:Shared)(Q:VK)(u:Value)(s':Shared):Prop :=
 ∃ v H',s'.os=s.os/\AllBare s'.gens/\Un (jN outer) [] H H' s.heap s'.heap/\õ P w H' s'.heap/\RelV v u/\Q v H'
def CR (CX:kc)(outer:List Env)(P:Program)(w:World)(H:Hp)(s:Shared)(Q:VK)(E:XK)(r:Result)(s':Shared):Prop :=
 match r with
 | .ok (.ret u)=>CE outer P w H s Q u s'
 | .ok _=>False
 | .error e=>CX outer H s E e s'
structure Â (P:Program)(w:World)(K:PySem.W.Frag)(mg:Str->Option Value)(base:Heap)(CX:kc)(k:Nat)(f:Addr)(fd:FuncData)(ps:List Str)(sp:Sp):Prop where
 len:∀ vs H Q E,sp vs H Q E->vs.length=ps.length
 run:∀(A:Around)(outer:List Env)(s:Shared)(H:Hp)(args:Args)(us:List Value)(vs:List V)(Q:VK)(E:XK),Ä k A->Š P w K mg base A outer s H->BindsTo s fd args (ps.zip us)->Vals vs us->sp vs H Q E ->
  codeAny (model P w) A (.call (.ref f) args) (CR CX outer P w H s Q E) s
theorem Â.mono {P:Program}{w:World}{K:PySem.W.Frag}{mg:Str->Option Value}{base:Heap}{CX:kc}{j k:Nat}{f:Addr}{fd:FuncData}{ps:List Str}{sp:Sp}(F:Â P w K mg base CX j f fd ps sp)(h:j<=k) :
  Â P w K mg base CX k f fd ps sp:=⟨F.len,λ A outer s H args us vs Q E hr=>F.run A outer s H args us vs Q E (hr.mono h)⟩
theorem Â.imp {P:Program}{w:World}{K:PySem.W.Frag}{mg:Str->Option Value}{base:Heap}{CX:kc}{k:Nat}{f:Addr}{fd:FuncData}{ps:List Str}{sp Sn:Sp}(F:Â P w K mg base CX k f fd ps sp)
  (h:∀ vs H Q E,Sn vs H Q E->sp vs H Q E):Â P w K mg base CX k f fd ps Sn :=
 ⟨λ vs H Q E q=>F.len vs H Q E (h _ _ _ _ q),λ A outer s H args us vs Q E hr he hb hv hs=>F.run A outer s H args us vs Q E hr he hb hv (h _ _ _ _ hs)⟩
theorem Š.make {P:Program}{w:World}{K:PySem.W.Frag}{mg:Str->Option Value}{base:Heap}{A:Around}{outer:List Env}{s:Shared}{H:Hp}(e:Š P w K mg base A outer s H)(C:Addr)(us:List Value)(kw:List (Str × Value)) :
  Š P w K mg base (A.under (.builtin "type.__call__" ⟨.ref C::us,kw⟩)) outer s H:=⟨by first | exact e.frames | (simpa [Around.under,Code.envs,Code.isFrame,pushEnvs] using e.frames),e.mod,e.bs,e.Ŭ,e.ć,e.JZ,e.É,e.bare⟩
section
variable {X:Cx}{pins:List (Addr × Obj)}{σ:St}{H:Hp}{s s':Shared}
theorem Inv.Ke (I:Inv X pins σ H s):Š X.prog X.w X.K X.mg X.base X.A X.stack s H :=
 ⟨I.ok.frames,I.ok.mod,I.bs,Nat.le_trans I.ok.Ŭ I.sz,I.stack,I.Ě,I.É,I.bare⟩
theorem Inv.after {Q:VK}{u:Value}(I:Inv X pins σ H s)(h:CE X.stack X.prog X.w H s Q u s'):EP X pins σ Q u s':=by
 obtain⟨v,H',os,bare,un,É,r,q⟩:=h;obtain⟨hh,g,d,t,ß⟩:=s';obtain rfl:ß = s.os:=os;exact⟨v,H',I.call (h':=hh) (g':=g) (d':=d) (t':=t) (ch:=[]) un É bare (λ b z=>absurd z (by simp)),r,q⟩
end
def gn (sp:Sp)(dvs:List V)(E:XK)(t:TA):TE:=λ σ H Q=>t σ H λ vs H1=>sp (vs++dvs) H1 Q E
def dE (C:Addr)(sp:Sp)(dvs:List V)(E:XK)(t:TA):TE:=λ σ H Q=>t σ H λ vs H1=>∀ x dx,H1 x=none->H1 dx=none->dx≠x ->
 sp (.ref x::(vs++dvs)) (ae (ae H1 dx (.own x)) x (.ins C dx [])) (λ v H2=>v=.Æ/\Q (.ref x) H2) E
def Binds (K:PySem.W.Frag)(fd:FuncData)(ps:List Str)(ds:List Value):Prop :=
 ∀(s:Shared)(us:List Value),K.In s.heap->(us++ds).length=ps.length->BindsTo s fd ⟨us,[]⟩ (ps.zip (us++ds))
theorem Binds.all {K:PySem.W.Frag}{fd:FuncData}{ps:List Str}(h:∀ us:List Value,us.length=ps.length->bindArgs fd ⟨us,[]⟩=pure (ps.zip us)):Binds K fd ps []:=λ s us _ hl=>by
 rw [List.append_nil] at hl ⊢;exact .of_eq (h us hl)
def dB (CX:kc)(X:Cx)(E:XK):Prop:=∀(pins:List (Addr × Obj))(σ:St)(H:Hp)(s:Shared)(e:Value)(s':Shared),Inv X pins σ H s->CX X.stack H s E e s'->X.xe e s'
section
variable {X:Cx}{CX:kc}{k:Nat}{f C:Addr}{fd:FuncData}{ps:List Str}{sp:Sp}{dvs:List V}{ds:List Value}{E:XK}{x m:Str}{p pos apos:Pos}{e o:Expr}{es:List Expr}{ta:TE}{t:TA}
theorem jD {pins:List (Addr × Obj)}{σ:St}{H:Hp}{s:Shared}{Q:VK}{us:List Value}{vs:List V}(F:Â X.prog X.w X.K X.mg X.base CX k f fd ps sp)(hr:Ä k X.A)(hb:Binds X.K fd ps ds)(hd:Vals dvs ds)(hx:dB CX X E)
  (I:Inv X pins σ H s)(r:Vals vs us)(h:sp (vs++dvs) H Q E):wpAny (model X.prog X.w) X.A (call (.ref f) us) (EP X pins σ Q) X.xe s:=by
 have r2:Vals (vs++dvs) (us++ds):=r.append hd;have hl:(us++ds).length=ps.length:=by rw [<- r2.length];exact F.len _ _ _ _ h
 refine wpAny_call (codeAny_mono (F.run X.A X.stack s H ⟨us,[]⟩ (us++ds) (vs++dvs) Q E hr I.Ke (hb s us I.Ý hl) r2 h) λ r s' hq=>?_);cases r with
 | error e=>exact hx pins σ H s e s' I hq
 | ok fl =>
  cases fl with
  | ret u=>exact I.after hq
  | next=>exact False.elim hq
  | brk=>exact False.elim hq
  | cont=>exact False.elim hq
theorem bU (F:Â X.prog X.w X.K X.mg X.base CX k f fd ps sp)(hr:Ä k X.A)(hg:Gl X x)(hm:X.mg x=some (.ref f))(hk:PySem.W.keepIn X.K (.ref f)=true)(hb:Binds X.K fd ps ds)(hd:Vals dvs ds)(hx:dB CX X E)
  (ha:PA X (e::es) t)(Ġ:(x==("__debug__" : Str))=false:=by decide)(he:starEach (e::es) X.env=(false,eval e X.env)::starEach es X.env:=by rfl)(ó:(backTo pos (starEach es X.env)).any (·.1)=false:=by rfl) :
  PE X (.Call (.Name x p) (e::es) [] pos) (gn sp dvs E t):=by
 intro pins s σ H Q I h;refine wpAny_Call_Name_kw (c7 I hg hm ?_ Ġ);refine PySem.W.callWith_K (h₀:=X.base) I.ok.mod.KL hk (aT (ha pos pins s σ H _ I h) λ us s1 ⟨vs,H1,I1,r,q⟩=>⟨I1.Ý,?_⟩) he ó;exact jD F hr hb hd hx I1 r q
theorem rN (F:Â X.prog X.w X.K X.mg X.base CX k f fd ps sp)(hr:Ä k X.A)(hg:Gl X x)(hm:X.mg x=some (.ref f))(hk:PySem.W.keepIn X.K (.ref f)=true)(hb:Binds X.K fd ps ds)(hd:Vals dvs ds)(hx:dB CX X E)
  (Ġ:(x==("__debug__" : Str))=false:=by decide):PE X (.Call (.Name x p) [] [] pos) (gn sp dvs E aF):=by
 intro pins s σ H Q I h;refine wpAny_Call_Name_kw (c7 I hg hm ?_ Ġ);exact PySem.W.callWith_K0 I.Ý hk (jD (us:=[]) F hr hb hd hx I .nil h)
structure Mk (K:PySem.W.Frag)(C f:Addr):Prop where
 makes:PySem.W.makesIn K C=true
 init:PySem.W.findIn K (.ref C) "__init__" = some (some (.ref f))
 fn:PySem.W.isFn K (.ref f)=true
 kp:PySem.W.keepIn K (.ref C)=true
theorem lW {pins:List (Addr × Obj)}{σ:St}{H:Hp}{s:Shared}{Q:VK}{us:List Value}{vs:List V}(M:Mk X.K C f)(F:Â X.prog X.w X.K X.mg X.base CX k f fd ps sp)(hr:Ä (k+1) X.A)(hb:Binds X.K fd ps ds)(hd:Vals dvs ds)
  (hx:dB CX X E)(I:Inv X pins σ H s)(r:Vals vs us)
  (h:∀ x dx,H x=none->H dx=none->dx≠x->sp (.ref x::(vs++dvs)) (ae (ae H dx (.own x)) x (.ins C dx [])) (λ v H2=>v=.Æ/\Q (.ref x) H2) E) :
  wpAny (model X.prog X.w) X.A (call (.ref C) us) (EP X pins σ Q) X.xe s:=by
 have hq:=h (s.heap.objs.size+1) s.heap.objs.size (I.É.fresh (Nat.le_succ _)) (I.É.fresh (Nat.le_refl _)) (Nat.ne_of_lt (Nat.lt_succ_self _));have I2:=Inv.made (C:=C) I;have r2:Vals (V.ref (s.heap.objs.size+1)::(vs++dvs)) (Value.ref (s.heap.objs.size+1)::(us++ds)):=.cons rfl (r.append hd);have hl:(Value.ref (s.heap.objs.size+1)::us++ds).length=ps.length:=by
  have e:=r2.length;rw [F.len _ _ _ _ hq] at e;exact e.symm
 refine wpAny_call (sE (f:=f) I.Ý M.makes M.init (beq_iff_eq.mp M.fn) (codeAny_mono (F.run _ X.stack _ _ ⟨Value.ref (s.heap.objs.size+1)::us,[]⟩ (Value.ref (s.heap.objs.size+1)::(us++ds)) _ _ E (hr.make C us [])
  (I2.Ke.make C us []) (hb _ (Value.ref (s.heap.objs.size+1)::us) I2.Ý hl) r2 hq) λ r s' Jv=>?_))
 cases r with
 | error e=>exact hx pins σ _ _ e s' I2 Jv
 | ok fl =>
  cases fl with
  | ret u =>
   obtain⟨v,H',I3,rv,ev,q3⟩:=I2.after Jv;subst ev;exact⟨rv,⟨V.ref (s.heap.objs.size+1),H',I3,rfl,q3⟩⟩
  | next=>exact False.elim Jv
  | brk=>exact False.elim Jv
  | cont=>exact False.elim Jv
theorem dU (M:Mk X.K C f)(F:Â X.prog X.w X.K X.mg X.base CX k f fd ps sp)(hr:Ä (k+1) X.A)(hg:Gl X x)(hm:X.mg x=some (.ref C))(hb:Binds X.K fd ps ds)(hd:Vals dvs ds)(hx:dB CX X E)
  (ha:PA X (e::es) t)(Ġ:(x==("__debug__" : Str))=false:=by decide)(he:starEach (e::es) X.env=(false,eval e X.env)::starEach es X.env:=by rfl)(ó:(backTo pos (starEach es X.env)).any (·.1)=false:=by rfl) :
  PE X (.Call (.Name x p) (e::es) [] pos) (dE C sp dvs E t):=by
 intro pins s σ H Q I h;refine wpAny_Call_Name_kw (c7 I hg hm ?_ Ġ);refine PySem.W.callWith_K (h₀:=X.base) I.ok.mod.KL M.kp (aT (ha pos pins s σ H _ I h) λ us s1 ⟨vs,H1,I1,r,q⟩=>⟨I1.Ý,?_⟩) he ó;exact lW M F hr hb hd hx I1 r q
theorem gP (M:Mk X.K C f)(F:Â X.prog X.w X.K X.mg X.base CX k f fd ps sp)(hr:Ä (k+1) X.A)(hg:Gl X x)(hm:X.mg x=some (.ref C))(hb:Binds X.K fd ps ds)(hd:Vals dvs ds)(hx:dB CX X E)
  (Ġ:(x==("__debug__" : Str))=false:=by decide):PE X (.Call (.Name x p) [] [] pos) (dE C sp dvs E aF):=by
 intro pins s σ H Q I h;refine wpAny_Call_Name_kw (c7 I hg hm ?_ Ġ);exact PySem.W.callWith_K0 I.Ý M.kp (lW (us:=[]) M F hr hb hd hx I .nil h)
end
structure ad (N P:List Str)(sc:Scope):Prop where
 kind:sc.kind=.function
 co:sc.isCoroutine=false
 gen:sc.isGenerator=false
 nd:N.Nodup
 pre:N.take P.length=P
 par:∀ x∈P,sc.names.lookup x=some .local\/sc.names.lookup x=some .cell
 š:∀ y∈sc.names,y.2 ≠ .free
theorem aM {N P:List Str}{sc:Scope}(a:sc.kind=.function:=by rfl)(b:sc.isCoroutine=false:=by rfl)(c:sc.isGenerator=false:=by rfl)(d:N.Nodup:=by decide +kernel)(e:N.take P.length=P:=by rfl)(f:∀ x∈P,sc.names.lookup x=some .local\/sc.names.lookup x=some .cell:=by decide +kernel)(g:∀ y∈sc.names,y.2 ≠ .free:=by decide +kernel):ad N P sc:=⟨a,b,c,d,e,f,g⟩
theorem j3 {kindOf:Str->Option NameKind}{x:Str}:∀{binds:List (Str × Value)}{m:Str->Option Value},(∀ v,(x,v) ∉ binds)->bindL kindOf binds m x=m x
 | [],_,_=>rfl
 | (n,v)::r,m,h=>by
  unfold bindL;rw [j3 λ w hw=>h w (List.mem_cons_of_mem _ hw)];split
  ·have:x≠n:=by rintro rfl;exact h v List.mem_cons_self
   simp [this]
  ·rfl
theorem j9 {kindOf:Str->Option NameKind}{x:Str}:∀{binds:List (Str × Value)}{m:Str->Option Value},(∀ v,(x,v) ∉ binds)->bindC kindOf binds m x=m x
 | [],_,_=>rfl
 | (n,v)::r,m,h=>by
  unfold bindC;rw [j9 λ w hw=>h w (List.mem_cons_of_mem _ hw)];split
  ·rfl
  ·have:x≠n:=by rintro rfl;exact h v List.mem_cons_self
   simp [this]
theorem kg {kindOf:Str->Option NameKind}{x:Str}{v:Value}:∀{P:List Str}{vs:List Value}{i:Nat}{m:Str->Option Value},P.Nodup->P[i]?=some x->vs[i]?=some v->kindOf x=some .local ->
  bindL kindOf (P.zip vs) m x=some v
 | [],_,_,_,_,h,_,_=>by simp at h
 | _::_,[],_,_,_,_,h,_=>by simp at h
 | p::P,w::vs,0,m,nd,h1,h2,hk=>by
  simp at h1 h2;subst h1;subst h2;show bindL kindOf ((p,w)::P.zip vs) m p=_;unfold bindL;rw [j3 λ v hv=>(List.nodup_cons.mp nd).1 (List.of_mem_zip hv).1,if_pos hk];simp
 | p::P,w::vs,i+1,m,nd,h1,h2,hk=>by
  show bindL kindOf ((p,w)::P.zip vs) m x=_;unfold bindL;exact kg (i:=i) (List.nodup_cons.mp nd).2 (by simpa using h1) (by simpa using h2) hk
theorem jY {kindOf:Str->Option NameKind}{x:Str}{v:Value}:∀{P:List Str}{vs:List Value}{i:Nat}{m:Str->Option Value},P.Nodup->P[i]?=some x->vs[i]?=some v->kindOf x≠some .local ->
  bindC kindOf (P.zip vs) m x=some v
 | [],_,_,_,_,h,_,_=>by simp at h
 | _::_,[],_,_,_,_,h,_=>by simp at h
 | p::P,w::vs,0,m,nd,h1,h2,hk=>by
  simp at h1 h2;subst h1;subst h2;show bindC kindOf ((p,w)::P.zip vs) m p=_;unfold bindC;rw [j9 λ v hv=>(List.nodup_cons.mp nd).1 (List.of_mem_zip hv).1,if_neg hk];simp
 | p::P,w::vs,i+1,m,nd,h1,h2,hk=>by
  show bindC kindOf ((p,w)::P.zip vs) m x=_;unfold bindC;exact jY (i:=i) (List.nodup_cons.mp nd).2 (by simpa using h1) (by simpa using h2) hk
def gQ (N:List Str)(vs:List V):St:=vs.map some++List.replicate (N.length-vs.length) none
def aV (CX:kc)(P:Program)(w:World)(K:PySem.W.Frag)(mg:Str->Option Value)(base:Heap)(N:List Str)(qual:Str)(scope:Scope)(f:Addr)(cd:Value)(A:Around)(outer:List Env)(s:Shared)(H:Hp)(E:XK):Cx where
 prog:=P
 w:=w
 K:=K
 mg:=mg
 base:=base
 A:=A.deeper (envOfC qual scope s.heap.objs.size f cd)
 N:=N
 ã:=s
 ŵ:=H
 env:=envOfC qual scope s.heap.objs.size f cd
 outer:=outer
 stack:=envOfC qual scope s.heap.objs.size f cd::outer
 ex:=[]
 calm:=true
 fn:=λ _=>true
 pn:=[]
 xe:=λ e s'=>wpAny (model P w) (A.deeper (envOfC qual scope s.heap.objs.size f cd)) (leaving (envOfC qual scope s.heap.objs.size f cd) e) (λ _ KW=>CX outer H s E e KW) (λ e' KW=>CX outer H s E e' KW) s'
theorem nu {sc:Scope}{n:Nat}{x:Str}(h:sc.names.lookup x=some .cell):∃ c,(cellsFrom n sc.names []).lookup x=some c:=by
 have q:=PySem.W.cellsFrom_some sc.names n [] (.inl h);exact Option.isSome_iff_exists.mp q
theorem qa {CX:kc}{P:Program}{w:World}{K:PySem.W.Frag}{mg:Str->Option Value}{base:Heap}{N ps:List Str}{qual:Str}{scope:Scope}{f:Addr}{cd:Value}{A:Around}{outer:List Env}{s s1:Shared}{H:Hp}{E:XK}{us:List Value}{vs:List V}
  (S:ad N ps scope)(hd:A.handled=none)(e0:Š P w K mg base A outer s H)(hl:vs.length=ps.length)(r:Vals vs us)
  (x:InCallC s s.heap.objs.size (bindL (envOfC qual scope s.heap.objs.size f cd).kindOf (ps.zip us) λ _=>none) (cellsFrom (s.heap.objs.size+1) scope.names []) (bindC (envOfC qual scope s.heap.objs.size f cd).kindOf (ps.zip us) λ _=>none) s1) :
  Inv (aV CX P w K mg base N qual scope f cd A outer s H E) [] (gQ N vs) H s1:=by
 have ó:ps.length<=N.length:=by have:=congrArg List.length S.pre;rw [List.length_take] at this;omega
 obtain⟨h1,tk,rfl,hk⟩:=x.done;have ME:∀ b:Addr,b ∉ (aV CX P w K mg base N qual scope f cd A outer s H E).ex:=λ b z=>absurd (show b∈([]:List Addr) from z) (by simp)
 refine⟨⟨e0.mod,S.kind,rfl,rfl,Nat.le_refl _,λ y z c h1 h2=>?_,λ y hy=>?_,λ y c _ h=>?_,λ _=>hd,Around.frames_deeper e0.frames,.inr ⟨rfl,rfl⟩,λ b z=>absurd z (ME b),e0.bs,e0.Ŭ,λ b _ _=>ME b,λ b z=>absurd z (ME b),e0.ć,e0.JZ⟩,
  rfl,e0.bare,Un.kept hk,⟨_,x.toInCall.ns,λ i y v h1 h2 h3=>?_⟩,λ y c h=>⟨_,x.cell y c h⟩,e0.É.fresh (Nat.le_refl _),λ y c h=>?_,λ p hp=>absurd (show p∈([]:List (Addr × Obj)) from hp) (by simp),e0.É.kept hk,?_⟩
 ·exact name_of_addr x.apart (PySem.mem_of_lookup h1) (PySem.mem_of_lookup h2)
 ·have hy:scope.names.lookup y=some .cell\/scope.names.lookup y=some .free:=hy;rcases hy with hy | hy
  ·exact nu hy
  ·exact absurd rfl (S.š _ (PySem.mem_of_lookup hy))
 ·exact Nat.le_of_lt (x.above y c (PySem.mem_of_lookup h))
 ·have hi:i<vs.length:=by
   unfold gQ at h2;by_cases hi:i<vs.length
   ·exact hi
   ·rw [List.getElem?_append_right (by simpa using hi)] at h2
    rw [List.getElem?_replicate] at h2;split at h2 <;> cases h2
  have ha:vs[i]?=some v:=by
   unfold gQ at h2;rw [List.getElem?_append_left (by simpa using hi),List.getElem?_map] at h2
   cases e:vs[i]? with
   | none=>rw [e] at h2;cases h2
   | some a=>rw [e] at h2;cases h2;rfl
  obtain⟨u,hu,rv⟩:=r.get ha;have hp:ps[i]?=some y:=by
   rw [<- S.pre,List.getElem?_take_of_lt (by omega)];exact h1
  have So:ps.Nodup:=by rw [<- S.pre];exact S.nd.sublist (List.take_sublist _ _)
  refine⟨u,rv,?_⟩;rcases S.par y (List.mem_of_getElem? hp) with k | k
  ·exact .inl ⟨k,kg So hp hu k⟩
  ·obtain⟨c,e⟩:=nu (n:=s.heap.objs.size+1) k;refine .inr ⟨.inl k,c,e,?_⟩;have q:=x.cell y c e;rw [jY So hp hu (by show scope.names.lookup y≠_;rw [k];decide)] at q
   exact q
 ·exact e0.É.fresh (Nat.le_of_lt (x.above y c (PySem.mem_of_lookup h)))
 ·unfold gQ;show _=N.length;rw [List.length_append,List.length_map,List.length_replicate];omega
theorem wV {CX:kc}{P:Program}{w:World}{K:PySem.W.Frag}{mg:Str->Option Value}{base:Heap}{k:Nat}{f:Addr}{name qual:Str}{params:Arguments}{body:List Stmt}{scope:Scope}{dV kV doc pm cdv ct oc:Value}{an od:Option Addr}
  {Kf:Array (Option Value)}{N ps:List Str}{sp:Sp}(lk:K.lookup f=some ⟨oc,od,.func (PySem.W.fnOf name qual params body scope dV kV doc pm an cdv ct),Kf⟩)(ŷ:PySem.W.codeIn K cdv qual=true)(S:ad N ps scope)
  (len:∀ vs H Q E,sp vs H Q E->vs.length=ps.length)
  (Ō:∀(A:Around)(outer:List Env)(s:Shared)(H:Hp)(vs:List V)(Q:VK)(E:XK),Ä k (A.deeper (envOfC qual scope s.heap.objs.size f cdv))->sp vs H Q E ->
   ∃ t,ü (aV CX P w K mg base N qual scope f cdv A outer s H E) body t/\t { nx:=λ _ H'=>Q .Æ H',rt:=Q } (gQ N vs) H) :
  Â P w K mg base CX (k+1) f (PySem.W.fnOf name qual params body scope dV kV doc pm an cdv ct) ps sp:=by
 refine⟨len,λ A outer s H args us vs Q E hr e0 hb r Ÿ=>?_⟩;have hl:=len _ _ _ _ Ÿ;have KX:K.In s.heap:=e0.mod.KL.keeps λ b o e=>(e0.bs b o e).1;have lim:s.heap.NoLimit:=e0.mod.nolimit.keeps λ b o e=>(e0.bs b o e).1;have MF:∀ y∈ps.zip us,scope.names.lookup y.1=some .local\/(scope.names.lookup y.1=some .cell/\((cellsFrom (s.heap.objs.size+1) scope.names []).lookup y.1).isSome=true):=λ ⟨n,v⟩ hy=>by
  rcases S.par n (List.of_mem_zip hy).1 with q | q
  ·exact .inl q
  ·exact .inr ⟨q,PySem.W.cellsFrom_some _ _ _ (.inl q)⟩
 refine codeAny_call_function hr.depth (KX _ _ lk) rfl S.co S.gen rfl (PySem.W.codeRec_of KX ŷ) (hb _ _ _ _ ?_);refine wpAny_newFunctionEnv_cells S.kind MF λ env he s1 x=>?_;subst he;refine⟨lim.keeps x.toInCall.keep,codeAny_func ?_⟩;obtain⟨t,ht,hq⟩:=Ō A outer s H vs Q E (hr.deeper _) Ÿ;have I:Inv (aV CX P w K mg base N qual scope f cdv A outer s H E) [] (gQ N vs) H s1:=qa S hr.hd e0 hl r x;refine wpAny_mono (ht [] s1 (gQ N vs) H _ I hq) (λ fl s' hs=>?_) λ e s' hs=>hs;have fin:∀{Ï:St}{H':Hp}{v:V}{u:Value},Inv (aV CX P w K mg base N qual scope f cdv A outer s H E) [] Ï H' s'->RelV v u->Q v H'->CE outer P w H s Q u s' :=
  λ {Ï H' v u} J rv q=>⟨v,H',J.os,J.bare,J.base,J.É,rv,q⟩
 cases fl with
 | ret u =>
  obtain⟨v,Ï,H',J,rv,q⟩:=hs;exact fin J rv q
 | next =>
  obtain⟨Ï,H',J,q⟩:=hs;exact fin (v:=V.Æ) (u:=Value.none) J rfl q
 | brk =>
  obtain⟨_,_,_,q⟩:=hs;exact False.elim q
 | cont =>
  obtain⟨_,_,_,q⟩:=hs;exact False.elim q
section
variable {X:Cx}{x:Str}{p pos:Pos}{e:Expr}{es:List Expr}{t:TA}{id T:String}{r:List V->Hp->VK->Prop}
def gH (r:List V->Hp->VK->Prop)(t:TA):TE:=λ σ H Q=>t σ H λ vs H1=>r vs H1 Q
theorem am (hc:cV X (.builtin id) r)(hg:Gl X x)(hm:X.mg x=none)(hv:bootBuiltins x=some (.builtin id))(ha:PA X (e::es) t)(hn:x ≠ "__name__" := by decide)(Ġ:(x==("__debug__" : Str))=false:=by decide)
  (he:starEach (e::es) X.env=(false,eval e X.env)::starEach es X.env:=by rfl)(ó:(backTo pos (starEach es X.env)).any (·.1)=false:=by rfl):PE X (.Call (.Name x p) (e::es) [] pos) (gH r t):=by
 intro pins s σ H Q I h;refine wpAny_Call_Name_kw (gB I hg hm hv ?_ hn Ġ);exact PyProof.Rows.callWith_builtin1 (aT (ha pos pins s σ H _ I h) λ us s1 ⟨vs,H1,I1,r1,q1⟩=>hc pins s1 σ H1 vs us Q I1 r1 q1) he ó
theorem aO (hc:cV X (.type T) r)(hg:Gl X x)(hm:X.mg x=none)(hv:bootBuiltins x=some (.type T))(ha:PA X (e::es) t)(hn:x ≠ "__name__" := by decide)(Ġ:(x==("__debug__" : Str))=false:=by decide)
  (he:starEach (e::es) X.env=(false,eval e X.env)::starEach es X.env:=by rfl)(ó:(backTo pos (starEach es X.env)).any (·.1)=false:=by rfl):PE X (.Call (.Name x p) (e::es) [] pos) (gH r t):=by
 intro pins s σ H Q I h;refine wpAny_Call_Name_kw (gB I hg hm hv ?_ hn Ġ);exact PyProof.Rows.callWith_type1 (aT (ha pos pins s σ H _ I h) λ us s1 ⟨vs,H1,I1,r1,q1⟩=>hc pins s1 σ H1 vs us Q I1 r1 q1) he ó
end
abbrev TO:=St->Hp->(Option Int->Hp->Prop)->Prop
theorem iX {ns:List Int}:∀{us:List Value},Vals (ns.map V.int) us->IntsAre us ns:=by
 induction ns with
 | nil=>intro us r;rw [List.map_nil] at r;cases r;exact .nil
 | cons n ns ih =>
  intro us r;rw [List.map_cons] at r;cases r with
  | cons r1 r2 =>
   obtain⟨t,e⟩:=r1;subst e;exact .cons n t (ih r2)
def wR (n:Nat)(i:Int):Option Nat:=if 0<=i then(if i<n then some i.toNat else none) else if -(n:Int)<=i then some (i+n).toNat else none
def uf {α:Type}(xs:List α)(i:Int):Option α:=(wR xs.length i).bind λ j=>xs[j]?
theorem p9 {n:Nat}{i:Int}{j:Nat}(h:wR n i=some j):seqIndex? i n=some j/\j<n/\-(n:Int)<=i/\i<n:=by
 unfold wR at h;by_cases h0:0<=i
 ·rw [if_pos h0] at h;by_cases h1:i<n
  ·rw [if_pos h1] at h;have e:i.toNat=j:=Option.some.inj h;exact⟨by rw [seqIndex_of h0 h1,e],by omega,by omega,h1⟩
  ·rw [if_neg h1] at h;cases h
 ·rw [if_neg h0] at h;by_cases h1:-(n:Int)<=i
  ·rw [if_pos h1] at h;have e:(i+n).toNat=j:=Option.some.inj h;exact⟨by rw [seqIndex_neg (by omega) h1,e],by omega,h1,by omega⟩
  ·rw [if_neg h1] at h;cases h
theorem pX {α:Type}{xs:List α}{i:Int}{v:α}(h:uf xs i=some v):∃ j,seqIndex? i xs.length=some j/\xs[j]?=some v/\j<xs.length/\-(xs.length:Int)<=i/\i<xs.length:=by
 unfold uf at h;cases e:wR xs.length i with
 | none=>rw [e] at h;cases h
 | some j =>
  rw [e] at h;obtain⟨h1,h2,h3,h4⟩:=p9 e;exact⟨j,h1,h,h2,h3,h4⟩
theorem cX {α:Type}{xs:List α}{j:Nat}{v:α}(h:xs[j]?=some v):uf xs (j:Int)=some v:=by
 have hj:j<xs.length:=(List.getElem?_eq_some_iff.mp h).1;have e:wR xs.length (j:Int)=some j:=by
  unfold wR;rw [if_pos (by omega),if_pos (by omega)];simp
 unfold uf;rw [e];exact h
def kK (b:Expr):Prop:=∀ o i,subscripted b false o i=operate [o,i] (getItem o i)
def Ef (X:Cx)(r:R2):Prop :=
 ∀(value slice:Expr)(pins:List (Addr × Obj))(s:Shared)(σ:St)(H:Hp)(x y:V)(v u:Value)(Q:VK),Inv X pins σ H s->RelV x v->RelV y u->r x y H Q ->
  subscripted slice false v u=operate [v,u] (getItem v u)->wpAny (model X.prog X.w) X.A (subscriptTail value slice v u) (EP X pins σ Q) X.xe s
def Gd (X:Cx)(id:String)(r:V->List V->Hp->VK->Prop):Prop :=
 ∀(pins:List (Addr × Obj))(s:Shared)(σ:St)(H:Hp)(x:V)(xs:List V)(v:Value)(us:List Value)(Q:VK),Inv X pins σ H s->RelV x v->Vals xs us->r x xs H Q ->
  wpAny (model X.prog X.w) X.A (call (.builtin id) (v::us)) (EP X pins σ Q) X.xe s
section
variable {X:Cx}{a b:Expr}{ta tb:TE}{pos:Pos}
theorem Dx {r:R2}(hr:Ef X r)(ha:PE X a ta)(hb:PE X b tb)(hs:kK b):PE X (.Subscript a b pos) (aJ r ta tb):=by
 intro pins s σ H Q I h;exact Subscript_ (zV ha hb I h λ v u s2 x y H2 I2 rx ry q=>hr a b pins s2 σ H2 x y v u Q I2 rx ry q (hs _ _))
theorem cy {r:R2}(hr:Ef X r)(ha:PE X a ta)(hb:PE X b tb)(hs:kK b:=by exact λ _ _=>rfl):PE X (.Subscript a b pos) (aJ r ta tb):=Dx hr ha hb hs
def cT (K:PySem.W.Frag):R2:=λ x y H Q=>∃ p xs i v,x=.ref p/\y=.int i/\Ã K H p xs/\uf xs i=some v/\Q v H
def jG (K:PySem.W.Frag):R2:=λ x y H Q=>∃ p xs i v,x=.ref p/\y=.int i/\Ì K H p xs/\uf xs i=some v/\Q v H
theorem fL:Ef X (cT X.K):=by
 intro value slice pins s σ H x y v u Q I rx ry h hs;obtain⟨p,xs,i,z,rfl,rfl,hq,he,q⟩:=h;cases rx;obtain⟨t,rfl⟩:=ry;obtain⟨its,r,pl,hz⟩:=I.list hq;obtain⟨j,h1,h2,h3,h4,h5⟩:=pX he;obtain⟨w,ew,Jd⟩:=r.get h2;have hl:=r.length;have hn:=jn;have fin:EP X pins σ Q w s:=⟨z,H,I,Jd,q⟩;by_cases h0:0<=i
 ·have hj:i.toNat=j:=by
   rw [seqIndex_of h0 h5] at h1;exact Option.some.inj h1
  exact item_listR pl.isList h0 (by omega) (by rw [hj];simpa using ew) fin hs
 ·have hj:(i+(its.toArray.size:Int)).toNat=j:=by
   rw [seqIndex_neg (by omega) h4] at h1
   rw [List.size_toArray,<- hl];exact Option.some.inj h1
  exact subscriptTail_builtinR (x:=w) pl.isList.typeIs slot_list_getitem.lookup
   (wpAny_getItem_list_neg (Q:=λ r s'=>r=w/\EP X pins σ Q r s') pl.isList (by omega) (by rw [List.size_toArray] <;> omega) (by omega) (by rw [hj];simpa using ew) ⟨rfl,fin⟩) hs
theorem gF:Ef X (jG X.K):=by
 intro value slice pins s σ H x y v u Q I rx ry h hs;obtain⟨p,xs,i,z,rfl,rfl,hq,he,q⟩:=h;cases rx;obtain⟨t,rfl⟩:=ry;obtain⟨its,r,pl,hz⟩:=I.tuple hq;obtain⟨j,h1,h2,h3,h4,h5⟩:=pX he;obtain⟨w,ew,Jd⟩:=r.get h2;have hl:=r.length;have hn:=jn;have fin:EP X pins σ Q w s:=⟨z,H,I,Jd,q⟩;exact subscriptTail_builtinR (x:=w) pl.typeIs slot_tuple_getitem.lookup
  (getItem_tuple (j:=j) (Q:=λ r s'=>r=w/\EP X pins σ Q r s') pl (by omega) (by omega) (by rw [List.size_toArray,<- hl];exact h1) (by simpa using ew) ⟨rfl,fin⟩) hs
theorem oG (its:List Value)(n j:Nat)(u:Value):Obj.mapSeq (·.setIfInBounds j u) { cls:=.type "list",data:=.seq its.toArray n }={ cls:=.type "list",data:=.seq (its.set j u).toArray n }:=by
 simp [Obj.mapSeq]
theorem Inv.lst {pins:List (Addr × Obj)}{σ:St}{H:Hp}{s:Shared}{p:Addr}{xs:List V}(I:Inv X pins σ H s)(h:H p=some (.lst xs)) :
  ∃(its:List Value)(n:Nat),Vals xs its/\s.heap.get? p=some { cls:=.type "list",data:=.seq its.toArray n }/\xs.length<=sizeLine:=by
 obtain⟨z,its,n,r,e⟩:=I.É p _ h;exact⟨its,n,r,e,z⟩
theorem Inv.LC {pins:List (Addr × Obj)}{σ:St}{H:Hp}{s:Shared}{p:Addr}{xs ys:List V}{its its':List Value}{n n':Nat}{f:Obj->Obj}(I:Inv X pins σ H s)(h:H p=some (.lst xs))
  (ho:s.heap.get? p=some { cls:=.type "list",data:=.seq its.toArray n })(hf:f { cls:=.type "list",data:=.seq its.toArray n }={ cls:=.type "list",data:=.seq its'.toArray n' })(r:Vals ys its')(hz:ys.length<=sizeLine)(t:Nat) :
  Inv X pins σ (ae H p (.lst ys)) { s with heap:=s.heap.update p f,toks:=t }:=by
 have e:(s.heap.update p f).get? p=some { cls:=.type "list",data:=.seq its'.toArray n' }:=by
  rw [Heap.get?_update_self f ho (by rw [hf] <;> rfl),hf]
 refine I.write (x:=p) (e:=p) (by rw [h];trivial) (.inl rfl) (λ b u hb q=>(Heap.get?_update_other _ _ (Ne.symm hb)).trans q) ⟨_,e⟩ ?_
 exact⟨hz,its',n',r,e⟩
def tK:V->V->V->Hp->(Hp->Prop)->Prop:=λ o i v H Q=>∃ p xs k j,o=.ref p/\i=.int k/\H p=some (.lst xs)/\wR xs.length k=some j/\Q (ae H p (.lst (xs.set j v)))
theorem fN:AV X tK:=by
 intro pins s σ H o i v ov iv u Q I ro ri rv h;obtain⟨p,xs,k,j,rfl,rfl,hp,hj,q⟩:=h;cases ro;obtain⟨t,rfl⟩:=ri;obtain⟨its,n,r,ho,hz⟩:=I.lst hp;obtain⟨h1,h2,h3,h4⟩:=p9 hj;have hl:=r.length;have hn:=jn;have I':Inv X pins σ (ae H p (.lst (xs.set j v))) { s with heap:=s.heap.update p (Obj.mapSeq (·.setIfInBounds j u)) } :=
  I.LC hp ho (oG its n j u) (r.set rv j) (by rw [List.length_set];exact hz) s.toks
 by_cases h0:0<=k
 ·have hk:k.toNat=j:=by
   rw [seqIndex_of h0 h4] at h1;exact Option.some.inj h1
  exact PySem.W.ki_setAt ho h0 (by omega) (by rw [List.size_toArray,<- hl];exact h4) (by rw [hk];exact⟨_,I',q⟩)
 ·have hk:(k+(its.toArray.size:Int)).toNat=j:=by
   rw [seqIndex_neg (by omega) h3] at h1
   rw [List.size_toArray,<- hl];exact Option.some.inj h1
  exact PySem.W.ki_setBack ho (by omega) (by rw [List.size_toArray,<- hl];exact h3) (by omega) (by rw [hk];exact⟨_,I',q⟩)
def gm:V->Bool
 | .Æ=>true
 | .bl _=>true
 | .int _=>true
 | .str _=>true
 | _=>false
def oS:V->V->Bool
 | .Æ,.Æ=>true
 | .bl a,.bl b=>a==b
 | .bl a,.int b=>(if a then 1 else 0)==b
 | .int a,.bl b=>a==(if b then 1 else 0)
 | .int a,.int b=>a==b
 | .str a,.str b=>a==b
 | _,_=>false
theorem sD {A:Around}{s:Shared}{y x:V}{u v:Value}(ry:RelV y u)(rx:RelV x v)(fy:gm y=true)(fx:gm x=true):SeqAt.EqAt A s u v (oS y x):=by
 cases y with
 | Æ =>
  cases ry;cases x with
  | Æ=>cases rx;exact SeqAt.EqAt.same _
  | bl b=>cases rx;exact SeqAt.EqAt.none_bool b
  | int b=>obtain⟨t,rfl⟩:=rx;exact SeqAt.EqAt.none_int b t
  | str b=>obtain⟨t,rfl⟩:=rx;exact SeqAt.EqAt.none_str b t
  | _=>exact absurd (show false=true from fx) Bool.false_ne_true
 | bl a =>
  cases ry;cases x with
  | Æ=>cases rx;exact SeqAt.EqAt.bool_none a
  | bl b=>cases rx;exact SeqAt.EqAt.bool_bool a b
  | int b=>obtain⟨t,rfl⟩:=rx;exact SeqAt.EqAt.bool_int a b t
  | str b=>obtain⟨t,rfl⟩:=rx;exact SeqAt.EqAt.bool_str a b t
  | _=>exact absurd (show false=true from fx) Bool.false_ne_true
 | int a =>
  obtain⟨t',rfl⟩:=ry;cases x with
  | Æ=>cases rx;exact SeqAt.EqAt.int_none a t'
  | bl b=>cases rx;exact SeqAt.EqAt.int_bool a t' b
  | int b=>obtain⟨t,rfl⟩:=rx;exact SeqAt.EqAt.int_int a t' b t
  | str b=>obtain⟨t,rfl⟩:=rx;exact SeqAt.EqAt.int_str a t' b t
  | _=>exact absurd (show false=true from fx) Bool.false_ne_true
 | str a =>
  obtain⟨t',rfl⟩:=ry;cases x with
  | Æ=>cases rx;exact SeqAt.EqAt.str_none a t'
  | bl b=>cases rx;exact SeqAt.EqAt.str_bool a t' b
  | int b=>obtain⟨t,rfl⟩:=rx;exact SeqAt.EqAt.str_int a t' b t
  | str b=>obtain⟨t,rfl⟩:=rx;exact SeqAt.EqAt.str_str a t' b t
  | _=>exact absurd (show false=true from fx) Bool.false_ne_true
 | _=>exact absurd (show false=true from fy) Bool.false_ne_true
def uI (x:V)(u:Value):Bool:=match u with
 | .none=>oS .Æ x
 | .bool b=>oS (.bl b) x
 | .int i _=>oS (.int i) x
 | .str z _=>oS (.str z) x
 | _=>false
theorem sZ {x y:V}{u:Value}(r:RelV y u)(f:gm y=true):uI x u=oS y x:=by
 cases y with
 | Æ=>cases r;rfl
 | bl b=>cases r;rfl
 | int i=>obtain⟨t,rfl⟩:=r;rfl
 | str z=>obtain⟨t,rfl⟩:=r;rfl
 | _=>exact absurd (show false=true from f) Bool.false_ne_true
theorem kJ {x:V}:∀{xs:List V}{us:List Value},Vals xs us->xs.all gm=true->us.any (uI x)=xs.any λ y=>oS y x
 | _,_,.nil,_=>rfl
 | y::xs,u::us,.cons r t,f=>by
  rw [List.all_cons,Bool.and_eq_true] at f;rw [List.any_cons,List.any_cons,sZ r f.1,kJ t f.2]
theorem iU {A:Around}{s:Shared}{x:V}{v:Value}(rx:RelV x v)(fx:gm x=true):∀{xs:List V}{us:List Value},Vals xs us->xs.all gm=true->∀ u∈us,SeqAt.EqAt A s u v (uI x u)
 | _,_,.nil,_=>λ u hu=>by cases hu
 | y::xs,u::us,.cons r t,f=>λ u' hu=>by
  rw [List.all_cons,Bool.and_eq_true] at f;rcases List.mem_cons.mp hu with rfl | hu
  ·rw [sZ r f.1];exact sD r rx f.1 fx
  ·exact iU rx fx t f.2 u' hu
def Ft (x:V)(xs:List V):Bool:=xs.any λ y=>oS y x
def HT (K:PySem.W.Frag)(neg:Bool):R2:=λ x y H Q=>∃ p xs,y=.ref p/\(Ã K H p xs\/Ì K H p xs)/\gm x=true/\xs.all gm=true/\Q (.bl (if neg then !Ft x xs else Ft x xs)) H
theorem qF:iJ X (compareOp .In) (HT X.K false):=by
 intro pins s σ H x y v u Q I rx ry h;obtain⟨p,xs,rfl,hq,fx,fs,q⟩:=h;cases ry;rcases hq with hq | hq
 ·obtain⟨its,r,pl,hz⟩:=I.list hq;refine SeqAt.in_listAt (uI x) pl.isList (λ w hw=>iU rx fx r fs w (by simpa using hw)) ⟨.bl _,H,I,rfl,?_⟩
  rw [show its.toArray.any (uI x)=its.any (uI x) by simp,kJ r fs]
  exact q
 ·obtain⟨its,r,pl,hz⟩:=I.tuple hq;refine SeqAt.in_tupleAt (uI x) pl (λ w hw=>iU rx fx r fs w (by simpa using hw)) ⟨.bl _,H,I,rfl,?_⟩
  rw [show its.toArray.any (uI x)=its.any (uI x) by simp,kJ r fs]
  exact q
theorem aG:cV X (.builtin "len") (λ xs H Q=>∃ p ys,xs=[.ref p]/\(Ã X.K H p ys\/Ì X.K H p ys)/\Q (.int ys.length) H):=by
 intro pins s σ H xs us Q I r h;obtain⟨p,ys,rfl,hq,q⟩:=h;obtain⟨u,rfl,rx⟩:=dY r;cases rx;have hn:=jn;rcases hq with hq | hq
 ·obtain⟨its,r',pl,hz⟩:=I.list hq;have hlen:=r'.length;exact Calls.call_len_list pl.isList (by simp only [List.size_toArray] <;> omega) ⟨.int ys.length,H,I.tok _,⟨s.toks+1,by rw [List.size_toArray,hlen]⟩,q⟩
 ·obtain⟨its,r',pl,hz⟩:=I.tuple hq;have hlen:=r'.length;exact len_tuple pl (by simp only [List.size_toArray] <;> omega) ⟨.int ys.length,H,I.tok _,⟨s.toks+1,by rw [List.size_toArray,hlen]⟩,q⟩
theorem gJ:cV X (.type "list") (λ xs H Q=>∃ p ys,xs=[.ref p]/\(Ã X.K H p ys\/Ì X.K H p ys)/\∀ l,H l=none->Q (.ref l) (ae H l (.lst ys))):=by
 intro pins s σ H xs us Q I r h;obtain⟨p,ys,rfl,hq,q⟩:=h;obtain⟨u,rfl,rx⟩:=dY r;cases rx;have fin:∀(its:List Value),Vals ys its->ys.length<=sizeLine->∀(h':Heap)(c':Nat),(∀ b o',s.heap.get? b=some o'->h'.get? b=some o') ->
   h'.get? s.heap.objs.size=some { cls:=.type "list",dict:=none,data:=.seq its.toArray c',slots:=#[] }->EP X pins σ Q (.ref s.heap.objs.size) { s with heap:=h' }:=λ its r' hz h' c' kp e =>
  ⟨.ref s.heap.objs.size,_,I.laid (t':=s.toks) kp (Nat.le_refl _) (show Å X.prog X.w _ h' _ (.lst ys) from⟨hz,its,c',r',e⟩),rfl,q _ (I.É.fresh (Nat.le_refl _))⟩
 rcases hq with hq | hq
 ·obtain⟨its,r',pl,hz⟩:=I.list hq;have hlen:=r'.length;obtain⟨o,ho,hc,n,hd⟩:=pl.isList;exact call_list_seq p (.inl rfl) ho hc hd (λ h' c' kp e=>fin its r' hz h' c' kp e) (by simp only [List.size_toArray] <;> omega)
 ·obtain⟨its,r',pl,hz⟩:=I.tuple hq;have hlen:=r'.length;obtain⟨o,ho,hc,n,hd⟩:=pl;exact call_list_seq p (.inr rfl) ho hc hd (λ h' c' kp e=>fin its r' hz h' c' kp e) (by simp only [List.size_toArray] <;> omega)
theorem cz:cV X (.type "tuple") (λ xs H Q=>∃ p ys,xs=[.ref p]/\((Ã X.K H p ys/\∀ l,H l=none->Q (.ref l) (ae H l (.tup ys)))\/(Ì X.K H p ys/\Q (.ref p) H))):=by
 intro pins s σ H xs us Q I r h;obtain⟨p,ys,rfl,h⟩:=h;obtain⟨u,rfl,rx⟩:=dY r;cases rx;rcases h with⟨hq,q⟩ | ⟨hq,q⟩
 ·obtain⟨its,r',pl,hz⟩:=I.list hq;have hlen:=r'.length;refine call_tuple_list pl.isList (λ h' kp=>?_) (by simp only [List.size_toArray] <;> omega)
  have I1:Inv X pins σ H { s with heap:=h' }:=I.kept (t':=s.toks) kp
  have I2:Inv X pins σ (ae H h'.objs.size (.tup ys)) { s with heap:=h'.push { cls:=.type "tuple",data:=.seq its.toArray } } :=
   I1.laid (t':=s.toks) (λ b o e=>Heap.get?_push_of_some _ e) (Nat.le_refl _) (show Å X.prog X.w _ _ _ (.tup ys) from⟨hz,its,r',IsTup.new _ _⟩)
  exact⟨.ref h'.objs.size,_,I2,rfl,q _ (I1.É.fresh (Nat.le_refl _))⟩
 ·obtain⟨its,r',pl,hz⟩:=I.tuple hq;exact call_tuple_same pl ⟨.ref p,H,I,rfl,q⟩
def Ib (K:PySem.W.Frag)(T:String)(x:V)(H:Hp):Prop:=match x with
 | .str _=>T = "str"
 | .int _=>T = "int"
 | .ref p=>(T = "list" /\ ∃ xs,Ã K H p xs)\/(T = "tuple" /\ ∃ o,K.lookup p=some o/\o.cls=.type "tuple" /\ o.dict=none) \/
   (T = "dict" /\ ((∃ kvs,H p=some (.dK kvs))\/∃ kvs,H p=some (.dT kvs)))\/(T = "set" /\ ∃ S n,H p=some (.set S n))
 | _=>False
theorem yo {pins:List (Addr × Obj)}{σ:St}{H:Hp}{s:Shared}{T:String}{x:V}{v:Value}(I:Inv X pins σ H s)(r:RelV x v)(ty:Ib X.K T x H) :
  s.TypeIs v T/\∀ a,v=.ref a->∃ ob,s.heap.get? a=some ob/\ob.dict=none:=by
 cases x with
 | str z =>
  obtain⟨t,rfl⟩:=r;cases (show T = "str" from ty);exact⟨typeIs_str s z t,λ _ e=>nomatch e⟩
 | int i =>
  obtain⟨t,rfl⟩:=r;cases (show T = "int" from ty);exact⟨typeIs_int s i t,λ _ e=>nomatch e⟩
 | ref p =>
  cases r;rcases ty with⟨rfl,xs,hq⟩ | ⟨rfl,o,hk,hc,hd⟩ | ⟨rfl,hk⟩ | ⟨rfl,S,n,hk⟩
  ·obtain⟨its,_,pl,_⟩:=I.list hq;refine⟨pl.isList.typeIs,λ a e=>?_⟩;cases e;obtain⟨o,n,e,c,hd,_⟩:=pl;exact⟨o,e,hd⟩
  ·refine⟨⟨o,I.Ý p o hk,hc⟩,λ a e=>?_⟩;cases e;exact⟨o,I.Ý _ o hk,hd⟩
  ·have z:∃ o,s.heap.get? p=some o/\o.ExactDict:=by
    rcases hk with⟨kvs,hk⟩ | ⟨kvs,hk⟩
    ·obtain⟨_,_,_,_,o,_,_,e,ex,_⟩:=I.É p _ hk;exact⟨o,e,ex⟩
    ·obtain⟨_,_,_,_,o,_,_,e,ex,_⟩:=I.É p _ hk;exact⟨o,e,ex⟩
   obtain⟨o,e,ex⟩:=z;refine⟨⟨o,e,ex.1⟩,λ a e2=>?_⟩;cases e2;exact⟨o,e,ex.2.1⟩
  ·obtain⟨o,_,_,_,e,ex,_⟩:=I.É p _ hk;refine⟨⟨o,e,ex.1⟩,λ a e2=>?_⟩;cases e2;exact⟨o,e,ex.2.1⟩
 | _=>exact False.elim ty
def q8 (K:PySem.W.Frag)(T:String)(r:V->List V->Hp->VK->Prop)(to:TE)(t:TA):TE:=λ σ H Q=>to σ H λ x H1=>Ib K T x H1/\t σ H1 λ xs H2=>r x xs H2 Q
variable {o e:Expr}{es:List Expr}{to:TE}{t:TA}{name:Str}{apos Ă:Pos}{T id:String}{r:V->List V->Hp->VK->Prop}
theorem dF (pa:PlainAttrs T)(slot:Slot T name id)(UD:typeOf (.builtin id)=pure (.type "method_descriptor"))(hm:Gd X id r)(ho:PE X o to)(ha:PA X (e::es) t)
  (MG:attributeBase o name X.env (eval o X.env)=eval o X.env:=by rfl)
  (Pg:((backTo Ă (starEach (e::es) X.env)).all (λ x=>!x.1)&&(backToKw Ă (keywordEach [] X.env)).all (λ x=>x.1.isSome)
   && decide ((e::es).length+([]:List Keyword).length+(if([]:List Keyword).isEmpty then 0 else 1)<30))=true:=by rfl)
  (MH:(apos.endLine == Ă.line)=true:=by rfl)(hs:starEach (e::es) X.env=(false,eval e X.env)::starEach es X.env:=by rfl)(LD:(backTo Ă (starEach es X.env)).any (·.1)=false:=by rfl) :
  PE X (.Call (.Attribute o name apos) (e::es) [] Ă) (q8 X.K T r to t):=by
 intro pins s σ H Q I h;refine wpAny_Call_method_late MG Pg MH rfl (aT (ho pins s σ H _ I h) λ v s1 ⟨x,H1,I1,r1,ty,q1⟩=>?_);obtain⟨h1,h2⟩:=yo I1 r1 ty;refine⟨T,id,pa,slot,UD,h1,h2,?_⟩;have hA:=ha Ă pins s1 σ H1 _ I1 q1;rw [hs] at hA ⊢;refine Calls.callWith_builtin (by show(false||(backTo Ă (starEach es X.env)).any (·.1))=false;rw [LD] <;> rfl) (Calls.evalArgs_plain ?_)
 exact aT hA λ us s2 ⟨vs,H2,I2,r2,q2⟩=>hm pins s2 σ H2 x vs v us Q I2 r1 r2 q2
end
def HU (X:Cx)(id:String)(r:V->List V->Hp->VK->Prop):Prop :=
 ∀(pins:List (Addr × Obj))(s:Shared)(σ:St)(H:Hp)(x:V)(xs:List V)(v:Value)(us:List Value)(Q:VK),Inv X pins σ H s->RelV x v->Vals xs us->r x xs H Q ->
  wpAny (model X.prog X.w) X.A (call (.builtin id) (v::us)) (EP X pins σ Q) X.xe s
theorem Vals.one:∀{x:V}{us:List Value},Vals [x] us->∃ u,us=[u]/\RelV x u
 | _,_,.cons r .nil=>⟨_,rfl,r⟩
section
variable {X:Cx}{pins:List (Addr × Obj)}{σ:St}{H:Hp}{s:Shared}{l b:Addr}{xs ys zs:List V}
theorem Inv.MI {its its':List Value}{n:Nat}{f:Array Value->Array Value}{t':Nat}(I:Inv X pins σ H s)(hH:H l=some (.lst xs))
  (e:s.heap.get? l=some { cls:=.type "list",data:=.seq its.toArray n })(hf:f its.toArray=its'.toArray)(hv:Vals ys its')(hz:ys.length<=sizeLine) :
  Inv X pins σ (ae H l (.lst ys)) { s with heap:=s.heap.update l (Obj.mapSeq f),toks:=t' }:=by
 have q:=PySem.IsL.update e f;rw [hf] at q;refine I.write (x:=l) (e:=l) (by rw [hH];exact trivial) (.inl rfl) (λ b' u hb hu=>(Heap.get?_update_other s.heap (Obj.mapSeq f) (Ne.symm hb)).trans hu) ⟨_,q⟩ ?_
 exact⟨hz,its',_,hv,q⟩
theorem Inv.Kg {its:List Value}{t':Nat}(I:Inv X pins σ H s)(hv:Vals ys its)(hz:ys.length<=sizeLine) :
  Inv X pins σ (ae H s.heap.objs.size (.lst ys)) { s with heap:=s.heap.push { cls:=.type "list",data:=.seq its.toArray },toks:=t' } :=
 I.laid (λ _ _ q=>Heap.get?_push_of_some _ q) (Nat.le_refl _) ⟨hz,its,0,hv,Heap.get?_push_size _ rfl⟩
theorem Inv.fresh (I:Inv X pins σ H s):H s.heap.objs.size=none:=I.É.fresh (Nat.le_refl _)
theorem Inv.LF (I:Inv X pins σ H s)(hH:H l=some (.lst xs)):xs.length<=sizeLine/\∃(its:List Value)(n:Nat),Vals xs its/\xs.length=its.length/\s.heap.get? l=some { cls:=.type "list",data:=.seq its.toArray n }:=by
 obtain⟨z,its,n,r,e⟩:=I.É l _ hH;exact⟨z,its,n,r,r.length,e⟩
theorem sB {n:Nat}(h:n<=sizeLine):Builtin.List.listTooLong n=false:=by
 unfold Builtin.List.listTooLong;exact decide_eq_false (by omega)
def gc:V->List V->Hp->VK->Prop:=λ x vs H Q=>∃ l xs y,x=.ref l/\vs=[y]/\H l=some (.lst xs)/\xs.length<sizeLine/\Q .Æ (ae H l (.lst (xs ++ [y])))
theorem bh:HU X "list.append" gc:=by
 intro pins s σ H x vs v us Q I rx rv h;obtain⟨l,xs,y,rfl,rfl,hH,hz,q⟩:=h;cases rx;obtain⟨u,rfl,ru⟩:=rv.one;obtain⟨z,its,n,r,hl,e⟩:=I.LF hH;refine call_meets F.slot_list_append ⟨_,e,rfl⟩ F.entry_list_append (F.args_list_append_2 _ _) (PySem.list_append l its.toArray n u (by rw [List.size_toArray];omega)) ⟨e,?_⟩
 refine⟨.Æ,_,I.MI (its':=its ++ [u]) hH e (by simp) (r.append (.cons ru .nil)) ?_,rfl,q⟩
 rw [List.length_append,List.length_singleton];omega
def pW:V->List V->Hp->VK->Prop:=λ x vs H Q=>∃ l b xs zs,x=.ref l/\vs=[.ref b]/\H l=some (.lst xs)/\H b=some (.lst zs)/\xs.length+zs.length<=sizeLine/\Q .Æ (ae H l (.lst (xs++zs)))
theorem qT:HU X "list.extend" pW:=by
 intro pins s σ H x vs v us Q I rx rv h;obtain⟨l,b,xs,zs,rfl,rfl,hH,hB,hz,q⟩:=h;cases rx;obtain⟨u,rfl,ru⟩:=rv.one;cases ru;obtain⟨z,its,n,r,hl,e⟩:=I.LF hH;obtain⟨z2,Kh,n2,r2,J4,e2⟩:=I.LF hB;have hsz:its.toArray.size+Kh.toArray.size<=sizeLine:=by rw [List.size_toArray,List.size_toArray];omega
 have MJ:¬ (!its.toArray.isEmpty&&Builtin.List.listTooLong (its.toArray.size+Kh.toArray.size))=true:=by
  rw [sB hsz,Bool.and_false];exact Bool.false_ne_true
 refine call_meets F.slot_list_extend ⟨_,e,rfl⟩ F.entry_list_extend (F.args_list_extend_2 _ _)
  (AutoSeq1.list_extend_list_list_0 l its.toArray n b Kh.toArray n2 MJ (by rw [List.size_toArray];omega) (by omega)) ⟨e,e2,?_⟩
 refine⟨.Æ,_,I.MI (its':=its++Kh) hH e (by simp) (r.append r2) ?_,rfl,q⟩
 rw [List.length_append];omega
end
section
variable {κ:Type} [DecidableEq κ]
def dR (kvs:List (κ × V))(k:κ):Option V:=(kvs.find? λ kv=>decide (kv.1=k)).map (·.2)
def dQ (kvs:List (κ × V))(k:κ)(v:V):List (κ × V) :=
 if(kvs.any λ kv=>decide (kv.1=k))=true then kvs.map (λ kv=>if kv.1=k then(kv.1,v) else kv) else kvs ++ [(k,v)]
theorem ck {p:κ × V}{r:List (κ × V)}{k:κ}(e:p.1=k):dR (p::r) k=some p.2:=by simp [dR,List.find?_cons,e]
theorem cp {p:κ × V}{r:List (κ × V)}{k:κ}(e:¬ p.1=k):dR (p::r) k=dR r k:=by simp [dR,List.find?_cons,e]
theorem gL (k:κ):∀ kvs:List (κ × V),(kvs.any λ kv=>decide (kv.1=k))=(dR kvs k).isSome
 | []=>rfl
 | p::r=>by
  rw [List.any_cons];by_cases e:p.1=k
  ·simp only [ck e,decide_eq_true e,Bool.true_or,Option.isSome_some]
  ·rw [cp e,decide_eq_false e,Bool.false_or];exact gL k r
theorem mH (k j:κ)(y:V):∀ kvs:List (κ × V),dR (kvs.map λ kv=>if kv.1=k then(kv.1,y) else kv) j=(dR kvs j).map λ x=>if j=k then y else x
 | []=>rfl
 | p::r=>by
  have ih:=mH k j y r;rw [List.map_cons];by_cases h:p.1=k
  ·rw [if_pos h];by_cases e:p.1=j
   ·rw [ck (p:=(p.1,y)) e,ck e,Option.map_some,if_pos (e.symm.trans h)]
   ·rw [cp (p:=(p.1,y)) e,cp e,ih]
  ·rw [if_neg h];by_cases e:p.1=j
   ·rw [ck (p:=p) e,ck e,Option.map_some,if_neg (λ z=>h (e.trans z))]
   ·rw [cp (p:=p) e,cp e,ih]
theorem j6 (k j:κ)(y:V):∀ kvs:List (κ × V),dR kvs k=none->dR (kvs ++ [(k,y)]) j=if j=k then some y else dR kvs j
 | [],_=>by
  by_cases e:k=j
  ·rw [if_pos e.symm];exact ck (p:=(k,y)) e
  ·rw [if_neg (λ z=>e z.symm)];exact cp (p:=(k,y)) e
 | p::r,hn=>by
  rw [List.cons_append];have hk:¬ p.1=k:=λ z=>by rw [ck z] at hn;cases hn
  rw [cp hk] at hn;have ih:=j6 k j y r hn;by_cases e:p.1=j
  ·rw [ck e,ck e,if_neg (λ z=>hk (e.trans z))]
  ·rw [cp e,cp e,ih]
theorem mv (kvs:List (κ × V))(k j:κ)(y:V):dR (dQ kvs k y) j=if j=k then some y else dR kvs j:=by
 unfold dQ;by_cases a:(kvs.any λ kv=>decide (kv.1=k))=true
 ·rw [if_pos a,mH];rw [gL] at a;by_cases e:j=k
  ·obtain⟨x,hx⟩:=Option.isSome_iff_exists.mp a;rw [if_pos e,e,hx,Option.map_some,if_pos rfl]
  ·rw [if_neg e];cases dR kvs j with
   | none=>rfl
   | some x=>rw [Option.map_some,if_neg e]
 ·rw [if_neg a];refine j6 k j y kvs ?_;rw [gL] at a;cases q:dR kvs k with
  | none=>rfl
  | some x=>rw [q] at a;exact(a rfl).elim
theorem dk (kvs:List (κ × V))(k:κ)(v:V):(dQ kvs k v).length<=kvs.length+1:=by
 unfold dQ;split
 ·rw [List.length_map];omega
 ·rw [List.length_append,List.length_cons,List.length_nil];omega
theorem ô.Ź {o:Option V}{u:Option Value}(r:ô o u):o.isSome=u.isSome:=by
 cases o with
 | none=>cases u with
  | none=>rfl
  | some _=>exact(show False from r).elim
 | some _=>cases u with
  | none=>exact(show False from r).elim
  | some _=>rfl
theorem KV.val {kvs:List (κ × V)}{vs:List (κ × Value)}(r:KV kvs vs)(k:κ):ô (dR kvs k) (valueAt vs k):=by
 unfold KV at r
 induction r with
 | nil=>exact True.intro
 | @cons p q ps qs h t ih =>
  obtain⟨h1,h2⟩:=h;by_cases e:p.1=k
  ·have e':q.1=k:=h1.symm.trans e;have b:valueAt (q::qs) k=some q.2:=by simp [valueAt,List.find?_cons,e']
   rw [ck e,b];exact h2
  ·have e':¬ q.1=k:=λ z=>e (h1.trans z);have b:valueAt (q::qs) k=valueAt qs k:=by simp [valueAt,List.find?_cons,e']
   rw [cp e,b];exact ih
theorem KV.any {kvs:List (κ × V)}{vs:List (κ × Value)}(r:KV kvs vs)(k:κ):(kvs.any λ kv=>decide (kv.1=k))=vs.any λ kv=>decide (kv.1=k):=by
 unfold KV at r
 induction r with
 | nil=>rfl
 | cons h t ih=>rw [List.any_cons,List.any_cons,ih,h.1]
theorem KV.LG {kvs:List (κ × V)}{vs:List (κ × Value)}(r:KV kvs vs)(k:κ){y:V}{u:Value}(ry:RelV y u) :
  KV (kvs.map λ kv=>if kv.1=k then(kv.1,y) else kv) (vs.map λ kv=>if kv.1=k then(kv.1,u) else kv):=by
 unfold KV at r ⊢
 induction r with
 | nil=>exact .nil
 | @cons p q ps qs h t ih =>
  rw [List.map_cons,List.map_cons];refine .cons ?_ ih;obtain⟨h1,h2⟩:=h;by_cases e:p.1=k
  ·rw [if_pos e,if_pos (h1.symm.trans e)];exact⟨h1,ry⟩
  ·rw [if_neg e,if_neg (λ z=>e (h1.trans z))];exact⟨h1,h2⟩
theorem KV.put {kvs:List (κ × V)}{vs:List (κ × Value)}(r:KV kvs vs)(k:κ){y:V}{u:Value}(ry:RelV y u):KV (dQ kvs k y) (stored vs k u):=by
 unfold dQ stored;rw [r.any k];by_cases e:(vs.any λ kv=>decide (kv.1=k))=true
 ·rw [if_pos e,if_pos e];exact r.LG k ry
 ·rw [if_neg e,if_neg e];exact Paired.snoc r ⟨rfl,ry⟩
theorem KV.length {kvs:List (κ × V)}{vs:List (κ × Value)}(r:KV kvs vs):kvs.length=vs.length:=Paired.length r
end
theorem pV {P:Program}{w:World}{k:Key}{u:Value}(r:RelV (kV k) u):(bz P w).is k u=true:=by
 cases k with
 | inl i=>obtain⟨t,e⟩:=(show ∃ t,u=Value.int i t from r);subst e;exact l8 P w i t
 | inr x=>obtain⟨t,e⟩:=(show ∃ t,u=Value.str x t from r);subst e;exact nr P w x t
 | Æ=>cases (show u=Value.none from r);rfl
theorem j7 {P:Program}{w:World}:∀{ks:List Key}{us:List Value},Vals (ks.map kV) us->ItemsAre (bz P w) ks us
 | [],_,r=>by rw [List.map_nil] at r;cases r;exact .nil
 | k::ks,_,r=>by
  rw [List.map_cons] at r;cases r with
  | cons h t=>exact .cons (pV h) (j7 t)
abbrev KT (H:Hp):List (List Key × V)->List (List Key × Addr × Value)->Prop:=Paired λ p q=>p.1=q.1/\H q.2.1=some (.tup (p.1.map kV))/\RelV p.2 q.2.2
theorem KT.val {H:Hp}{kvs:List (List Key × V)}{xs:List (List Key × Addr × Value)}(r:KT H kvs xs)(k:List Key):ô (dR kvs k) ((atKey xs k).map (·.2)):=by
 induction r with
 | nil=>exact True.intro
 | @cons p q ps qs h t ih =>
  obtain⟨h1,_,h2⟩:=h;by_cases e:p.1=k
  ·have e':q.1=k:=h1.symm.trans e;have b:atKey (q::qs) k=some q.2:=by simp [atKey,List.find?_cons,e']
   rw [ck e,b];exact h2
  ·have e':¬ q.1=k:=λ z=>e (h1.trans z);have b:atKey (q::qs) k=atKey qs k:=by simp [atKey,List.find?_cons,e']
   rw [cp e,b];exact ih
theorem KT.LG {H:Hp}{kvs:List (List Key × V)}{xs:List (List Key × Addr × Value)}(r:KT H kvs xs)(k:List Key){y:V}{u:Value}(ry:RelV y u) :
  KT H (kvs.map λ kv=>if kv.1=k then(kv.1,y) else kv) (xs.map (putAt k u)):=by
 induction r with
 | nil=>exact .nil
 | @cons p q ps qs h t ih =>
  rw [List.map_cons,List.map_cons];refine .cons ?_ ih;obtain⟨h1,h2,h3⟩:=h;unfold putAt;by_cases e:p.1=k
  ·rw [if_pos e,if_pos (h1.symm.trans e)];exact⟨h1,h2,ry⟩
  ·rw [if_neg e,if_neg (λ z=>e (h1.trans z))];exact⟨h1,h2,h3⟩
theorem KT.put {H:Hp}{kvs:List (List Key × V)}{xs:List (List Key × Addr × Value)}(r:KT H kvs xs)(k:List Key){b:Addr}{y:V}{u:Value}(hb:H b=some (.tup (k.map kV)))(ry:RelV y u) :
  KT H (dQ kvs k y) (storedH xs k b u):=by
 have e:(kvs.any λ kv=>decide (kv.1=k))=(atKey xs k).isSome:=by
  rw [gL,(r.val k).Ź,Option.isSome_map]
 unfold dQ storedH;rw [e];by_cases q:(atKey xs k).isSome=true
 ·rw [if_pos q,if_pos q];exact r.LG k ry
 ·rw [if_neg q,if_neg q];exact Paired.snoc r ⟨rfl,hb,ry⟩
theorem KT.keeps {H H':Hp}{kvs:List (List Key × V)}{xs:List (List Key × Addr × Value)}(r:KT H kvs xs)(ht:∀ b ys,H b=some (.tup ys)->H' b=some (.tup ys)):KT H' kvs xs :=
 Paired.Lq r λ _ _ z=>⟨z.1,ht _ _ z.2.1,z.2.2⟩
section
variable {P:Program}{w:World}{H:Hp}{h:Heap}{a:Addr}
theorem xj {u:HO}(ok:õ P w H h)(e:Rd H a u):Å P w H h a u:=e.ok ok
theorem tG {kvs:List (Key × V)}(ok:õ P w H h)(e:Rd H a (.dK kvs)):kvs.length<=sizeLine/\(a==sysModules)=false/\∃ vs,KV kvs vs/\h.DictOf (bz P w) a vs :=
 show Å P w H h a (.dK kvs) from xj ok e
theorem wT {kvs:List (Key × V)}(ok:õ P w H h)(e:H a=some (.dK kvs)):kvs.length<=sizeLine/\(a==sysModules)=false/\∃ vs,KV kvs vs/\h.DictOf (bz P w) a vs:=tG ok (.inl e)
theorem nR {ks:List Key}(ok:õ P w H h)(e:H a=some (.tup (ks.map kV))):(tupleKind (bz P w)).is h ks a:=by
 obtain⟨_,its,r,o,h1,h2,n,h3⟩:=(show Å P w H h a (.tup (ks.map kV)) from ok a _ e);exact⟨o,its.toArray,n,h1,h2,h3,by simpa using j7 r⟩
theorem sT {kvs:List (List Key × V)}(ok:õ P w H h)(e:Rd H a (.dT kvs)):kvs.length<=sizeLine/\(a==sysModules)=false /\
  ∃ xs,KT H kvs xs/\h.DictOfH (tupleKind (bz P w)) a xs:=by
 obtain⟨z,y,xs,r,o,es,ep,h1,h2,h3,h4,h5⟩:=(show Å P w H h a (.dT kvs) from xj ok e);refine⟨z,y,xs,r,o,es,ep,h1,h2,h3,h4,λ x hx=>?_,h5⟩;have all:∀{l:List (List Key × V)}{m:List (List Key × Addr × Value)},KT H l m->∀ x∈m,(tupleKind (bz P w)).is h x.1 x.2.1:=by
  intro l m q
  induction q with
  | nil=>intro x hx;exact nomatch hx
  | @cons p q ps qs hq t ih =>
   intro x hx;rcases List.mem_cons.mp hx with e | hx
   ·subst e;exact nR ok (by rw [<- hq.1];exact hq.2.1)
   ·exact ih x hx
 exact all r x hx
theorem Ev {kvs:List (List Key × V)}(ok:õ P w H h)(e:H a=some (.dT kvs)):kvs.length<=sizeLine/\(a==sysModules)=false /\
  ∃ xs,KT H kvs xs/\h.DictOfH (tupleKind (bz P w)) a xs:=sT ok (.inl e)
end
def Ţ (H:Hp)(a:Addr)(y:V)(r:Option V):Prop :=
 (∃ kvs k,Rd H a (.dK kvs)/\y=kV k/\r=dR kvs k)\/∃ kvs k b,Rd H a (.dT kvs)/\y=.ref b/\H b=some (.tup (k.map kV))/\r=dR kvs k
def vq (H:Hp)(a:Addr)(y v:V)(H':Hp):Prop :=
 (∃ kvs k,H a=some (.dK kvs)/\y=kV k/\kvs.length<sizeLine/\H'=ae H a (.dK (dQ kvs k v))) \/
 ∃ kvs k b,H a=some (.dT kvs)/\y=.ref b/\H b=some (.tup (k.map kV))/\kvs.length<sizeLine/\H'=ae H a (.dT (dQ kvs k v))
theorem Ţ.k {H:Hp}{a:Addr}{kvs:List (Key × V)}{k:Key}(e:H a=some (.dK kvs)):Ţ H a (kV k) (dR kvs k):=.inl ⟨kvs,k,.inl e,rfl,rfl⟩
section
variable {X:Cx}{pins:List (Addr × Obj)}{σ:St}{H:Hp}{s:Shared}{a:Addr}{y v:V}{u r:Value}{o:Option V}{A:Around}{E:Value->Shared->Prop}
theorem Inv.big (I:Inv X pins σ H s):sysModules<s.heap.objs.size:=by
 have h:mainGlobals<s.heap.objs.size:=(I.mod.glob.keeps I.bk).lt;exact Nat.lt_trans (by decide) h
theorem qv {Q:Value->Shared->Prop}(hu:A.units+1<cLine)(I:Inv X pins σ H s)(g:Ţ H a y (some v))(ry:RelV y u)(h:∀ w' s',Inv X pins σ H s'->RelV v w'->Q w' s') :
  wpAny (model X.prog X.w) A (getItem (.ref a) u) Q E s:=by
 rcases g with⟨kvs,k,e,ey,l⟩ | ⟨kvs,k,b,e,ey,eb,l⟩
 ·subst ey;obtain⟨z,hd,vs,rel,dd⟩:=tG I.É e;obtain⟨w',hw,Jd⟩:=ô.some_of (v:=v) (o:=valueAt vs k) (by rw [l];exact rel.val k)
  exact wpAny_getItem_of (pV ry) dd.mapOf hw (h w' _ (I.tok _) Jd)
 ·subst ey;cases (show u=Value.ref b from ry);obtain⟨z,hd,xs,rel,dd⟩:=sT I.É e;obtain⟨w',hw,Jd⟩:=ô.some_of (v:=v) (o:=(atKey xs k).map (·.2)) (by rw [l];exact rel.val k)
  obtain⟨p,hp,UE⟩:=Option.map_eq_some_iff.mp hw;refine wpAny_getItem_heap (tupleKind_room_in1 hu) (nR I.É eb) dd hp ?_;rw [UE];exact h w' _ (I.tok _) Jd
theorem kP {h':Heap}{t':Nat}{ob:HO}(I:Inv X pins σ H s)(mu:DS (H a))(hs:Heap.SameBut a s.heap h')(he:∃ q,h'.get? a=some q)(new:Å X.prog X.w (ae H a ob) h' a ob) :
  Inv X pins σ (ae H a ob) { s with heap:=h',toks:=t' } :=
 I.write (x:=a) (e:=a) mu (.inl rfl) (λ b q hb z=>(hs.2 b hb).trans z) he new
theorem tT {P:Program}{w:World}{H':Hp}{h':Heap}{kvs:List (Key × V)}{vs:List (Key × Value)}(z:kvs.length<=sizeLine)(hd:(a==sysModules)=false)(rel:KV kvs vs)(dd:h'.DictOf (bz P w) a vs) :
  Å P w H' h' a (.dK kvs):=⟨z,hd,vs,rel,dd⟩
theorem ql {H':Hp}{Q:Unit->Shared->Prop}(hu:A.units+1<cLine)(I:Inv X pins σ H s)(g:vq H a y v H')(ry:RelV y u)(rv:RelV v r)(h:∀ s',Inv X pins σ H' s'->Q () s') :
  wpAny (model X.prog X.w) A (setItem (.ref a) u r) Q E s:=by
 rcases g with⟨kvs,k,e,ey,l,eH⟩ | ⟨kvs,k,b,e,ey,eb,l,eH⟩
 ·subst ey eH;obtain⟨z,hd,vs,rel,dd⟩:=wT I.É e;have hz:vs.length<=sizeLine:=by rw [<- rel.length];exact z
  have hl:(dQ kvs k v).length<=sizeLine:=by have:=dk kvs k v;omega
  refine wpAny_setItem_pairs (hsz:=hz) (pV ry) dd λ h' Jw hs=>h _ ?_;have he:∃ q,h'.get? a=some q:=let ⟨q,_,_,hq,_⟩:=Jw;⟨q,hq⟩
  exact kP I (by rw [e];exact True.intro) hs he (tT hl hd (rel.put k rv) Jw)
 ·subst ey eH;cases (show u=Value.ref b from ry);obtain⟨z,hd,xs,rel,dd⟩:=Ev I.É e;have hz:xs.length<=sizeLine:=by rw [<- Paired.length rel];exact z
  have hl:(dQ kvs k v).length<=sizeLine:=by have:=dk kvs k v;omega
  refine wpAny_setItem_heap (hsz:=hz) (tupleKind_room_in1 hu) (nR I.É eb) dd λ h' Jw hs=>h _ ?_;obtain⟨q,es,ep,hq,h2,h3,h4,_,h5⟩:=Jw;refine kP I (by rw [e];exact True.intro) hs ⟨q,hq⟩ ⟨hl,hd,_,(rel.put k eb rv).keeps λ c ys ec=>?_,q,es,ep,hq,h2,h3,h4,h5⟩
  rw [ag (CG ec e (λ z=>nomatch z))];exact ec
end
def EA (i:Expr):Prop:=∀ ov iv,subscripted i false ov iv=operate [ov,iv] (getItem ov iv)
theorem vH {prog:Program}{w:World}{A:Around}{E:Value->Shared->Prop}{s:Shared}{env:Env}{value slice:Expr}{pos:Pos}{T id:String}{Q:Value->Shared->Prop}
  (hl:typeLookup (.type T) "__getitem__" = pure (some (.builtin id)))(hs:EA slice)
  (h:wpAny (model prog w) A (eval value env) (λ o Ç=>wpAny (model prog w) A (eval slice env) (λ i ï=>ï.TypeIs o T/\wpAny (model prog w) A (getItem o i) Q E ï) E Ç) E s) :
  wpAny (model prog w) A (eval (.Subscript value slice pos) env) Q E s:=by
 refine Subscript_ (wpAny_mono h (λ o Ç Ü=>wpAny_mono Ü (λ i ï ļ=>?_) λ _ _ x=>x) λ _ _ x=>x);obtain⟨hT,ļ⟩:=ļ;unfold subscriptTail;refine wpAny_bind ?_;rw [getitemInPython_of_ne hT.not_modules];refine wpAny_bind (wpAny_specialOf hT hl ?_);have fin:wpAny (model prog w) A (subscripted slice false o i) (λ r ď=>wpAny (model prog w) A (letTemporaryGo value o r >>= λ _=>pure r) Q E ď) E ï:=by
  rw [hs o i];exact wpAny_operating (wpAny_mono ļ (λ r ď ţ=>wpAny_bind (wpAny_letTemporaryGo (wpAny_pure ţ))) λ _ _ x=>x)
 first
  | exact wpAny_pure (wpAny_bind fin)
  | exact wpAny_bind (wpAny_pure (wpAny_bind fin))
  | exact wpAny_bind fin
theorem mJ {X:Cx}{pins:List (Addr × Obj)}{σ:St}{H:Hp}{s:Shared}{a:Addr}{y:V}{o:Option V}(I:Inv X pins σ H s)(g:Ţ H a y o):s.TypeIs (.ref a) "dict" := by
 rcases g with⟨kvs,k,e,_,_⟩ | ⟨kvs,k,b,e,_,_,_⟩
 ·obtain⟨_,_,vs,_,dd⟩:=tG I.É e;exact dd.typeIs
 ·obtain⟨_,_,xs,_,dd⟩:=sT I.É e;exact dd.typeIs
def pH (td ty:TE):TE:=λ σ H Q=>td σ H λ x H1=>ty σ H1 λ y H2=>∃ a v,x=.ref a/\Ţ H2 a y (some v)/\Q v H2
def j8 (td ty tv:TE):TS:=λ D σ H=>tv σ H λ v H1=>td σ H1 λ x H2=>ty σ H2 λ y H3=>∃ a H4,x=.ref a/\vq H3 a y v H4/\D.nx σ H4
section
variable {X:Cx}{o i e value:Expr}{pos pos' Lz:Pos}{td ty tv:TE}
theorem pk (hu:X.A.units+1<cLine)(ho:PE X o td)(hi:PE X i ty)(hs:EA i:=by exact λ _ _=>rfl):PE X (.Subscript o i pos) (pH td ty):=by
 intro pins s σ H Q I h;refine vH PySem.F.slot_dict_getitem.lookup hs (aT (ho pins s σ H _ I h) λ u s1 ⟨x,H1,I1,rx,q1⟩=>aT (hi pins s1 σ H1 _ I1 q1) λ iv s2 ⟨y,H2,I2,ry,a,v,ex,g,q2⟩=>?_);subst ex;obtain rfl:u=Value.ref a:=rx;exact⟨mJ I2 g,qv hu I2 g ry λ w' s3 I3 Jd=>⟨v,H2,I3,Jd,q2⟩⟩
theorem iO (hu:X.A.units+1<cLine)(ho:PE X o td)(hi:PE X i ty)(hv:PE X value tv)(hs:swapsWith value (some (.Subscript o i pos')) pos.line X.env=pure false) :
  PS X (.Assign [.Subscript o i pos'] value pos) (j8 td ty tv):=by
 intro pins s σ H D I h;refine wpAny_Assign_Subscript (aT (hv pins s σ H _ I h) λ r s1 ⟨v,H1,I1,rv,q1⟩=>aT (ho pins s1 σ H1 _ I1 q1) λ u s2 ⟨x,H2,I2,rx,q2⟩=>aT (hi pins s2 σ H2 _ I2 q2) λ iv s3 ⟨y,H3,I3,ry,a,H4,ex,g,q3⟩=>?_) hs;subst ex;obtain rfl:u=Value.ref a:=rx;exact ql hu I3 g ry rv λ s4 I4=>⟨σ,H4,I4,q3⟩
end
theorem nj {P:Program}{w:World}{H:Hp}(h:Heap)(hb:sysModules<h.objs.size):Å P w H (h.push { cls:=.type "dict",data:=.dict #[] }) h.objs.size (.dK []) :=
 ⟨Nat.zero_le _,beq_eq_false_iff_ne.mpr (Ne.symm (Nat.ne_of_lt hb)),[],.nil,Heap.DictOf.new h⟩
def nS:TE:=λ _ H Q=>∀ p,H p=none->Q (.ref p) (ae H p (.dK []))
section
variable {X:Cx}{pos:Pos}
theorem r6:PE X (.Dict [] [] pos) nS:=λ pins s σ H Q I h =>
 wpAny_Dict_empty ⟨.ref s.heap.objs.size,_,I.laid (a:=s.heap.objs.size) (o:=.dK []) (t':=s.toks) (λ _ _ q=>Heap.get?_push_of_some _ q) (Nat.le_refl _) (nj s.heap I.big),rfl,h _ (I.É.fresh (Nat.le_refl _))⟩
end
structure M1 (X:Cx)(o:Expr)(m:Str)(apos:Pos)(e:Expr)(Ă:Pos):Prop where
 base:attributeBase o m X.env (eval o X.env)=eval o X.env
 UG:((backTo Ă (starEach [e] X.env)).all (λ x=>!x.1)&&(backToKw Ă (keywordEach [] X.env)).all (λ x=>x.1.isSome)
  && decide (([e]:List Expr).length+([]:List Keyword).length+(if([]:List Keyword).isEmpty then 0 else 1)<30))=true
 line:(apos.endLine == Ă.line)=true
 trees:backTo Ă (starEach [e] X.env)=[(false,eval e X.env)]
structure M2 (X:Cx)(o:Expr)(m:Str)(apos:Pos)(e f:Expr)(Ă:Pos):Prop where
 base:attributeBase o m X.env (eval o X.env)=eval o X.env
 UG:((backTo Ă (starEach [e,f] X.env)).all (λ x=>!x.1)&&(backToKw Ă (keywordEach [] X.env)).all (λ x=>x.1.isSome)
  && decide (([e,f]:List Expr).length+([]:List Keyword).length+(if([]:List Keyword).isEmpty then 0 else 1)<30))=true
 line:(apos.endLine == Ă.line)=true
 trees:backTo Ă (starEach [e,f] X.env)=[(false,eval e X.env),(false,eval f X.env)]
end L2
namespace Att
open PySem PySem.W PySem.Calls PyProof.Rows
theorem iH {P:Params}{h:Heap}:∀(ns:List Int)(vs:List Value),WellAll P h vs (ns.map WData.int)->IntsAre vs ns:=by
 intro ns
 induction ns with
 | nil =>
  intro vs w;rw [List.map_nil] at w;cases w;exact .nil
 | cons n ns ih =>
  intro vs w;rw [List.map_cons] at w;cases w with
  | cons a b =>
   cases a;exact .cons _ _ (ih _ b)
theorem qb {l:OpenLaw}{n:Nat}(hn:l.most=some n){P:Params}{h:Heap}{args:List WData}{vals:List Value}
  (Ki:l.row.toRowW.claim.pre args=true)(Ph:WellAll P h vals args) :
  ∃ a vs ns,vals=[Value.ref a]/\args=[WData.list (ns.map WData.int)]/\h.get? a=some { cls:=.type "list",data:=.seq vs.toArray }/\IntsAre vs ns/\ns.length<=n:=by
 have UH:WShape.hasAll [] args [.list .int]=true:=(pre_splitW Ki).1;have hc:l.pre.holds [] { args:=args }=true:=(pre_splitW Ki).2;obtain⟨d,r,rfl,h1,h2⟩:=hasAllW_cons UH;obtain rfl:=hasAllW_nil h2;obtain⟨xs,rfl,h3⟩:=hasW_list h1;obtain⟨ns,rfl⟩:=items_int h3;have hlen:ns.length<=n:=by
  unfold OpenLaw.pre at hc;have h4:(WTm.not (.lt (.lit (.int (n:Int))) (.len (.arg 0)))).holds [] { args:=[.list (ns.map .int)] }=true:=by
   have h4:=(holds_andW hc).1;rw [hn] at h4;exact h4
  have h5:=condW_of h4 (w_not (w_lt w_lit (w_len_list (w_arg rfl))));rw [List.length_map] at h5;refine Nat.le_of_not_lt λ q=>?_;have q':(n:Int)<((ns.length:Nat):Int):=by omega
  first
   | (rw [decide_eq_true q'] at h5;exact absurd h5 (by decide))
   | (simp at h5;omega)
 cases Ph with
 | cons w1 w2 =>
  cases w2;cases w1 with
  | list ho Pj=>exact⟨_,_,ns,rfl,rfl,ho,iH ns _ Pj,hlen⟩
theorem qD (l:OpenLaw)(args:List WData):l.row.toRowW.claim.post args (.bool true) args=true :=
 postW_of (r:=l.row.toRowW) (X:=(true==true))
  (show WShape.has [] (.bool true) .bool=true by first | rfl | decide | simp [WShape.has,WShape.arms,WShape.armsAll])
  (show(WTm.eq .res (.lit (.bool true))).value [] { args:=args,res:=some (.bool true),after:=args }=some (.bool (true==true)) from w_eq_bool (w_res rfl) w_lit) rfl
end Att
namespace L2
open PySem PySem.Spec PyProof.Rows
theorem hZ:∀{vs:List Value}{ns:List Int},IntsAre vs ns->Vals (ns.map V.int) vs
 | _,_,.nil=>.nil
 | _,_,.cons n t h=>.cons ⟨t,rfl⟩ (hZ h)
def zl (H:Hp):Prop:=∀ b,H b=none\/∃ o xs,H b=some (.ŉ o (.lst xs))
def az (s:Stmt)(j:Nat):Stmt:=match s with
 | .ClassDef _ _ _ body _ _ _ _ _ _ _=>body.getD j (.Pass ⟨0,0,0,0⟩)
 | _=>.Pass ⟨0,0,0,0⟩
def bw (s:Stmt):Arguments:=match s with
 | .FunctionDef _ a _ _ _ _ _ _ _ _=>a
 | _=>{ posonlyargs:=[],args:=[],vararg:=none,kwonlyargs:=[],kw_defaults:=[],kwarg:=none,defaults:=[] }
def au (s:Stmt):List Stmt:=match s with
 | .FunctionDef _ _ b _ _ _ _ _ _ _=>b
 | _=>[]
def aa (s:Stmt):Scope:=match s with
 | .FunctionDef _ _ _ _ _ _ sc _ _ _=>sc
 | _=>{ kind:=.function,names:=[],isGenerator:=false,isCoroutine:=false }
abbrev av:kc:=λ _ _ _ _ _ _=>False
abbrev E0:XK:=λ _ _ _=>False
theorem aj {X:Cx}:dB av X E0:=λ _ _ _ _ _ _ _ h=>h.elim
structure Ö (K:PySem.W.Frag)(x qual:Str)(st:Stmt)(f:Addr)(fd:FuncData):Prop where
 ex:∃(oc:Value)(od:Option Addr)(kV doc pm:Value)(an:Option Addr)(cdv ct:Value)(Kf:Array (Option Value)),
  fd=PySem.W.fnOf x qual (bw st) (au st) (aa st) .none kV doc pm an cdv ct/\K.lookup f=some ⟨oc,od,.func fd,Kf⟩/\PySem.W.codeIn K cdv qual=true
 kp:PySem.W.keepIn K (.ref f)=true
section
variable {P:Program}{w:World}{K:PySem.W.Frag}{mg:Str->Option Value}{base:Heap}
theorem Ö.ok {x qual:Str}{st:Stmt}{f:Addr}{fd:FuncData}{N ps:List Str}{k:Nat}{sp:Sp}(F:Ö K x qual st f fd)(S:ad N ps (aa st))(len:∀ vs H Q E,sp vs H Q E->vs.length=ps.length)
  (Ō:∀(cdv:Value)(A:Around)(outer:List Env)(s:Shared)(H:Hp)(vs:List V)(Q:VK)(E:XK),Ä k (A.deeper (envOfC qual (aa st) s.heap.objs.size f cdv))->sp vs H Q E ->
   ∃ t,ü (aV av P w K mg base N qual (aa st) f cdv A outer s H E).ä (au st) t/\t { nx:=λ _ H'=>Q .Æ H',rt:=Q } (gQ N vs) H):Â P w K mg base av (k+1) f fd ps sp:=by
 obtain⟨oc,od,kV,doc,pm,an,cdv,ct,Kf,rfl,lk,ŷ⟩:=F.ex;refine wV lk ŷ S len λ A outer s H vs Q E hr Ÿ=>?_;obtain⟨t,h,q⟩:=Ō cdv A outer s H vs Q E hr Ÿ;exact⟨t,h.ä,q⟩
theorem Ö.binds {x qual:Str}{st:Stmt}{f:Addr}{fd:FuncData}{ps:List Str}(F:Ö K x qual st f fd)
  (h:∀(kV doc pm:Value)(an:Option Addr)(cdv ct:Value)(us:List Value),us.length=ps.length->bindArgs (PySem.W.fnOf x qual (bw st) (au st) (aa st) .none kV doc pm an cdv ct) ⟨us,[]⟩=pure (ps.zip us)):Binds K fd ps []:=by
 obtain⟨oc,od,kV,doc,pm,an,cdv,ct,Kf,rfl,lk,ŷ⟩:=F.ex;exact .all (h kV doc pm an cdv ct)
theorem dM {x qual:Str}{st:Stmt}{f:Addr}{oc:Value}{od an:Option Addr}{Kf:Array (Option Value)}{kV doc pm cdv ct:Value}(l:K.lookup f=some ⟨oc,od,.func (PySem.W.fnOf x qual (bw st) (au st) (aa st) .none kV doc pm an cdv ct),Kf⟩)
  (c:PySem.W.codeIn K cdv qual=true)(k:PySem.W.keepIn K (.ref f)=true):Ö K x qual st f (PySem.W.fnOf x qual (bw st) (au st) (aa st) .none kV doc pm an cdv ct):=⟨⟨oc,od,kV,doc,pm,an,cdv,ct,Kf,rfl,l,c⟩,k⟩
variable {X:Cx}
theorem pv (i:Nat){x:Str}{pos:Pos}(hN:X.N[i]?=some x:=by rfl)(hv:w4 X.env.scope x:=by first | exact Or.inl rfl | exact Or.inr (Or.inl rfl) | exact Or.inr (Or.inr rfl))(hd:(x==("__debug__" : Str))=false:=by decide)
  (ŷ:(x==("__classdict__" : Str))=false:=by decide):PE X (.Name x pos) (af i):=Az hN hv hd ŷ
end
theorem oM {c A B:Prop} [Decidable c] (h1:c->A)(h2:¬ c->B):if c then A else B:=by
 by_cases h:c
 ·rw [if_pos h];exact h1 h
 ·rw [if_neg h];exact h2 h
end L2
set_option maxHeartbeats 4000000
namespace Att
open PySem PySem.W PySem.Calls PyProof.Rows
theorem oF {R:WRecords}{cl:Str->Option Addr}{h:Heap}{a:Addr}{ds:List WData}{as:List Addr}(r:ReadsAllW R cl h [.ref a] [.list ds] as):a∈as:=by
 cases r with
 | cons r1 r2 =>
  cases r1 with
  | list=>simp
theorem Ľ {l:OpenLaw}{n:Nat}{q:Program}{loose:List Str}{XP:(Str->Option Value)->Heap->Prop}{YP:World->Heap->Prop}{d:DefRec}
  (hn:l.most=some n)(MK:d.params.defaults=[])
  (call:∀(w:World)(ã Ç:Shared)(mg mb:Str->Option Value)(fa:Addr)(o:Obj)(pm cd doc:Value)(a:Addr)(vs:List Value)(ns:List Int),
   Ground q loose [] XP w ã mg mb Ç.heap->YP w Ç.heap ->
   Ç.heap.get? fa=some o->o.data=.func (docDef d.name d.params d.body d.scope pm cd doc)->Ç.heap.CodeRec cd d.name->mg d.name=some (.ref fa) ->
   Ç.heap.get? a=some { cls:=.type "list",data:=.seq vs.toArray }->IntsAre vs ns->ns.length<=n->Ç.gens = #[]->a≠sysModules ->
   codeAny (model l.prog w) callerA (.call (.ref fa) ⟨[.ref a],[]⟩) (λ r s'=>r=.ok (.ret (.bool true))/\OldK Ç.heap s'.heap/\s'.os = Ç.os/\AllBare s'.gens) Ç) :
  WalkO q loose XP YP l.row.toRowW d [] (λ f vs=>PySem.call f vs):=by
 intro w ã Ç mg mb G Y fa o pm cd doc dV kV ho hd ŷ hD ML hg args vals as Ki UI UJ Ph UK;obtain rfl:dV=.none:=Dflts.none hD MK;obtain rfl:kV=.none:=Dflts.noKw hD;obtain⟨a,vs,ns,rfl,rfl,LH,hints,hlen⟩:=qb hn Ki Ph;have low:a≠sysModules:=beq_eq_false_iff_ne.mp (UK a (oF UJ));refine enter_call (codeAny_mono (call w ã Ç mg mb fa o pm cd doc a vs ns G Y ho (fd_plain hd) ŷ ML LH hints hlen hg low) λ r s' hq=>?_);obtain⟨rfl,h2,h3,h4⟩:=hq;exact⟨.inl ⟨.bool true,.bool true,[],rfl,λ _=>rfl,.bool true,qD l _,λ _=>⟨List.Pairwise.nil,λ _ hm=>(nomatch hm)⟩⟩,h2,h3,h4⟩
end Att
namespace L2
open PySem PySem.Spec PyProof.Rows
theorem qc {P:Program}{w:World}{K:PySem.W.Frag}{mg mb:Str->Option Value}{CX:kc}{k:Nat}{fa a:Addr}{fd:FuncData}{x:Str}{sp:Sp}{Ç:Shared}{vs:List Value}{ns:List Int}
  (KX:K.In Ç.heap)(Mh:Ç.heap.Ns mainGlobals mg)(hb:Ç.heap.Ns builtinsNs mb)(UL:∀ x:Str,x ≠ "__name__" -> mb x=bootBuiltins x)(Pk:Ç.heap.NoLimit)(hg:Ç.gens = #[])
  (ha:Ç.heap.get? a=some { cls:=.type "list",data:=.seq vs.toArray })(hi:IntsAre vs ns)(hl:ns.length<=sizeLine)(hr:Ä k callerA)(low:a≠sysModules)
  (F:∀ base:Heap,K.In base->base.Ns mainGlobals mg->Â P w K mg base CX k fa fd [x] sp)(MM:∀(s:Shared)(u:Value),BindsTo s fd ⟨[u],[]⟩ [(x,u)])
  (Ÿ:∀ H:Hp,zl H->Ã K H a (ns.map V.int)->H sysModules=none->sp [.ref a] H (λ v _=>v=.bl true) λ _ _ _=>False)
  (Pl:∀ H e s',CX [] H Ç (λ _ _ _=>False) e s'->False) :
  codeAny (model P w) callerA (.call (.ref fa) ⟨[.ref a],[]⟩) (λ r s'=>r=.ok (.ret (.bool true))/\OldK Ç.heap s'.heap/\s'.os = Ç.os/\AllBare s'.gens) Ç:=by
 have rv:=hZ hi;have Pm:=hi.length;have core:∀ H:Hp,zl H->Ã K H a (ns.map V.int)->õ P w H Ç.heap->(∀ b,H b≠none->b=a)->(H a≠none->K.lookup a=none) ->
   codeAny (model P w) callerA (.call (.ref fa) ⟨[.ref a],[]⟩) (λ r s'=>r=.ok (.ret (.bool true))/\OldK Ç.heap s'.heap/\s'.os = Ç.os/\AllBare s'.gens) Ç:=by
  intro H hO hS É hA hK;have hz:H sysModules=none:=by
   cases q:H sysModules with
   | none=>rfl
   | some u=>exact absurd (hA _ (by rw [q];simp)).symm low
  have ů:∀{b:Addr}{o:Obj},Ç.heap.get? b=some o->H b=none->(lO Ç.heap H).get? b=some o:=λ e n=>rT e n;have ME:∀{b:Addr}{o:Obj}{es:Array DictEntry}{ep:Nat},Ç.heap.get? b=some o->o.data=.dict es ep->H b=none:=λ {b o es ep} e d=>by
   cases q:H b with
   | none=>rfl
   | some u =>
    have e':b=a:=hA b (by rw [q];simp)
    subst e';rw [ha] at e;cases e;have d':Data.seq vs.toArray _=Data.dict es ep:=d;cases d'
  have Od:∀{b:Addr}{m:Str->Option Value},Ç.heap.Ns b m->(lO Ç.heap H).Ns b m:=λ {b m} ⟨o,es,ep,e,d,r⟩=>⟨o,es,ep,ů e (ME e d),d,r⟩;have Sq:K.In (lO Ç.heap H):=λ b o e=>ů (KX b o e) (by
   cases q:H b with
   | none=>rfl
   | some u =>
    have e':b=a:=hA b (by rw [q];simp)
    subst e';rw [hK (by rw [q];simp)] at e;cases e)
  have hM:Mod K mg (lO Ç.heap H):=⟨Sq,Od Mh,⟨mb,Od hb,UL⟩,let ⟨mc,h1,h2⟩:=Pk;⟨mc,Od h1,h2⟩⟩
  have e0:Š P w K mg (lO Ç.heap H) callerA [] Ç H:=⟨rfl,hM,λ b o e=>vA e,Nat.le_of_eq (qJ _ _),trivial,λ b hb=>absurd (show b∈([]:List Addr) from hb) (by simp),É,.of_eq hg⟩
  refine codeAny_mono ((F _ Sq (Od Mh)).run callerA [] Ç H ⟨[.ref a],[]⟩ [.ref a] [.ref a] _ _ hr e0 (MM Ç (.ref a)) (.cons rfl .nil) (Ÿ H hO hS hz)) λ r s' h=>?_;cases r with
  | error e=>exact(Pl H e s' h).elim
  | ok fl =>
   cases fl with
   | next=>exact False.elim h
   | brk=>exact False.elim h
   | cont=>exact False.elim h
   | ret u =>
    obtain⟨v,H',os,bare,un,Pn,r',q⟩:=h;have q':v=.bl true:=q;subst q';obtain rfl:u=Value.bool true:=r';refine⟨rfl,OldK.of_keep λ b o e=>?_,os,bare⟩;cases q:H b with
    | none=>exact un.keep b o e q (by intro z;exact absurd (show b∈([]:List Addr) from z) (by simp)) (by simp)
    | some u =>
     rcases hO b with z | ⟨ob,xs,z⟩
     ·rw [q] at z;cases z
     ·have z2:=un.Ĕ b ob _ z;obtain⟨e1,_⟩:=É b _ z;obtain⟨e2,_⟩:=Pn b _ z2;rw [e] at e1;cases e1;exact e2
 cases hk:K.lookup a with
 | some o =>
  have e:=KX a o hk;rw [ha] at e;cases e;refine core (λ _=>none) (λ _=>.inl rfl) (.inr ⟨_,vs.toArray,_,hk,rfl,rfl,rfl,by rw [List.size_toArray,Pm];exact hl,by simpa using rv⟩) (λ b u z=>by have z':(none:Option HO)=some u:=z;cases z') (λ b z=>absurd rfl z) λ z=>absurd rfl z
 | none =>
  refine core (λ b=>if b=a then some (.ŉ { cls:=.type "list",data:=.seq vs.toArray } (.lst (ns.map V.int))) else none) (λ b=>?_) (.inl (.inr ⟨{ cls:=.type "list",data:=.seq vs.toArray },if_pos rfl⟩)) (λ b u z=>?_) (λ b z=>?_) λ _=>hk
  ·by_cases hb:b=a
   ·exact .inr ⟨_,_,if_pos hb⟩
   ·exact .inl (if_neg hb)
  ·by_cases hb:b=a
   ·have z':=(if_pos hb).symm.trans z;cases z';subst hb;exact⟨ha,by rw [List.length_map];exact hl,vs,_,rv,ha⟩
   ·have z':=(if_neg hb).symm.trans z;cases z'
  ·by_cases hb:b=a
   ·exact hb
   ·exact absurd (if_neg hb) z
theorem Jx {l:PySem.W.OpenLaw}{n k:Nat}{q:Program}{loose:List Str}{XP:(Str->Option Value)->Heap->Prop}{YP:World->Heap->Prop}{d:DefRec}{K:Params->PySem.W.Frag}{CX:World->kc}{sp:World->Sp}{x:Str}
  (hn:l.most=some n)(Oc:n<=sizeLine)(MK:d.params.defaults=[])(hr:Ä k callerA)
  (hY:∀(w:World)(h:Heap),YP w h->(K w.params).In h)
  (F:∀(w:World)(mg:Str->Option Value)(fa:Addr)(h:Heap),(K w.params).In h->h.Ns mainGlobals mg->mg d.name=some (.ref fa) ->
   ∃ fd:FuncData,(∀(s:Shared)(u:Value),BindsTo s fd ⟨[u],[]⟩ [(x,u)]) /\
    ∀ base:Heap,(K w.params).In base->base.Ns mainGlobals mg->Â l.prog w (K w.params) mg base (CX w) k fa fd [x] (sp w))
  (Ÿ:∀(w:World)(H:Hp)(a:Addr)(ns:List Int),ns.length<=n->zl H->Ã (K w.params) H a (ns.map V.int)->H sysModules=none->sp w [.ref a] H (λ v _=>v=.bl true) λ _ _ _=>False)
  (Pl:∀(w:World)(H:Hp)(s:Shared)(e:Value)(s':Shared),CX w [] H s (λ _ _ _=>False) e s'->False) :
  PySem.W.WalkO q loose XP YP l.row.toRowW d [] (λ f vs=>PySem.call f vs):=by
 refine Att.Ľ hn MK λ w ã Ç mg mb fa o pm cd doc a vs ns G Y ho hd ŷ ML LH hints hlen hg low=>?_;have KX:=hY w _ Y;obtain⟨fd,hb,hF⟩:=F w mg fa _ KX G.T.g ML;exact qc KX G.T.g G.T.b G.T.builtins G.T.nolimit hg LH hints (Nat.le_trans hlen Oc) hr low hF hb (λ H hO hS hz=>Ÿ w H a ns hlen hO hS hz) λ H e s'=>Pl w H Ç e s'
end L2
namespace My
open PySem L2
def bX (i:Nat):Stmt:=PySem.Challenge.pw_trialdeal_k16_scores_of_all_measures.main.body.getD i (.Pass ⟨0,0,0,0⟩)
end My
namespace My
open PySem
section
variable {prog:Program}{w:World}{A:Around}{h:Heap}{g:Array GenState}{d:Drawn}{tk:Nat}{os:OsState}{C N e t0:Addr}
variable {nm q:Str}{bs bm LI:List Value}{Kj ab:Bool}{sn:List Str}{sub:List Value}{col:Option Bool}{dd:Option Addr}
variable {k0 k1 k2 k3 k5:Option Value}{B newId ġ:String}
abbrev eS (C t:Addr):Obj:={ cls:=.ref C,data:=.fields #[.ref t,.none,.none,.none,.bool false,.none] }
theorem xZ {R:Result->Shared->Prop}{v:Value}(F:ExcBaseFacts B newId ġ LI)(T:OwnTail h LI bm)
  (hC:h.get? C=some (excClassObj nm q C N bs bm Kj sn sub ab col dd k0 k1 k2 k3 k5 newId))(he:h.get? e=some (eS C t0))
  (hR:∀ h',h'.get? e=some (eS C h.objs.size)->(∀ b o,b≠e->h.get? b=some o->h'.get? b=some o)->R (.ok (.ret .none)) ⟨h',g,d,tk,os⟩) :
  codeAny (model prog w) A (.call (.builtin ġ) ⟨[.ref e,v],[]⟩) R ⟨h,g,d,tk,os⟩:=by
 refine codeAny_call_builtin F.init.plain F.initEntry (wpAny_check_init_subT F T hC he rfl ?_)
 wp_walk
 refine hR _ ?_ λ b o hb eb=>?_
 ·exact Heap.get?_update_self _ (Heap.get?_push_of_some _ he) rfl
 ·exact(Heap.get?_update_ne _ _ _ _ hb).trans (Heap.get?_push_of_some _ eb)
end
end My
namespace My
open PySem PySem.W Builtin Builtin.ObjectAttr
section
variable {prog:Program}{w:World}{A:Around}{s:Shared}{K:Frag}{C x:Addr}
theorem uB {R:Result->Shared->Prop}{ox:Obj}{od:Option Obj}{name:Str}{tk:Tok}{v:Value}{cd:ClassData}(X:K.In s.heap)(I:InstAt s.heap x ox C od)
  (hc:clsIn K C=some cd)(hp:refuseLoop (.ref x) "__setattr__" cd.mro=pure ())(Jy:mroIn K C (.type "object")=some true)(ht:takerIn K C name=some none)
  (h:∀ b,wpAny (model prog w) A.in1 (storeInOwnDict (.ref x) (.ref C) (.str name tk) name v b)
   (λ fin s'=>match fin with | .done f=>R (.ok f) s' | .again c'=>c'.quiet=true/\codeAny (model prog w) A c' R s') (λ e s'=>R (.error e) s') s) :
  codeAny (model prog w) A (.call (.builtin "object.__setattr__") ⟨[.ref x,.str name tk,v],[]⟩) R s:=by
 have SF:=PySem.F.store_object;have sub:Looks (model prog w) s.heap (isInstance (.ref x) (.type "object")) true:=I.type.andThen (looks_mroIn X Jy);refine codeAny_call_builtin SF.slot.plain SF.entry (@check_slot (model prog w) _ _ s "object.__setattr__" "object" "__setattr__" (.ref x) [.str name tk,v] [] _ SF.kind SF.split sub (SF.args _ _ _) ?_);obtain⟨attr,ha,hr⟩:=Option.bind_eq_some_iff.mp ht;have hm:Looks (model prog w) s.heap (mroOf (.ref C)) cd.mro:=(looks_clsIn X hc).andThen .now;have L3:Looks (model prog w) s.heap (storeTaker? attr) none:=by
  cases attr with
  | none=>exact .now
  | some a =>
   obtain⟨b,hb,e⟩:=Option.map_eq_some_iff.mp hr;refine(looks_takesIn X hb).andThen ?_;cases b
   ·exact .now
   ·cases e
 rw [osa_eq,refuse_eq];refine wpAny_bind (wpAny_bind (I.type.here (wpAny_bind (hm.here ?_))));rw [hp];refine wpAny_pure (wpAny_bind (I.type.here (wpAny_bind ((looks_findIn X ha).here (wpAny_bind (L3.here ?_))))));exact h _
variable {E:Value->Shared->Prop}
theorem A8 {fs:Array Value}{sl:Array (Option Value)}{name:Str}{v:Value}{cd:ClassData}{Q:Unit->Shared->Prop}(X:K.In s.heap)(hx:s.heap.get? x=some ⟨.ref C,none,.fields fs,sl⟩)
  (hs:findIn K (.ref C) "__setattr__" = some (some (.builtin "object.__setattr__")))(hc:clsIn K C=some cd)(hd:cd.hasDict=true)
  (hp:refuseLoop (.ref x) "__setattr__" cd.mro=pure ())(Jy:mroIn K C (.type "object")=some true)(ht:takerIn K C name=some none)
  (h:∀ h' tk,h'.get? x=some ⟨.ref C,some s.heap.objs.size,.fields fs,sl⟩->h'.Ns1 s.heap.objs.size (λ y=>if y=name then some v else none) ->
   (∀ b o,b≠x->s.heap.get? b=some o->h'.get? b=some o)->Q () { s with heap:=h',toks:=tk }):wpAny (model prog w) A (setAttr (.ref x) name v) Q E s:=by
 have J:InstAt s.heap x ⟨.ref C,none,.fields fs,sl⟩ C none:=⟨hx,rfl,rfl,True.intro⟩;refine set_plain X J hs (uB (s:={ s with toks:=s.toks+1 }) X J hc hp Jy ht λ b=>?_)
 refine wpAny_bind (wpAny_pure (wpAny_bind (wpAny_bind (wpAny_loadPart hx (wpAny_bind (Looks.here (s:={ s with toks:=s.toks+1 }) (looks_clsIn X hc) ?_))))))
 rw [hd];have ŗ:(s.heap.push { cls:=.type "dict",data:=.dict #[] }).get? x=some ⟨.ref C,none,.fields fs,sl⟩:=Heap.get?_push_of_some _ hx;have Sr:x≠s.heap.objs.size:=Nat.ne_of_lt (Heap.lt_size hx);refine wpAny_bind (wpAny_alloc' ?_);refine wpAny_bind (wpAny_update' ŗ ?_);refine wpAny_pure ?_;generalize eU:((s.heap.push { cls:=.type "dict",data:=.dict #[] }).update x λ o=>{ cls:=o.cls,dict:=some s.heap.objs.size,data:=o.data,slots:=o.slots }:Heap)=hU;have gd:hU.get? s.heap.objs.size=some { cls:=.type "dict",data:=.dict #[] }:=by
  rw [<- eU];exact(Heap.get?_update_ne _ _ _ _ Sr.symm).trans (Heap.get?_push_at rfl rfl)
 have gx:hU.get? x=some ⟨.ref C,some s.heap.objs.size,.fields fs,sl⟩:=by
  rw [<- eU];exact Heap.get?_update_self _ ŗ rfl
 have nd:hU.Ns s.heap.objs.size (λ _=>none):=⟨_,#[],_,gd,rfl,λ e he=>absurd he (by simp),λ _=>rfl⟩
 show wpAny _ _ (storeInDict s.heap.objs.size (.str name _) name v) _ _ _;unfold storeInDict newKeyGuard;refine wpAny_bind (wpAny_pure (wpAny_bind (wpAny_nsSet1 (Heap.Ns1.of_empty nd) λ h' KP Ű=>?_)));obtain⟨oD,UB,UC,LB,MB,Ju⟩:=KP.count (Within.cons name v Within.nil);refine wpAny_bind (wpAny_lookBehind LB (by
  rw [MB];exact pastItsLine_dict (Nat.le_trans Ju (by rw [List.length_cons,List.length_nil,sizeLine_eq];omega))) ?_)
 refine wpAny_pure ?_;refine h h' _ ((Ű.2 x Sr).trans gx) KP λ b o hb e=>?_;refine(Ű.2 b (Nat.ne_of_lt (Heap.lt_size e))).trans ?_;rw [<- eU];exact(Heap.get?_update_ne _ _ _ _ hb).trans (Heap.get?_push_of_some _ e)
variable {dx:Addr}
abbrev oB:String:="BaseException.__getattribute__"
theorem vE {R:Result->Shared->Prop}{ox:Obj}{od:Option Obj}{name:Str}{tk:Tok}{v:Value}(X:K.In s.heap)(I:InstAt s.heap x ox C od)
  (Jy:mroIn K C (.type "BaseException")=some true)(hf:findObj K C od name=some (.value v))(h:R (.ok (.ret v)) s) :
  codeAny (model prog w) A (.call (.builtin oB) ⟨[.ref x,.str name tk],[]⟩) R s:=by
 have sub:Looks (model prog w) s.heap (isInstance (.ref x) (.type "BaseException")) true:=I.type.andThen (looks_mroIn X Jy);have L1:=looks_find (M:=model prog w) X I hf;refine codeAny_call_builtin PySem.F.excAttr_ValueError.ga.plain PySem.F.entry_bexc_ga (@check_slot (model prog w) _ _ s oB "BaseException" "__getattribute__" (.ref x) [.str name tk] [] _ (by decide +kernel) (by decide +kernel) sub (PySem.F.args_bexc_ga _ _) ?_)
 refine wpAny_bind (wpAny_pure (wpAny_bind (wpAny_pure (wpAny_bind (I.type.here (wpAny_bind (L1.here ?_)))))));exact wpAny_pure h
theorem Bd {expr:Bool}{ox:Obj}{od:Option Obj}{name:Str}{v:Value}{Q:Value->Shared->Prop}(X:K.In s.heap)(I:InstAt s.heap x ox C od)
  (UM:findIn K (.ref C) "__getattribute__" = some (some (.builtin oB)))(hk:findIn K (.ref C) "__getattr__" = some none)
  (Jy:mroIn K C (.type "BaseException")=some true)(hf:findObj K C od name=some (.value v))(KS:handedIn v=true)(h:Q v { s with toks:=s.toks+1 }) :
  wpAny (model prog w) A (getAttr (.ref x) name expr) Q E s:=by
 have L0:=I.type (M:=model prog w);have L1:=looks_findIn (M:=model prog w) X UM;have L2:=looks_findIn (M:=model prog w) X hk;have f3:=PySem.F.excAttr_ValueError.ga.bind (.ref x);unfold getAttr getAttrBy;refine wpAny_bind (wpAny_mkText (wpAny_holding (wpAny_bind (Looks.here (s:={ s with toks:=s.toks+1 }) L0 (wpAny_bind (Looks.here (s:={ s with toks:=s.toks+1 }) L1 ?_))))))
 have ŗ:(onTheHeap (Value.ref C)&&Value.builtin oB==Value.builtin "object.__getattribute__")=false:=by
  rw [show(Value.builtin oB==Value.builtin "object.__getattribute__")=false from by decide +kernel]
  rfl
 show wpAny _ _ (if(onTheHeap (Value.ref C)&&Value.builtin oB==Value.builtin "object.__getattribute__")=true then _ else _) _ _ _
 rw [if_neg (by rw [ŗ];decide)]
 unfold getAttrByItsOwn;refine wpAny_bind ?_;show wpAny _ _ (typeLookup (.ref C) "__getattr__") _ _ _;refine Looks.here (s:={ s with toks:=s.toks+1 }) L2 ?_
 have UN:(expr&&onTheHeap (Value.builtin oB))=false:=by cases expr <;> rfl
 refine wpAny_bind (wpAny_attempt (wpAny_holding ?_));unfold callGetattribute;rw [if_neg (by rw [UN];decide)]
 unfold boundAndCalled;rw [f3];refine wpAny_bind (wpAny_pure ?_);refine wpAny_call (vE (s:={ s with toks:=s.toks+1 }) X I Jy hf ?_)
 show wpAny _ _ (handedOut v) _ _ _;rw [handedOut_of KS];exact wpAny_pure h
end
end My
namespace My
open PySem PySem.W
section
variable {prog:Program}{w:World}{A:Around}{E:Value->Shared->Prop}{h:Heap}{g:Array GenState}
variable {d:Drawn}{t:Nat}{os:OsState}{nm q:Str}{C N:Addr}{bs bm LI:List Value}{Kj ab:Bool}
variable {sn:List Str}{sub:List Value}{col:Option Bool}{dd:Option Addr}
variable {k0 k1 k2 k3 k5:Option Value}{B newId ġ:String}{K:Frag}
abbrev il (vs:List Value):Obj:={ cls:=.type "tuple",data:=.seq vs.toArray }
theorem zM (X:K.In h)(F:ExcBaseFacts B newId ġ LI)(T:OwnTail h LI bm){rest:List Value}
  {fI:Addr}{Q:Fin->Shared->Prop}
  (hC:h.get? C=some (excClassObj nm q C N bs bm Kj sn sub ab col dd k0 k1 k2 k3 k5 newId))
  (hi:findIn K (.ref C) "__init__" = some (some (.ref fI)))(Po:typeIn K (.ref fI)=some (.type "function"))
  (hq:wpAny (model prog w) A (call (.ref fI) (.ref (h.objs.size+1)::rest))
   (λ r s'=>r=.none/\Q (.done (.ret (.ref (h.objs.size+1)))) s') E ⟨(h.push (il rest)).push (eS C h.objs.size),g,d,t,os⟩)
  (Jz:rest.length<=sizeLine) :
  wpAny (model prog w) A (Builtin.«type.__call__» ⟨.ref C::rest,[]⟩) Q E ⟨h,g,d,t,os⟩:=by
 repeat (first
  | with_reducible refine wpAny_loadPart_at hC ?_
  | with_reducible refine wpAny_madeBy_exc hC ?_
  | wp_step)
 refine codeAny_call_builtin_code (Code.quiet_builtin _ F.quiet) (wpAny_check_new_subT F T hC ?_);refine codeAny_exc_new_subT F T hC ?_ Jz;show wpAny _ _ _ _ _ _;have up:∀ b o,h.get? b=some o->((h.push (il rest)).push (eS C h.objs.size)).get? b=some o :=
  λ b o e=>Heap.get?_push_of_some _ (Heap.get?_push_of_some _ e)
 have UO:=up _ _ hC;have X1:K.In ((h.push (il rest)).push (eS C h.objs.size)):=X.keeps up;have UP:((h.push (il rest)).push (eS C h.objs.size)).get? (h.objs.size+1)=some (eS C h.objs.size):=by heap_get
 have UQ:(Value.ref C::bm).contains (.ref C)=true:=by simp
 unfold isInstance
 repeat (first
  | with_reducible refine wpAny_loadPart_at UP ?_
  | (with_reducible refine wpAny_isSubtype_exc UO ?_;rw [UQ])
  | wp_step)
 show wpAny _ _ (typeLookup (.ref C) _) _ _ _;refine Looks.here (s:=⟨(h.push (il rest)).push (eS C h.objs.size),g,d,t,os⟩) (looks_findIn X1 hi) ?_;refine wpAny_holding (wpAny_bind ?_);unfold bindSpecial;refine wpAny_bind (Looks.here (s:=⟨(h.push (il rest)).push (eS C h.objs.size),g,d,t,os⟩) (looks_typeIn X1 Po) ?_);rw [if_pos (by decide)]
 refine wpAny_pure (wpAny_bind (wpAny_mono hq (λ r s' hr=>?_) λ _ _ x=>x));obtain⟨rfl,hQ⟩:=hr
 wp_walk
 exact hQ
theorem B2 (X:K.In h)(F:ExcBaseFacts B newId ġ LI)(T:OwnTail h LI bm){rest:List Value}
  {fI:Addr}{Q:Value->Shared->Prop}
  (hC:h.get? C=some (excClassObj nm q C N bs bm Kj sn sub ab col dd k0 k1 k2 k3 k5 newId))
  (hi:findIn K (.ref C) "__init__" = some (some (.ref fI)))(Po:typeIn K (.ref fI)=some (.type "function"))
  (hq:wpAny (model prog w) (A.under (.builtin "type.__call__" ⟨.ref C::rest,[]⟩))
   (call (.ref fI) (.ref (h.objs.size+1)::rest)) (λ r s'=>r=.none/\Q (.ref (h.objs.size+1)) s') E ⟨(h.push (il rest)).push (eS C h.objs.size),g,d,t,os⟩)
  (Jz:rest.length<=sizeLine):wpAny (model prog w) A (call (.ref C) rest) Q E ⟨h,g,d,t,os⟩:=by
 have f1:=tc_lookup;have f2:=tc_bind (.ref C);have hT:Shared.TypeIs ⟨h,g,d,t,os⟩ (.ref C) "type" :=⟨_,hC,rfl⟩;refine wpAny_call (codeAny_of_tree ?_);show wpAny _ _ (callAny (.ref C) _) _ _ _
 repeat (any_goals (first
  | assumption
  | with_reducible refine wpAny_loadPart_at hC ?_
  | wp_step))
 refine⟨rfl,?_⟩;refine codeAny_call_builtin_at (Code.quiet_builtin _ (by decide +kernel)) entry_typeCall (wpAny_check_type_call_sub hC ?_)
 exact zM X F T hC hi Po hq Jz
variable {s:Shared}{x:Addr}{ox:Obj}{od:Option Obj}
theorem q9 {a g:Value}{name:Str}(hc:(clsIn K C).isSome=true)(ha:findIn K (.ref C) name=some (some a))(hg:specialIn K a "__get__" = some (some g))(ht:takesIn K a=some true):findObj K C od name=some (.bind g a):=by
 obtain⟨cd,hc⟩:=Option.isSome_iff_exists.mp hc;unfold findObj;rw [hc,Option.bind_some,ha,Option.bind_some];simp [hg,ht]
theorem uQ {R:Result->Shared->Prop}{name:Str}{tk:Tok}{a g:Value}(X:K.In s.heap)(I:InstAt s.heap x ox C od)
  (Jy:mroIn K C (.type "BaseException")=some true)(hf:findObj K C od name=some (.bind g a))
  (h:wpAny (model prog w) A.in1 (call g [a,.ref x,.ref C]) (λ v s'=>R (.ok (.ret v)) s') (λ e s'=>R (.error e) s') s) :
  codeAny (model prog w) A (.call (.builtin oB) ⟨[.ref x,.str name tk],[]⟩) R s:=by
 have sub:Looks (model prog w) s.heap (isInstance (.ref x) (.type "BaseException")) true:=I.type.andThen (looks_mroIn X Jy);have L1:=looks_find (M:=model prog w) X I hf;refine codeAny_call_builtin PySem.F.excAttr_ValueError.ga.plain PySem.F.entry_bexc_ga (@check_slot (model prog w) _ _ s oB "BaseException" "__getattribute__" (.ref x) [.str name tk] [] _ (by decide +kernel) (by decide +kernel) sub (PySem.F.args_bexc_ga _ _) ?_)
 refine wpAny_bind (wpAny_pure (wpAny_bind (wpAny_pure (wpAny_bind (I.type.here (wpAny_bind (L1.here ?_)))))));show wpAny _ _ (holding [a] (call g [a,.ref x,.ref C])>>=ret) _ _ _;exact wpAny_bind (wpAny_holding (wpAny_mono h (λ v s' z=>wpAny_pure z) λ _ _ z=>z))
structure mE (K:Frag)(C:Addr):Prop where
 cls:(clsIn K C).isSome=true
 ga:findIn K (.ref C) "__getattribute__" = some (some (.builtin oB))
 hk:findIn K (.ref C) "__getattr__" = some none
 mb:mroIn K C (.type "BaseException")=some true
 mo:mroIn K C (.type "object")=some true
 ca:findIn K (.ref C) "__class__" = some (some (.builtin "object.__class__"))
theorem rW {Q:Option Value->Shared->Prop}(T:mE K C)(hn:specialIn K (.builtin "object.__class__") "__get__" = some (some (.builtin "getset_descriptor.__get__")))(Ŗ:takesIn K (.builtin "object.__class__")=some true)
  (X:K.In s.heap)(I:InstAt s.heap x ox C od)(h:Q (some (.ref C)) { s with toks:=s.toks+1 }):wpAny (model prog w) A (getAttr? (.ref x) "__class__") Q E s:=by
 have hf:findObj K C od "__class__" = some (.bind (.builtin "getset_descriptor.__get__") (.builtin "object.__class__")):=q9 T.cls T.ca hn Ŗ;have L0:=I.type (M:=model prog w);have L1:=looks_findIn (M:=model prog w) X T.ga;have L2:=looks_findIn (M:=model prog w) X T.hk;have f3:=PySem.F.excAttr_ValueError.ga.bind (.ref x);unfold getAttr? getAttrBy? getAttrBy;refine wpAny_bind (wpAny_mkText (wpAny_bind (wpAny_attempt (wpAny_holding (wpAny_bind (Looks.here (s:={ s with toks:=s.toks+1 }) L0 (wpAny_bind (Looks.here (s:={ s with toks:=s.toks+1 }) L1 ?_))))))))
 have ŗ:(onTheHeap (Value.ref C)&&Value.builtin oB==Value.builtin "object.__getattribute__")=false:=by
  rw [show(Value.builtin oB==Value.builtin "object.__getattribute__")=false from by decide +kernel]
  rfl
 show wpAny _ _ (if(onTheHeap (Value.ref C)&&Value.builtin oB==Value.builtin "object.__getattribute__")=true then _ else _) _ _ _
 rw [if_neg (by rw [ŗ];decide)]
 unfold getAttrByItsOwn;refine wpAny_bind ?_;show wpAny _ _ (typeLookup (.ref C) "__getattr__") _ _ _;refine Looks.here (s:={ s with toks:=s.toks+1 }) L2 ?_
 refine wpAny_bind (wpAny_attempt (wpAny_holding ?_));unfold callGetattribute;rw [if_neg (by decide)]
 unfold boundAndCalled;rw [f3];refine wpAny_bind (wpAny_pure ?_);refine wpAny_call (uQ (s:={ s with toks:=s.toks+1 }) X I T.mb hf ?_)
 refine wpAny_call (class_get (s:={ s with toks:=s.toks+1 }) (ox:=ox) (od:=od) X I T.mo ?_)
 show wpAny _ _ (handedOut (.ref C)) _ _ _;rw [handedOut_of rfl];exact wpAny_pure (wpAny_pure h)
theorem rL (T:mE K C)(hn:specialIn K (.builtin "object.__class__") "__get__" = some (some (.builtin "getset_descriptor.__get__")))(Ŗ:takesIn K (.builtin "object.__class__")=some true) :
  KitX K (.ref x) (.ref C) (λ h=>∃ ox od,InstAt h x ox C od) where
 ty:=λ _ _ _ ⟨_,_,I⟩=>I.type
 it:=λ _ _ X _=>by
  obtain⟨UR,Ju⟩:=Option.isSome_iff_exists.mp T.cls;unfold clsIn at Ju;split at Ju
  ·rename_i c' d' US Pa ho
   intro A' Q' E' s' k q;unfold isType loadHead;exact wpAny_bind (wpAny_loadPart (k _ _ (X _ _ ho)) (wpAny_pure q))
  ·cases Ju
 ne:=λ h tp dd its n sl X ź=>by
  obtain⟨UR,Ju⟩:=Option.isSome_iff_exists.mp T.cls;refine Bool.eq_false_iff.mpr λ q=>?_;have e:C=tp:=Value.ref.inj (beq_iff_eq.mp q);subst e;unfold clsIn at Ju;split at Ju
  ·rename_i c' d' US Pa ho
   have z:=(X _ _ ho).symm.trans ź;cases z
  ·cases Ju
 ca:=λ X ⟨_,_,I⟩ k=>rW T hn Ŗ X I k
end
end My
namespace My
open PySem PySem.W L2
abbrev pR:List Value:=[.type "ValueError",.type "Exception",.type "BaseException",.type "object"]
abbrev jR (C:Addr)(d:Option Addr)(t:Addr):Obj:={ cls:=.ref C,dict:=d,data:=.fields #[.ref t,.none,.none,.none,.bool false,.none] }
def eJ (x C:Addr)(d:Option Addr):HO:=.ext λ h=>∃ t,h.get? x=some (jR C d t)
theorem kE {P:Program}{w:World}{H:Hp}{h:Heap}{x C:Addr}{d:Option Addr}{t:Addr}(e:h.get? x=some (jR C d t)):Å P w H h x (eJ x C d) :=
 ⟨⟨t,e⟩,⟨_,e⟩,λ _ _ ⟨t',e'⟩ k=>⟨t',k _ e'⟩⟩
theorem gU {P:Program}{w:World}{H:Hp}{h:Heap}{x C:Addr}{d:Option Addr}(ok:õ P w H h)(e:H x=some (eJ x C d)):∃ t,h.get? x=some (jR C d t):=(ok x _ e).1
theorem n9 {H:Hp}{a:Addr}{o:HO}(h:H a=some o):ae H a o=H:=by
 funext b
 unfold ae;split
 ·rename_i e;rw [e,h]
 ·rfl
structure Ò (K:Frag)(D:Addr):Prop where
 cls:∃ nm q N bs sn sub ab col dd k0 k1 k2 k3 k5,K.lookup D=some (excClassObj nm q D N bs pR true sn sub ab col dd k0 k1 k2 k3 k5 "ValueError.__new__") /\
    ∃ o es ep,K.lookup N=some o/\o.data=.dict es ep/\StrKeys es/\nsFind es "__init__" = none
 ga:specialIn K (.ref D) "__getattribute__" = some (some (.builtin "type.__getattribute__"))
 reads:readsIn K D (.type "type")=true
 MN:findCls K (.ref D) (.type "type") "__init__" = some (.val (.builtin "ValueError.__init__"))
 fi:findIn K (.ref D) "__init__" = some (some (.builtin "ValueError.__init__"))
 kp:keepIn K (.ref D)=true
 it:mE K D
theorem Ò.tail {K:Frag}{D:Addr}(B:Ò K D){h:Heap}(X:K.In h):OwnTail h pR (.ref D::pR):=by
 obtain⟨nm,q,N,bs,sn,sub,ab,col,dd,k0,k1,k2,k3,k5,l,o,es,ep,lN,hd,hs,hn⟩:=B.cls;exact .own (X _ _ l) ⟨o,es,ep,X _ _ lN,hd,hs,λ _=>rfl⟩ hn .base
structure Ø (K:Frag)(D:Addr)(nm:Str)(C f:Addr):Prop where
 cls:∃ q N bs sn sub ab col dd k0 k1 k2 k3 k5,K.lookup C=some (excClassObj nm q C N bs (.ref D::pR) true sn sub ab col dd k0 k1 k2 k3 k5 "ValueError.__new__")
 init:findIn K (.ref C) "__init__" = some (some (.ref f))
 fn:typeIn K (.ref f)=some (.type "function")
 kp:keepIn K (.ref C)=true
 sa:findIn K (.ref C) "__setattr__" = some (some (.builtin "object.__setattr__"))
 it:mE K C
theorem Ø.clsIn {K:Frag}{D C f:Addr}{nm:Str}(T:Ø K D nm C f):∃ cd,PySem.W.clsIn K C=some cd/\cd.hasDict=true/\cd.mro=.ref C :: .ref D::pR:=by
 obtain⟨q,N,bs,sn,sub,ab,col,dd,k0,k1,k2,k3,k5,l⟩:=T.cls;unfold PySem.W.clsIn;rw [l];exact⟨_,rfl,rfl,rfl⟩
theorem Ø.refuse {K:Frag}{D C f:Addr}{nm:Str}(T:Ø K D nm C f)(x:Addr):∃ cd,PySem.W.clsIn K C=some cd/\cd.hasDict=true/\refuseLoop (.ref x) "__setattr__" cd.mro=pure ():=by
 obtain⟨cd,h1,h2,h3⟩:=T.clsIn;refine⟨cd,h1,h2,?_⟩;rw [h3,refuseLoop_ref,refuseLoop_ref];exact PySem.F.store_ValueError.passes _
section
variable {X:Cx}{pins:List (Addr × Obj)}{σ:St}{H:Hp}{s:Shared}
def mI (C:Addr)(fld:Str):Sp:=λ vs H Q _=>∃ x v,vs=[.ref x,v]/\H x=some (eJ x C none)/\∀ dx,H dx=none->dx≠x->Q .Æ (ae (ae H dx (.xd [(fld,v)])) x (eJ x C (some dx)))
def Eh (C:Addr)(fld:Str)(te:TE):TE:=λ σ H Q=>te σ H λ v H1=>∀ x dx,H1 x=none->H1 dx=none->dx≠x->Q (.ref x) (ae (ae H1 dx (.xd [(fld,v)])) x (eJ x C (some dx)))
theorem Gq {H:Hp}{x dx:Addr}{a b c:HO}(n:dx≠x):ae (ae (ae H x a) dx b) x c=ae (ae H dx b) x c:=by
 funext z
 unfold ae;by_cases h1:z=x
 ·rw [if_pos h1,if_pos h1]
 ·rw [if_neg h1,if_neg h1];by_cases h2:z=dx
  ·rw [if_pos h2,if_neg h1]
  ·rw [if_neg h2,if_neg h1]
theorem rY {D C f:Addr}{nm fld:Str}{k:Nat}{fd:FuncData}{ps:List Str}{u:Value}{v:V}{Q:VK}(B:Ò X.K D)(T:Ø X.K D nm C f)(F:Â X.prog X.w X.K X.mg X.base av k f fd ps (mI C fld))(hr:Ä (k+1) X.A)(hb:Binds X.K fd ps [])
  (I:Inv X pins σ H s)(r:RelV v u)(h:∀ x dx,H x=none->H dx=none->dx≠x->Q (.ref x) (ae (ae H dx (.xd [(fld,v)])) x (eJ x C (some dx)))) :
  wpAny (model X.prog X.w) X.A (call (.ref C) [u]) (EP X pins σ Q) X.xe s:=by
 obtain⟨hp,g,dr,tk,os⟩:=s;obtain⟨q,N,bs,sn,sub,ab,col,dd,k0,k1,k2,k3,k5,l⟩:=T.cls;refine B2 (C:=C) I.Ý PySem.F.excBase_ValueError (B.tail I.Ý) (I.Ý _ _ l) T.init T.fn ?_ (by rw [List.length_cons,List.length_nil,sizeLine_eq];omega)
 have f0:H hp.objs.size=none:=I.fresh;have I1:Inv X pins σ H ⟨hp.push (il [u]),g,dr,tk,os⟩:=I.kept (h':=hp.push (il [u])) (t':=tk) λ b o e=>Heap.get?_push_of_some _ e;have sz:(hp.push (il [u])).objs.size=hp.objs.size+1:=Heap.size_push _ _;have fx:H (hp.objs.size+1)=none:=by rw [<- sz];exact I1.fresh
 have I2:Inv X pins σ (ae H (hp.objs.size+1) (eJ (hp.objs.size+1) C none)) ⟨(hp.push (il [u])).push (eS C hp.objs.size),g,dr,tk,os⟩ :=
  I1.laid (h':=(hp.push (il [u])).push (eS C hp.objs.size)) (t':=tk) (a:=hp.objs.size+1) (λ b o e=>Heap.get?_push_of_some _ e) (Nat.le_of_eq sz)
   (kE (t:=hp.objs.size) (Heap.get?_push_at sz.symm rfl))
 generalize (⟨(hp.push (il [u])).push (eS C hp.objs.size),g,dr,tk,os⟩:Shared)=s2 at I2 ⊢;generalize hp.objs.size+1=x at fx I2 ⊢;have r2:Vals [V.ref x,v] [Value.ref x,u]:=.cons rfl (.cons r .nil);have Ÿ:mI C fld [V.ref x,v] (ae H x (eJ x C none)) (λ y H2=>y=.Æ/\Q (.ref x) H2) E0 :=
  ⟨x,v,rfl,aL,λ dx hd nd=>⟨rfl,by
   rw [Gq nd];rw [ag nd] at hd;exact h x dx fx hd nd⟩⟩
 have hl:([Value.ref x,u] ++ []:List Value).length=ps.length:=by
  rw [List.append_nil,<- r2.length];exact F.len _ _ _ _ Ÿ
 have Ss:=hb s2 [Value.ref x,u] I2.Ý hl;rw [List.append_nil] at Ss;refine wpAny_call (codeAny_mono (F.run _ X.stack s2 _ ⟨[Value.ref x,u],[]⟩ [Value.ref x,u] _ _ E0 (hr.make C [u] []) (I2.Ke.make C [u] []) Ss r2 Ÿ) λ r s' Jv=>?_);cases r with
 | error e=>exact False.elim Jv
 | ok fl =>
  cases fl with
  | ret u' =>
   obtain⟨y,H',I3,ry,ey,q3⟩:=I2.after Jv;subst ey;exact⟨ry,V.ref x,H',I3,rfl,q3⟩
  | next=>exact False.elim Jv
  | brk=>exact False.elim Jv
  | cont=>exact False.elim Jv
end
def Aw (h:Heap)(e:Addr)(vs:Array Value):Prop:=vs[1]?=some .none\/∃ T oT ts,vs[1]?=some (.ref T)/\T≠e/\h.get? T=some oT/\oT.data=.fields ts/\ts[3]?=some .none
structure Ģ (fr:List Addr)(e T:Addr)(oe:Obj)(h h':Heap)(r:Value):Prop where
 keep:∀ b o,b≠e->b ∉ fr->h.get? b=some o->h'.get? b=some o
 slot:∀ b o,b≠e->h.get? b=some o->∃ sl,h'.get? b=some { o with slots:=sl }
 new:h.objs.size<=T
 exc:h'.get? e=some (oe.mapFields (λ x=>x.setIfInBounds 1 (.ref T)))
 Oe:∃ oT ts,h'.get? T=some oT/\oT.data=.fields ts/\ts[3]?=some r/\T≠e
theorem jo {vs:Array Value}{i:Nat}{v:Value}(h:vs[i]?=some v):vs.setIfInBounds i v=vs:=by
 obtain⟨hi,e⟩:=Array.getElem?_eq_some_iff.mp h;apply Array.ext
 ·simp
 ·intro j h1 h2;simp only [Array.size_setIfInBounds] at h1;rw [Array.getElem_setIfInBounds h1];split
  ·rename_i z;subst z;exact e.symm
  ·rfl
theorem my {o:Obj}{vs:Array Value}(hd:o.data=.fields vs)(f:Array Value->Array Value):o.mapFields f={ o with data:=.fields (f vs) }:=by
 obtain⟨c,d,dt,sl⟩:=o;have e:dt=.fields vs:=hd;subst e;rfl
theorem lH {M:Model}{A:Around}{E:Value->Shared->Prop}{s:Shared}{c:String}{vs:List Value}{Q:Value->Shared->Prop}(hl:vs.length<=sizeLine+2)
  (q:Q (.ref s.heap.objs.size) { s with heap:=s.heap.push { cls:=.type c,data:=.fields vs.toArray } }):wpAny M A (newFields c vs) Q E s:=by
 unfold newFields newObj;refine wpAny_ite_false (decide_eq_false (by rw [List.size_toArray];omega)) ?_
 unfold newObjAsIs;exact wpAny_bind (wpAny_alloc (wpAny_pure q))
theorem qU {pl:List Value}(h:IsPlace pl):pl.length<=6:=by
 rcases h with rfl | ⟨a,b,c,d,c9,b10,_,rfl⟩
 ·decide
 ·exact Nat.le_refl _
section
variable {M:Model}{A:Around}{E:Value->Shared->Prop}{s:Shared}{base:Heap}{env:Env}{outer:List Env}{L e:Addr}{oe:Obj}{vs:Array Value}{Q:Unit->Shared->Prop}
theorem p7 {head:Value}{hn:Bool}(hA:A.frames=some (env::outer))(hF:s.heap.FunFrames base (env::outer))(hL:env.frame=some L)(he:s.heap.get? e=some oe)(hd:oe.data=.fields vs)(h1:1<vs.size)
  (q:∀ h' T,Ģ (jN (env::outer)) e T oe s.heap h' (rawInt ↑L)->Q () { s with heap:=h' }) :
  wpAny M A (do
   let a <- frameOf env
   let pl <- entryPlaceOf L hn
   let b <- EntryCells.newEntry head a .none (rawInt ↑L) .none pl
   setField (.ref e) 1 b) Q E s:=by
 have Of:e ∉ jN (env::outer):=λ z=>by
  obtain⟨_,o,ho,hn⟩:=hF.mem z;rw [he] at ho;cases ho;exact hn vs hd
 refine wpAny_bind (wpAny_frameOf_fun hA hF hL λ h1' so=>?_);refine wpAny_bind (wpAny_entryPlaceOf λ pl ó=>?_);refine wpAny_bind ?_;unfold EntryCells.newEntry;refine lH ?_ ?_
 ·have:=qU ó;have b:100<=sizeLine:=by decide
  rw [List.length_append];split
  ·rw [List.length_replicate];show 5+6<=_;omega
  ·show 5+pl.length<=_;omega
 have e1:h1'.get? e=some oe:=by rw [so.2.1 e Of];exact he
 have lt:=Heap.lt_size e1;generalize Su:({ cls:=.type "traceback",data:=.fields ([head,Value.ref L,.none,rawInt ↑L,.none]++if pl.isEmpty=true then List.replicate 6 Value.none else pl).toArray }:Obj)=ob
 have e2:(h1'.push ob).get? e=some oe:=Heap.get?_push_of_some _ e1;refine wpAny_setField e2 hd h1 ?_;refine q _ h1'.objs.size ⟨λ b o nb nf hb=>?_,λ b o nb hb=>?_,Nat.le_of_eq so.1.symm,?_,?_⟩
 ·rw [Heap.get?_update_ne _ _ _ _ nb];exact Heap.get?_push_of_some _ (by rw [so.2.1 b nf];exact hb)
 ·obtain⟨sl,z⟩:=so.2.2 b o hb;exact⟨sl,by rw [Heap.get?_update_ne _ _ _ _ nb];exact Heap.get?_push_of_some _ z⟩
 ·exact Heap.get?_update_self _ e2 (by rw [my hd];rfl)
 ·have nT:h1'.objs.size≠e:=Ne.symm (Nat.ne_of_lt lt);refine⟨ob,_,?_,by rw [<- Su],?_,nT⟩
  ·rw [Heap.get?_update_ne _ _ _ _ nT];exact Heap.get?_push_at rfl (by rw [<- Su];rfl)
  ·rfl
theorem ju (hA:A.frames=some (env::outer))(hF:s.heap.FunFrames base (env::outer))(hL:env.frame=some L)(he:s.heap.get? e=some oe)(hd:oe.data=.fields vs)(hv:Aw s.heap e vs)
  (q:∀ h' T,Ģ (jN (env::outer)) e T oe s.heap h' (rawInt ↑L)->Q () { s with heap:=h' }):wpAny M A (noteFrame (.ref e) env) Q E s:=by
 unfold noteFrame;rw [hL];rcases hv with hv | ⟨T,oT,ts,hv,nT,hT,Jf,h3⟩
 ·have h1:1<vs.size:=(Array.getElem?_eq_some_iff.mp hv).1;refine wpAny_bind (wpAny_field he hd hv ?_);refine wpAny_ite_false rfl ?_;exact p7 hA hF hL he hd h1 q
 ·have h1:1<vs.size:=(Array.getElem?_eq_some_iff.mp hv).1;have Og:3<ts.size:=(Array.getElem?_eq_some_iff.mp h3).1;refine wpAny_bind (wpAny_field he hd hv ?_);refine wpAny_ite_true rfl ?_;refine wpAny_bind (wpAny_field hT Jf h3 ?_);refine wpAny_ite_false rfl ?_;refine wpAny_bind (wpAny_setField hT Jf Og ?_);have g:∀ b,(s.heap.update T (Obj.mapFields λ x=>x.setIfInBounds 3 Value.none)).get? b=s.heap.get? b:=λ b=>by
   by_cases z:b=T
   ·subst z;rw [Heap.get?_update_self _ hT (by rw [my Jf];rfl),hT,my Jf,jo h3,<- Jf]
   ·exact Heap.get?_update_ne _ _ _ _ z
  have sz:(s.heap.update T (Obj.mapFields λ x=>x.setIfInBounds 3 Value.none)).objs.size=s.heap.objs.size:=Heap.size_update _ _ _;generalize s.heap.update T (Obj.mapFields λ x=>x.setIfInBounds 3 Value.none)=h0 at g sz;have UT:h0.FunFrames base (env::outer):=Heap.FunFrames.of_keeps (λ b o hb _=>⟨o,by rw [g];exact hb,rfl⟩) hF
  refine p7 (s:={ s with heap:=h0 }) hA UT hL (by show h0.get? e=_;rw [g];exact he) hd h1 λ h' T' x=>?_
  exact q h' T' ⟨λ b o nb nf hb=>x.keep b o nb nf (by show h0.get? b=_;rw [g];exact hb),λ b o nb hb=>x.slot b o nb (by show h0.get? b=_;rw [g];exact hb),by rw [<- sz];exact x.new,x.exc,x.Oe⟩
theorem Ģ.JA {fr:List Addr}{T:Addr}{h h':Heap}{r:Value}(x:Ģ fr e T oe h h' r)(hd:oe.data=.fields vs)(h1:1<vs.size)(s':Shared)(es:s'.heap=h')
  (q:∀ h2,Ģ fr e T oe h h2 .none->Q () { s' with heap:=h2 }):wpAny M A (setFlight (.ref e) none) Q E s':=by
 subst es;obtain⟨oT,ts,hT,Jf,h3,nT⟩:=x.Oe;have Og:3<ts.size:=(Array.getElem?_eq_some_iff.mp h3).1;have e1:(oe.mapFields (λ x=>x.setIfInBounds 1 (.ref T))).data=.fields (vs.setIfInBounds 1 (.ref T)):=Obj.data_mapFields hd _;have e2:(vs.setIfInBounds 1 (Value.ref T))[1]?=some (.ref T):=by simp [h1]
 refine wpAny_setFlight_none x.exc e1 e2 hT Jf Og (q _ ⟨λ b o nb nf hb=>?_,λ b o nb hb=>?_,x.new,?_,?_⟩)
 ·have z:=x.keep b o nb nf hb;rw [Heap.get?_update_ne _ _ _ _ (λ w=>?_)]
  ·exact z
  ·rw [w] at hb;exact absurd (Nat.lt_of_lt_of_le (Heap.lt_size hb) x.new) (Nat.lt_irrefl _)
 ·obtain⟨sl,z⟩:=x.slot b o nb hb;refine⟨sl,?_⟩;rw [Heap.get?_update_ne _ _ _ _ (λ w=>?_)]
  ·exact z
  ·rw [w] at hb;exact absurd (Nat.lt_of_lt_of_le (Heap.lt_size hb) x.new) (Nat.lt_irrefl _)
 ·rw [Heap.get?_update_ne _ _ _ _ nT.symm];exact x.exc
 ·refine⟨_,_,Heap.get?_update_self _ hT (by rw [my Jf];rfl),Obj.data_mapFields Jf _,?_,nT⟩
  simp [Og]
theorem mV (hA:A.frames=some (env::outer))(hF:s.heap.FunFrames base (env::outer))(hL:env.frame=some L)(he:s.heap.get? e=some oe)(hd:oe.data=.fields vs)(hv:Aw s.heap e vs)
  (q:∀ h' T,Ģ (jN (env::outer)) e T oe s.heap h' .none->Q () { s with heap:=h' }):wpAny M A (leaving env (.ref e)) Q E s:=by
 have h1:1<vs.size:=by
  rcases hv with hv | ⟨T,oT,ts,hv,_⟩
  ·exact(Array.getElem?_eq_some_iff.mp hv).1
  ·exact(Array.getElem?_eq_some_iff.mp hv).1
 unfold leaving;exact wpAny_bind (ju hA hF hL he hd hv λ h' T x=>x.JA hd h1 _ rfl λ h2 x2=>q h2 T x2)
end
def one (P:V->Hp->Prop)(vs:List V)(H:Hp):Prop:=match vs with
 | [v]=>P v H
 | _=>False
theorem BM {P:V->Hp->Prop}{vs:List V}{H:Hp}(h:one P vs H):∃ v,vs=[v]/\P v H:=by
 cases vs with
 | nil=>exact h.elim
 | cons v r =>
  cases r with
  | nil=>exact⟨v,rfl,h⟩
  | cons _ _=>exact h.elim
def two (P:V->V->Hp->Prop)(vs:List V)(H:Hp):Prop:=match vs with
 | [v,u]=>P v u H
 | _=>False
theorem yB {P:V->V->Hp->Prop}{vs:List V}{H:Hp}(h:two P vs H):∃ v u,vs=[v,u]/\P v u H:=by
 match vs,h with
 | [v,u],h=>exact⟨v,u,rfl,h⟩
section
variable {X:Cx}{pins:List (Addr × Obj)}{σ:St}{H:Hp}{s:Shared}
theorem yQ {D C f:Addr}{nm fld x:Str}{k:Nat}{fd:FuncData}{ps:List Str}{e:Expr}{te:TE}{p pos:Pos}(B:Ò X.K D)(T:Ø X.K D nm C f)(F:Â X.prog X.w X.K X.mg X.base av k f fd ps (mI C fld))(hr:Ä (k+1) X.A)(hb:Binds X.K fd ps [])
  (hg:Gl X x)(hm:X.mg x=some (.ref C))(ha:PE X e te)(Ġ:(x==("__debug__" : Str))=false:=by decide)(he:starEach [e] X.env=(false,eval e X.env)::starEach [] X.env:=by rfl)(ó:(backTo pos (starEach [] X.env)).any (·.1)=false:=by rfl) :
  PE X (.Call (.Name x p) [e] [] pos) (Eh C fld te):=by
 intro pins s σ H Q I h;refine wpAny_Call_Name_kw (c7 I hg hm ?_ Ġ);have pa:PA X [e] (ah te aF):=ac ha ak he;have h':ah te aF σ H (one λ v H1=>∀ x dx,H1 x=none->H1 dx=none->dx≠x->Q (.ref x) (ae (ae H1 dx (.xd [(fld,v)])) x (eJ x C (some dx)))):=h;refine PySem.W.callWith_K (h₀:=X.base) I.ok.mod.KL T.kp (aT (pa pos pins s σ H _ I h') λ us s1 ⟨vs,H1,I1,r,q⟩=>⟨I1.Ý,?_⟩) he ó;obtain⟨v,rfl,q⟩:=BM q;obtain⟨u,rfl,ru⟩:=dY r;exact rY B T F hr hb I1 ru q
def Iu (ts tt:TE)(C:Addr):TE:=λ σ H Q=>ts σ H λ x H1=>tt σ H1 λ v H2=>∃ a,x=.ref a/\H2 a=some (eJ a C none)/\Q .Æ H2
theorem bD {D C f:Addr}{nm x:Str}{o e:Expr}{ts tt:TE}{p apos pos:Pos}{pl:Sem Bool}(B:Ò X.K D)(T:Ø X.K D nm C f)(hg:Gl X x)(hm:X.mg x=some (.ref D))(hs:PE X o ts)(ht:PE X e tt)(Ġ:(x==("__debug__" : Str))=false:=by decide)
  (Jc:starEach [o,e] X.env=(false,eval o X.env)::starEach [e] X.env:=by rfl)(Pp:starEach [e] X.env=(false,eval e X.env)::starEach [] X.env:=by rfl)(ó:(backTo pos (starEach [e] X.env)).any (·.1)=false:=by rfl)
  (Pq:eval (.Call (.Attribute (.Name x p) "__init__" apos) [o,e] [] pos) X.env=(do
   let ov <- eval (.Name x p) X.env
   standAt apos.atName
   let (f,first) <- holding [ov] (getMethod ov "__init__" pl)
   callWith pos f first (backTo pos (starEach [o,e] X.env)) (backToKw pos (keywordEach [] X.env))):=by rfl) :
  PE X (.Call (.Attribute (.Name x p) "__init__" apos) [o,e] [] pos) (Iu ts tt C):=by
 intro pins s σ H Q I h;refine PySem.W.methodCall_KW (pl:=pl) (c7 I hg hm ?_ Ġ) Pq;refine method_cls I.Ý B.ga (cls_value I.Ý B.reads B.MN rfl ?_);have I0:Inv X pins σ H { s with toks:=s.toks+1 }:=I.tok _
 have pa:PA X [o,e] (ah ts (ah tt aF)):=ac hs (ac ht ak Pp) Jc;have h':ah ts (ah tt aF) σ H (two λ x v H2=>∃ a,x=.ref a/\H2 a=some (eJ a C none)/\Q .Æ H2):=h;refine PyProof.Rows.callWith_builtin1 (aT (pa pos pins _ σ H _ I0 h') λ us s1 ⟨vs,H1,I1,r,q⟩=>?_) Jc ó;obtain⟨_,v,rfl,a,rfl,ha,q⟩:=yB q;obtain⟨u,u',rfl,ru,J5⟩:=jC r;cases (show u=Value.ref a from ru);obtain⟨t0,hx⟩:=gU I1.É ha;obtain⟨q',N,bs,sn,sub,ab,col,dd,k0,k1,k2,k3,k5,l⟩:=T.cls;obtain⟨hp,g,dr,tk,os⟩:=s1;refine wpAny_call (xZ (C:=C) PySem.F.excBase_ValueError (B.tail I1.Ý) (I1.Ý _ _ l) hx λ h' Jo hk=>?_);have I2:Inv X pins σ (ae H1 a (eJ a C none)) ⟨h',g,dr,tk,os⟩:=I1.write (h':=h') (t':=tk) (x:=a) (e:=a) (by rw [ha];exact True.intro) (.inl rfl) (λ b o hb e=>hk b o hb e) ⟨_,Jo⟩ (kE Jo)
 rw [n9 ha] at I2;exact⟨.Æ,H1,I2,rfl,q⟩
def Gf (K:Frag)(C:Addr)(ta tv:TE)(f:Str):TS:=λ D σ H=>tv σ H λ y H1=>ta σ H1 λ x H2=>∃ a,x=.ref a/\H2 a=some (eJ a C none)/\takerIn K C f=some none/\∀ dx,H2 dx=none->dx≠a->D.nx σ (ae (ae H2 dx (.xd [(f,y)])) a (eJ a C (some dx)))
theorem fv {D C fI:Addr}{nm f:Str}{o value:Expr}{ta tv:TE}{pos pos':Pos}(T:Ø X.K D nm C fI)(ha:PE X o ta)(hv:PE X value tv)(hs:swapsWith value (some (.Attribute o f pos')) pos.line X.env=pure false) :
  PS X (.Assign [.Attribute o f pos'] value pos) (Gf X.K C ta tv f):=by
 intro pins s σ H D' I h;refine plainObj_wpAny_Assign_Attribute (aT (hv pins s σ H _ I h) λ u s1 ⟨y,H1,I1,ry,q⟩=>aT (ha pins s1 σ H1 _ I1 q) λ ov s2 ⟨x,H2,I2,rx,a,ex,ea,tk,q2⟩=>?_) hs;subst ex;obtain rfl:ov=Value.ref a:=rx;obtain⟨t0,hx⟩:=gU I2.É ea;obtain⟨cd,hc,hd,hp⟩:=T.refuse a;refine A8 I2.Ý hx T.sa hc hd hp T.it.mo tk λ h' Sw Jo KP hk=>?_;have fr:H2 s2.heap.objs.size=none:=I2.fresh;have nz:s2.heap.objs.size≠a:=λ z=>by rw [<- z,fr] at ea;cases ea
 obtain⟨oD,es,ep,LB,rD⟩:=id KP;have nf:oD.isFreed=false:=Obj.isFreed_of_dict rD.1;have I3:Inv X pins σ (ae H2 s2.heap.objs.size (.xd [(f,y)])) { s2 with heap:=s2.heap.push oD,toks:=s2.toks }:=by
  refine I2.laid (h':=s2.heap.push oD) (t':=s2.toks) (a:=s2.heap.objs.size) (λ b o e=>Heap.get?_push_of_some _ e) (Nat.le_refl _) ⟨_,⟨oD,es,ep,Heap.get?_push_at rfl nf,rD⟩,λ g=>?_⟩;by_cases e:g=f
  ·subst e;rw [if_pos rfl,List.lookup_cons_self];exact ry
  ·rw [if_neg e,List.lookup_cons,beq_eq_false_iff_ne.mpr e];exact True.intro
 have UU:ae H2 s2.heap.objs.size (.xd [(f,y)]) a=some (eJ a C none):=by rw [ag nz.symm];exact ea
 have I4:Inv X pins σ (ae (ae H2 s2.heap.objs.size (.xd [(f,y)])) a (eJ a C (some s2.heap.objs.size))) { s2 with heap:=h',toks:=Sw }:=by
  refine I3.write (h':=h') (t':=Sw) (x:=a) (e:=a) (by rw [UU];exact True.intro) (.inl rfl) (λ b o hb e=>?_) ⟨_,Jo⟩ (kE (t:=t0) Jo)
  by_cases z:b=s2.heap.objs.size
  ·subst z;have e':(s2.heap.push oD).get? s2.heap.objs.size=some o:=e;rw [Heap.get?_push_at rfl nf] at e';cases e';exact LB
  ·have e':(s2.heap.push oD).get? b=some o:=e;exact hk b o hb (by rw [<- Heap.get?_push_ne _ _ oD z];exact e')
 exact⟨σ,_,I4,q2 _ fr nz⟩
theorem nw {P:Program}{w:World}{H:Hp}{h:Heap}{a C dx:Addr}{fs:List (Str × V)}(ok:õ P w H h)(ea:H a=some (eJ a C (some dx)))(ed:H dx=some (.xd fs)) :
  ∃(ox od:Obj),InstAt h a ox C (some od)/\∃ mA:Str->Option Value,(∀ f,ô (fs.lookup f) (mA f))/\∀ name,lookIn name od=some (mA name):=by
 obtain⟨t,hx⟩:=gU ok ea;obtain⟨mA,hn,hr⟩:=(show Å P w H h dx (.xd fs) from ok dx _ ed);obtain⟨od,Pr,hl⟩:=ip hn;exact⟨_,od,⟨hx,rfl,rfl,Pr⟩,mA,hr,hl⟩
structure qG (K:Frag):Prop where
 gt:specialIn K (.builtin "object.__class__") "__get__" = some (some (.builtin "getset_descriptor.__get__"))
 tk:takesIn K (.builtin "object.__class__")=some true
def ķ (H:Hp)(a C:Addr):Prop:=H a=some (eJ a C none)\/∃ dx fs,H a=some (eJ a C (some dx))/\H dx=some (.xd fs)
theorem ķ.inst {P:Program}{w:World}{H:Hp}{h:Heap}{a C:Addr}(E:ķ H a C)(ok:õ P w H h):∃ ox od,InstAt h a ox C od:=by
 rcases E with e | ⟨dx,fs,ea,ed⟩
 ·obtain⟨t,hx⟩:=gU ok e;exact⟨_,none,⟨hx,rfl,rfl,True.intro⟩⟩
 ·obtain⟨ox,od,J,_⟩:=nw ok ea ed;exact⟨ox,some od,J⟩
end
end My
namespace My
open PySem PySem.W L2
open PyProof.Rows (AllBare)
abbrev jJ (C:Addr)(d:Option Addr)(t:Addr)(v:Value):Obj:={ cls:=.ref C,dict:=d,data:=.fields #[.ref t,v,.none,.none,.bool false,.none] }
def gY (x C:Addr)(d:Option Addr):HO:=.ext λ h=>∃ t v,h.get? x=some (jJ C d t v)
theorem wb {P:Program}{w:World}{H:Hp}{h:Heap}{x C:Addr}{d:Option Addr}{t:Addr}{v:Value}(e:h.get? x=some (jJ C d t v)):Å P w H h x (gY x C d) :=
 ⟨⟨t,v,e⟩,⟨_,e⟩,λ _ _ ⟨t',v',e'⟩ k=>⟨t',v',k _ e'⟩⟩
theorem vd {P:Program}{w:World}{H:Hp}{h:Heap}{x C:Addr}{d:Option Addr}(ok:õ P w H h)(e:H x=some (gY x C d)):∃ t v,h.get? x=some (jJ C d t v):=(ok x _ e).1
def Iw (n:Nat)(H:Hp)(h:Heap)(x C:Addr)(d:Option Addr):Prop:=∃ t T oT ts,h.get? x=some (jJ C d t (.ref T))/\T≠x/\n<=T/\H T=none/\h.get? T=some oT/\oT.data=.fields ts/\ts[3]?=some Value.none
def cK (P:Program)(w:World):kc:=λ outer H s E e s'=>∃ x C dx fs H',e=.ref x/\s'.os=s.os/\AllBare s'.gens/\Un (jN outer) [] H H' s.heap s'.heap/\õ P w H' s'.heap/\H' x=some (gY x C (some dx))/\H' dx=some (.xd fs)/\Iw s.heap.objs.size H' s'.heap x C (some dx)/\E (.ref C) (some x) H'
section
variable {X:Cx}{pins:List (Addr × Obj)}{σ:St}{H:Hp}{s:Shared}
theorem Inv.left {x C:Addr}{d:Option Addr}{t T:Addr}{v r:Value}{h':Heap}{o:HO}(I:Inv X pins σ H s)(hS:X.stack=X.env::X.outer)(hx:H x=some o)(ho:(∃ φ,o=.ext φ))(he:s.heap.get? x=some (jJ C d t v))
  (l:Ģ (jN (X.env::X.outer)) x T (jJ C d t v) s.heap h' r):Inv X pins σ (ae H x (gY x C d)) { s with heap:=h' }:=by
 obtain⟨φ,rfl⟩:=ho;have nx:∀ b u,H b=some u->(∀ φ,u ≠ .ext φ)->b≠x:=λ b u e n z=>by
  subst z;rw [hx] at e;exact n φ (Option.some.inj e).symm
 have Sx:∀ b∈jN (X.env::X.outer),H b=none:=λ b hb=>I.Ě b (by rw [hS];exact hb)
 have Of:∀ b u,H b=some u->b ∉ jN (X.env::X.outer):=λ b u e z=>by rw [Sx b z] at e;cases e
 have exc:h'.get? x=some (jJ C d t (.ref T)):=l.exc;have sub:∀ b,b∈jN (X.env::X.outer)->b=X.env.locals\/b∈X.fs:=λ b hb=>List.mem_cons.mp (I.î b (by rw [hS];exact hb))
 refine I.step (g':=s.gens) (d':=s.drawn) (t':=s.toks) (ch:=[]) (λ _ z=>nomatch z) (λ b o hL hf _ e n=>?_) (λ b o hL hf _ e n=>?_) (λ b o _ e n=>?_) (λ b o _ e=>?_) (λ b xs e=>?_) (λ b o u e=>?_) (λ b ps e=>⟨#[],?_⟩) (λ e=>?_) (λ m hm=>?_) (λ b u e=>?_) I.bare
 ·refine l.keep b o (λ z=>by rw [z,hx] at n;cases n) (λ z=>?_) e
  rcases sub b z with q | q
  ·exact hL q
  ·exact hf q
 ·exact l.slot b o (λ z=>by rw [z,hx] at n;cases n) e
 ·rw [ag (λ z=>by rw [z,hx] at n;cases n)];exact n
 ·by_cases z:b=x
  ·subst z;exact⟨_,exc⟩
  ·obtain⟨sl,q⟩:=l.slot b o z e;exact⟨_,q⟩
 ·rw [ag (nx b _ e λ _=>by intro z;cases z)];exact e
 ·rw [ag (nx b _ e λ _=>by intro z;cases z)];exact e
 ·rw [ag (nx b _ e λ _=>by intro z;cases z),e];simp
 ·rw [ag (λ z=>by rw [z,hx] at e;cases e)];exact e
 ·obtain⟨o,es,ep,ho,r⟩:=hm;obtain⟨sl,q⟩:=l.slot _ o (λ z=>by have:=I.free;rw [z,hx] at this;cases this) ho
  exact⟨_,es,ep,q,r⟩
 ·by_cases z:b=x
  ·subst z;rw [aL] at e;cases e;exact wb exc
  ·rw [ag z] at e;refine(I.É b u e).ē (λ c o' hc q=>?_) (λ c q=>?_) λ c xs q=>?_
   ·rcases hc with rfl | hc
    ·exact l.keep c o' z (Of c u e) q
    ·exact l.keep c o' (nx c _ hc λ _=>by intro w;cases w) (Of c _ hc) q
   ·rw [ag (nx c _ q λ _=>by intro w;cases w)];exact q
   ·rw [ag (nx c _ q λ _=>by intro w;cases w)];exact q
variable {P:Program}{w:World}{K:Frag}{mg:Str->Option Value}{base:Heap}{N:List Str}{qual:Str}{scope:Scope}{f:Addr}{cd:Value}{A:Around}{outer:List Env}{s0:Shared}{H0:Hp}{E:XK}
theorem xA {x C dx:Addr}{t:Addr}{v:Value}{o:HO}{fs:List (Str × V)}(I:Inv (aV (cK P w) P w K mg base N qual scope f cd A outer s0 H0 E) pins σ H s)(hx:H x=some o)(ho:(∃ φ,o=.ext φ))(Ż:H dx=some (.xd fs))(he:s.heap.get? x=some (jJ C (some dx) t v))
  (hv:Aw s.heap x #[.ref t,v,.none,.none,.bool false,.none])(q:E (.ref C) (some x) (ae H x (gY x C (some dx)))):(aV (cK P w) P w K mg base N qual scope f cd A outer s0 H0 E).xe (.ref x) s:=by
 have hA:=I.ok.frames;refine mV hA I.stack rfl he rfl hv λ h' T l=>?_;have J:=Inv.left I rfl hx ho he l;have nT:H T=none:=I.É.fresh l.new;obtain⟨oT,ts,h1,h2,h3,h4⟩:=l.Oe;have nd:dx≠x:=λ z=>by
  obtain⟨φ,rfl⟩:=ho;rw [z,hx] at Ż;cases Ż
 refine⟨x,C,dx,fs,_,rfl,J.os,J.bare,J.base,J.É,aL,by rw [ag nd];exact Ż,⟨t,T,oT,ts,l.exc,h4,Nat.le_trans I.sz l.new,?_,h1,h2,h3⟩,q⟩
 rw [ag h4];exact nT
theorem dm:dB (cK P w) (aV (cK P w) P w K mg base N qual scope f cd A outer s0 H0 E) E:=by
 intro pins σ H s e s' I h;obtain⟨x,C,dx,fs,H',rfl,os,bare,un,É,hx,Ż,⟨t,T,oT,ts,h1,h2,_,h4,h5,h6,h7⟩,q⟩:=h;have J:=I.Ů os un É bare (λ b z=>absurd z (by simp))
 refine xA J hx ⟨_,rfl⟩ Ż h1 (.inr ⟨T,oT,ts,rfl,h2,h5,h6,h7⟩) ?_;rw [n9 hx];exact q
end
end My
namespace My
open PySem PySem.W L2
open PyProof.Rows (AllBare)
section
variable {prog:Program}{w:World}{A:Around}{E:Value->Shared->Prop}{s:Shared}{env:Env}{x:Sem Value}{Q:Flow->Shared->Prop}{K:Frag}{C:Addr}
theorem tZ (T:mE K C)(ht:typeIn K (.ref C)=some (.type "type"))(hA:A.handled=none)
  (hx:wpAny (model prog w) A x (λ v s1=>∃ e t d od,v=.ref e/\InstAt s1.heap e (jR C d t) C od/\K.In s1.heap/\E (.ref e) s1) E s):wpAny (model prog w) A (raiseStmt env (some x) none) Q E s:=by
 unfold raiseStmt;refine wpAny_bind (wpAny_mono hx (λ v s1 h=>?_) (λ _ _ z=>z));obtain⟨e,t,d,od,rfl,I,KX,q⟩:=h;obtain⟨hp,g,dr,tk,os⟩:=s1;have Sy:∀ c:ClassData,(jR C d t).data≠Data.cls c:=λ c z=>by cases z
 refine wpAny_bind (wpAny_pure ?_);refine wpAny_bind ?_;show wpAny _ _ (excFromValue (.ref e) _) _ _ _;unfold excFromValue;refine wpAny_bind ?_;unfold isExcClass;refine wpAny_bind (ks_wpAny_isType_inst I.at_ Sy ?_);refine wpAny_ite_false rfl (wpAny_pure ?_);refine wpAny_ite_false rfl ?_;refine wpAny_bind ?_;have sub:Looks (model prog w) hp (isInstance (.ref e) (.type "BaseException")) true:=I.type.andThen (looks_mroIn KX T.mb);refine Looks.here (s:=⟨hp,g,dr,tk,os⟩) sub ?_;refine wpAny_ite_true rfl (wpAny_pure ?_);refine wpAny_bind (ks_wpAny_isType_inst I.at_ Sy ?_);refine wpAny_ite_false rfl ?_;refine wpAny_bind ?_;unfold raisedInstance;refine wpAny_bind (Looks.here (s:=⟨hp,g,dr,tk,os⟩) I.type ?_);refine wpAny_bind (Looks.here (s:=⟨hp,g,dr,tk,os⟩) (looks_typeIn KX ht) ?_);refine wpAny_ite_true rfl (wpAny_pure ?_);refine wpAny_bind ?_;unfold setFlight;refine wpAny_bind (wpAny_field I.at_ rfl rfl ?_);refine wpAny_ite_false rfl (wpAny_pure ?_);exact wpAny_raiseNew_none hA q
end
theorem Ø.type {K:Frag}{D:Addr}{nm:Str}{C f:Addr}(T:Ø K D nm C f):typeIn K (.ref C)=some (.type "type"):=by
 obtain⟨q,N,bs,sn,sub,ab,col,dd,k0,k1,k2,k3,k5,l⟩:=T.cls;show(K.lookup C).map (λ o=>o.cls)=_;rw [l];rfl
def qR (E:XK)(C:Addr):VK:=λ y H'=>∃ x dx fs,y=.ref x/\H' x=some (eJ x C (some dx))/\H' dx=some (.xd fs)/\E (.ref C) (some x) (ae H' x (gY x C (some dx)))
def zW (E:XK)(C:Addr)(fld:Str)(te:TE):TS:=λ _ σ H=>Eh C fld te σ H (qR E C)
theorem fq {H:Hp}{x:Addr}{a b:HO}:ae (ae H x a) x b=ae H x b:=by
 funext z
 unfold ae;by_cases h:z=x
 ·rw [if_pos h,if_pos h]
 ·rw [if_neg h,if_neg h,if_neg h]
section
variable {P:Program}{w:World}{K:Frag}{mg:Str->Option Value}{base:Heap}{N:List Str}{qual:Str}{scope:Scope}{f:Addr}{cd:Value}{A:Around}{outer:List Env}{s0:Shared}{H0:Hp}{E:XK}
abbrev sQ (P:Program)(w:World)(K:Frag)(mg:Str->Option Value)(base:Heap)(N:List Str)(qual:Str)(scope:Scope)(f:Addr)(cd:Value)(A:Around)(outer:List Env)(s0:Shared)(H0:Hp)(E:XK):Cx:=aV (cK P w) P w K mg base N qual scope f cd A outer s0 H0 E
theorem cQ {D C fI:Addr}{nm fld x:Str}{k:Nat}{fd:FuncData}{ps:List Str}{e:Expr}{te:TE}{p pos pos':Pos}(B:Ò K D)(T:Ø K D nm C fI)(F:Â P w K mg base av k fI fd ps (mI C fld))(hr:Ä (k+1) (sQ P w K mg base N qual scope f cd A outer s0 H0 E).A)(hb:Binds K fd ps [])
  (hg:Gl (sQ P w K mg base N qual scope f cd A outer s0 H0 E) x)(hm:mg x=some (.ref C))(ha:PE (sQ P w K mg base N qual scope f cd A outer s0 H0 E) e te)
  (Ġ:(x==("__debug__" : Str))=false:=by decide)(he:starEach [e] (sQ P w K mg base N qual scope f cd A outer s0 H0 E).env=(false,eval e (sQ P w K mg base N qual scope f cd A outer s0 H0 E).env)::starEach [] (sQ P w K mg base N qual scope f cd A outer s0 H0 E).env:=by rfl)(ó:(backTo pos (starEach [] (sQ P w K mg base N qual scope f cd A outer s0 H0 E).env)).any (·.1)=false:=by rfl) :
  PS (sQ P w K mg base N qual scope f cd A outer s0 H0 E) (.Raise (some (.Call (.Name x p) [e] [] pos)) none pos') (zW E C fld te):=by
 intro pins s σ H D' I h;have pe:=yQ (X:=sQ P w K mg base N qual scope f cd A outer s0 H0 E) (p:=p) (pos:=pos) B T F hr hb hg hm ha Ġ he ó;have hd:(sQ P w K mg base N qual scope f cd A outer s0 H0 E).A.handled=none:=I.ok.hd rfl;rw [arm_exec_Raise];refine wpAny_bind (wpAny_standAt ?_);refine tZ T.it T.type hd ?_;refine wpAny_bind (aT (pe pins s σ H (qR E C) I h) λ u s1 h1=>?_);obtain⟨y,H1,I1,ry,x,dx,fs,rfl,e1,e2,q⟩:=h1;refine wpAny_bind (wpAny_standAt (wpAny_pure ?_));obtain⟨t,ht⟩:=gU I1.É e1;obtain⟨ox,od,J,_⟩:=nw I1.É e1 e2;have eo:ox=jR C (some dx) t:=Option.some.inj (J.at_.symm.trans ht);subst eo;exact⟨x,t,some dx,some od,ry,J,I1.Ý,xA I1 e1 ⟨_,rfl⟩ e2 ht (.inl rfl) q⟩
theorem fE {C x dx:Addr}{fld:Str}{v:V}{H1:Hp}(nd:dx≠x)(q:E (.ref C) (some x) (ae (ae H1 dx (.xd [(fld,v)])) x (gY x C (some dx)))):qR E C (.ref x) (ae (ae H1 dx (.xd [(fld,v)])) x (eJ x C (some dx))) :=
 ⟨x,dx,_,rfl,aL,by rw [ag nd,aL],by rw [fq];exact q⟩
theorem mk {x qual:Str}{st:Stmt}{f:Addr}{fd:FuncData}{N ps:List Str}{k:Nat}{sp:Sp}(F:Ö K x qual st f fd)(S:ad N ps (aa st))(len:∀ vs H Q E,sp vs H Q E->vs.length=ps.length)
  (Ō:∀(cdv:Value)(A:Around)(outer:List Env)(s:Shared)(H:Hp)(vs:List V)(Q:VK)(E:XK),Ä k (A.deeper (PyProof.Rows.envOfC qual (aa st) s.heap.objs.size f cdv))->sp vs H Q E ->
   ∃ t,ü (sQ P w K mg base N qual (aa st) f cdv A outer s H E) (au st) t/\t { nx:=λ _ H'=>Q .Æ H',rt:=Q } (gQ N vs) H):Â P w K mg base (cK P w) (k+1) f fd ps sp:=by
 obtain⟨oc,od,kV,doc,pm,an,cdv,ct,Kf,rfl,lk,ŷ⟩:=F.ex;refine wV lk ŷ S len λ A outer s H vs Q E hr Ÿ=>?_;obtain⟨t,h,q⟩:=Ō cdv A outer s H vs Q E hr Ÿ;exact⟨t,h,q⟩
theorem Â.UW {k:Nat}{f:Addr}{fd:FuncData}{ps:List Str}{sp:Sp}(F:Â P w K mg base av k f fd ps sp):Â P w K mg base (cK P w) k f fd ps sp :=
 ⟨F.len,λ A outer s H args us vs Q E hr he hb hv hs=>codeAny_mono (F.run A outer s H args us vs Q E hr he hb hv hs) λ r s' h=>by
  cases r with
  | error e=>exact False.elim h
  | ok fl=>cases fl <;> exact h⟩
end
end My
namespace My
open PySem PySem.W L2
open PyProof.Rows (AllBare)
def PX (X:Cx)(σ:St)(e:Expr)(t:TE):Prop:=∀(pins:List (Addr × Obj))(s:Shared)(H:Hp)(Q:VK),Inv X pins σ H s->t σ H Q->wpAny (model X.prog X.w) X.A (eval e X.env) (EP X pins σ Q) X.xe s
def DA (X:Cx)(σ:St)(es:List Expr)(t:TA):Prop:=∀(pos:Pos)(pins:List (Addr × Obj))(s:Shared)(H:Hp)(Q:List V->Hp->Prop),Inv X pins σ H s->t σ H Q->wpAny (model X.prog X.w) X.A (spliced (backTo pos (starEach es X.env))) (AP X pins σ Q) X.xe s
section
variable {X:Cx}{σ:St}{e:Expr}{es:List Expr}{te:TE}{t:TA}{pos:Pos}
theorem wL (h:PE X e te):PX X σ e te:=λ pins s H Q I q=>h pins s σ H Q I q
theorem tE (h:PA X es t):DA X σ es t:=λ pos pins s H Q I q=>h pos pins s σ H Q I q
theorem lU (ha:PX X σ e te)(hr:DA X σ es t)(hs:starEach (e::es) X.env=(false,eval e X.env)::starEach es X.env:=by rfl):DA X σ (e::es) (ah te t):=by
 intro pos pins s H Q I h;rw [hs];show wpAny _ _ (spliced ((false,eval e X.env)::backTo pos (starEach es X.env))) _ _ s;refine Calls.spliced_cons (aT (ha pins s H _ I h) λ u s1 ⟨x,H1,I1,r1,q1⟩=>?_);exact aT (hr pos pins s1 H1 _ I1 q1) λ us s2 ⟨xs,H2,I2,r2,q2⟩=>⟨x::xs,H2,I2,.cons r1 r2,q2⟩
theorem yF {x1}(h:DA X σ es t):PX X σ (.Tuple es x1 pos) (dw t):=by
 intro pins s H Q I hq;refine wpAny_Tuple_spliced (aT (h pos pins s H _ I hq) λ us s1 ⟨xs,H1,I1,r,z,q⟩=>⟨by rw [<- r.length];exact z,?_⟩)
 have hf:H1 s1.heap.objs.size=none:=I1.É.fresh (Nat.le_refl _);refine⟨.ref s1.heap.objs.size,ae H1 s1.heap.objs.size (.tup xs),I1.laid (t':=s1.toks) (λ b u e=>Heap.get?_push_of_some _ e) (Nat.le_refl _) ?_,rfl,q _ hf⟩;exact⟨z,us,r,⟨_,Heap.get?_push_size _ rfl,rfl,_,rfl⟩⟩
def sX (CX:kc)(X:Cx)(σ:St)(E:XK):Prop:=∀(pins:List (Addr × Obj))(H:Hp)(s:Shared)(e:Value)(s':Shared),Inv X pins σ H s->CX X.stack H s E e s'->X.xe e s'
variable {CX:kc}{k:Nat}{f C:Addr}{fd:FuncData}{ps:List Str}{sp:Sp}{dvs:List V}{ds:List Value}{E:XK}{x:Str}{p:Pos}
theorem vk {pins:List (Addr × Obj)}{H:Hp}{s:Shared}{Q:VK}{us:List Value}{vs:List V}(F:Â X.prog X.w X.K X.mg X.base CX k f fd ps sp)(hr:Ä k X.A)(hb:Binds X.K fd ps ds)(hd:Vals dvs ds)(hx:sX CX X σ E)
  (I:Inv X pins σ H s)(r:Vals vs us)(h:sp (vs++dvs) H Q E):wpAny (model X.prog X.w) X.A (call (.ref f) us) (EP X pins σ Q) X.xe s:=by
 have r2:Vals (vs++dvs) (us++ds):=r.append hd;have hl:(us++ds).length=ps.length:=by rw [<- r2.length];exact F.len _ _ _ _ h
 refine wpAny_call (codeAny_mono (F.run X.A X.stack s H ⟨us,[]⟩ (us++ds) (vs++dvs) Q E hr I.Ke (hb s us I.Ý hl) r2 h) λ r s' hq=>?_);cases r with
 | error e=>exact hx pins H s e s' I hq
 | ok fl =>
  cases fl with
  | ret u=>exact I.after hq
  | next=>exact False.elim hq
  | brk=>exact False.elim hq
  | cont=>exact False.elim hq
end
section
variable {prog:Program}{w:World}{A:Around}{E:Value->Shared->Prop}{s:Shared}{K:Frag}{C D e:Addr}{Q:Bool->Shared->Prop}{ox:Obj}{od:Option Obj}{b:Bool}
theorem jv (KX:K.In s.heap)(hD:∃ cd,clsIn K D=some cd)(hT:typeIn K (.ref D)=some (.type "type"))(hB:mroIn K D (.type "BaseException")=some true)(I:InstAt s.heap e ox C od)(hC:mroIn K C (.ref D)=some b)(q:Q b s):wpAny (model prog w) A (excMatches (.ref e) (.ref D)) Q E s:=by
 unfold excMatches;have L1:Looks (model prog w) s.heap (isInstance (.ref D) (.type "tuple")) false:=(looks_typeIn KX hT).andThen (Looks.of_pure rfl);refine wpAny_bind (Looks.here L1 ?_);refine wpAny_ite_false rfl ?_;refine wpAny_bind (wpAny_pure ?_);refine wpAny_bind ?_;obtain⟨cd,hc⟩:=hD;obtain⟨hp,g,dr,tk,os⟩:=s;obtain⟨oD,LB,MB⟩:∃ oD,K.lookup D=some oD/\oD.data=.cls cd:=by
  unfold clsIn at hc;split at hc
  ·rename_i h
   exact⟨_,h,by cases hc;rfl⟩
  ·cases hc
 rw [List.forIn_cons];refine wpAny_bind (wpAny_bind ?_);unfold isExcClass;refine wpAny_bind (ks_wpAny_isType_cls (KX _ _ LB) MB ?_);refine wpAny_ite_true rfl ?_;refine Looks.here (s:=⟨hp,g,dr,tk,os⟩) (looks_mroIn KX hB) ?_;refine wpAny_ite_false rfl (wpAny_pure ?_);show wpAny _ _ (forIn ([]:List Value) PUnit.unit _) _ _ _;rw [List.forIn_nil];refine wpAny_pure ?_;refine wpAny_bind (Looks.here (s:=⟨hp,g,dr,tk,os⟩) I.type ?_);refine wpAny_bind ?_;rw [List.forIn_cons];refine wpAny_bind (wpAny_bind (Looks.here (s:=⟨hp,g,dr,tk,os⟩) (looks_mroIn KX hC) ?_));cases b with
 | true =>
  refine wpAny_ite_true rfl (wpAny_pure ?_);exact wpAny_pure (wpAny_pure q)
 | false =>
  refine wpAny_ite_false rfl (wpAny_pure ?_);show wpAny _ _ (forIn ([]:List Value) _ _) _ _ _;rw [List.forIn_nil];exact wpAny_pure (wpAny_pure q)
end
end My
namespace My
open PySem PySem.W L2
open PyProof.Rows (AllBare)
def HH (X:Cx)(σ:St)(st:Stmt)(t:TS):Prop:=∀(pins:List (Addr × Obj))(s:Shared)(H:Hp)(D:bA),Inv X pins σ H s->t D σ H->wpAny (model X.prog X.w) X.A (exec st X.env) (SP X pins D) X.xe s
section
variable {X:Cx}{σ:St}{e:Expr}{te:TE}{pos:Pos}
theorem vo {i:Nat}{x:Str}{pos':Pos}(hN:X.N.Nodup)(hi:X.N[i]?=some x)(hx:yJ X.env.scope x)(he:PX X σ e te)(hs:swapsWith e (some (.Name x pos')) pos.line X.env=pure false:=by rfl)(hf:X.fn x=true\/X.env.scope.names.lookup x=some .local:=by first | exact .inl rfl | exact .inr rfl | assumption) :
  HH X σ (.Assign [.Name x pos'] e pos) (cH te (aW i)):=by
 intro pins s H D I h;refine wpAny_Assign_Name (aT (he pins s H _ I h) λ v s1 ⟨y,H1,I1,r1,q1⟩=>?_) hs;exact dI I1 hN hi hx r1 (λ s2 I2=>⟨_,H1,I2,q1⟩) hf
end
abbrev jk (X:Cx)(pn:List (Addr × Obj))(xe:Value->Shared->Prop):Cx:={ X with pn:=pn,xe:=xe }
abbrev mj (X:Cx)(x:Addr):Cx:={ X with A:=X.A.mark (some (.ref x)),calm:=false,xe:=λ _ _=>False }
section
variable {X:Cx}{pins Ĵ pn:List (Addr × Obj)}{σ:St}{H:Hp}{s:Shared}{xe:Value->Shared->Prop}{x:Addr}
theorem Ok.JB (ok:X.Ok):(jk X pn xe).Ok:=⟨ok.mod,ok.kind,ok.glob,ok.blt,ok.above,ok.inj,ok.has,ok.KN,ok.hd,ok.frames,ok.Lv,ok.Mz,ok.bs,ok.Ŭ,ok.Ļ,ok.Ŝ,ok.ć,ok.JZ⟩
theorem Ok.ý (ok:(jk X pn xe).Ok):X.Ok:=⟨ok.mod,ok.kind,ok.glob,ok.blt,ok.above,ok.inj,ok.has,ok.KN,ok.hd,ok.frames,ok.Lv,ok.Mz,ok.bs,ok.Ŭ,ok.Ļ,ok.Ŝ,ok.ć,ok.JZ⟩
theorem Inv.JB (I:Inv X pins σ H s):Inv (jk X (X.pn++pins) xe) [] σ H s :=
 ⟨Ok.JB I.ok,I.os,I.bare,I.base,I.loc,I.cell,I.free,I.è,λ p hp=>I.pin p (by rw [List.append_nil] at hp;exact hp),I.É,I.len⟩
theorem Inv.ý (I:Inv (jk X (X.pn++pins) xe) Ĵ σ H s):Inv X pins σ H s :=
 ⟨Ok.ý I.ok,I.os,I.bare,I.base,I.loc,I.cell,I.free,I.è,λ p hp=>I.pin p (List.mem_append_left _ hp),I.É,I.len⟩
theorem Inv.Kk (I:Inv X pins σ H s):Inv (mj X x) pins σ H s :=
 ⟨⟨I.ok.mod,I.ok.kind,I.ok.glob,I.ok.blt,I.ok.above,I.ok.inj,I.ok.has,I.ok.KN,λ z=>Bool.noConfusion z,I.ok.frames,I.ok.Lv,I.ok.Mz,I.ok.bs,I.ok.Ŭ,I.ok.Ļ,I.ok.Ŝ,I.ok.ć,I.ok.JZ⟩,I.os,I.bare,I.base,I.loc,I.cell,I.free,I.è,I.pin,I.É,I.len⟩
theorem Inv.Ť (ok:X.Ok)(I:Inv (mj X x) pins σ H s):Inv X pins σ H s:=⟨ok,I.os,I.bare,I.base,I.loc,I.cell,I.free,I.è,I.pin,I.É,I.len⟩
theorem SP.Ť {D:bA}{f:Flow}(ok:X.Ok)(h:SP (mj X x) pins D f s):SP X pins D f s:=by
 cases f with
 | next=>obtain⟨Ï,H',I,q⟩:=h;exact⟨Ï,H',Inv.Ť ok I,q⟩
 | brk=>obtain⟨Ï,H',I,q⟩:=h;exact⟨Ï,H',Inv.Ť ok I,q⟩
 | cont=>obtain⟨Ï,H',I,q⟩:=h;exact⟨Ï,H',Inv.Ť ok I,q⟩
 | ret u=>obtain⟨v,Ï,H',I,r,q⟩:=h;exact⟨v,Ï,H',Inv.Ť ok I,r,q⟩
theorem SP.ý {D:bA}{f:Flow}(h:SP (jk X (X.pn++pins) xe) Ĵ D f s):SP X pins D f s:=by
 cases f with
 | next=>obtain⟨Ï,H',I,q⟩:=h;exact⟨Ï,H',Inv.ý I,q⟩
 | brk=>obtain⟨Ï,H',I,q⟩:=h;exact⟨Ï,H',Inv.ý I,q⟩
 | cont=>obtain⟨Ï,H',I,q⟩:=h;exact⟨Ï,H',Inv.ý I,q⟩
 | ret u=>obtain⟨v,Ï,H',I,r,q⟩:=h;exact⟨v,Ï,H',Inv.ý I,r,q⟩
theorem qV {M:Model}{A:Around}{E:Value->Shared->Prop}{i:Nat}{n:Str}{v:V}{Q:Unit->Shared->Prop}(I:Inv X pins σ H s)(hN:X.N.Nodup)(hi:X.N[i]?=some n)(hk:X.env.scope.names.lookup n=some .local)(hv:σ[i]?=some (some v))
  (h:∀ s',Inv X pins (σ.set i none) H s'->Q () s'):wpAny M A (unbindName X.env n) Q E s:=by
 obtain⟨m,hn,hl⟩:=id I.loc;have Ly:(X.env.scope.kind == .class||(X.env.scope.kind == .module&&X.env.locals != X.env.globals))=false:=by rw [I.ok.kind];rfl
 have Ŷ:i < σ.length:=by rw [I.len];exact(List.getElem?_eq_some_iff.mp hi).1
 obtain⟨u,_,lk⟩:=hl i n v hi hv (.inl hk);have mu:m n=some u:=by
  rcases lk with⟨_,z⟩ | ⟨z,_⟩
  ·exact z
  ·have k':X.env.kindOf n=some .local:=hk;rcases z with z | z <;>(rw [k'] at z;cases z)
 have Jl:=I.Jl;refine wpAny_unbindName_local hk hn mu Ly λ h' u' KP hs=>?_;obtain⟨oL,_,_,Si,_⟩:=id hn;have tracked:õ X.prog X.w H h':=λ b ob e=>by
  refine(I.É b ob e).ē (λ c w' hc q=>(hs.2 c ?_).trans q) (λ _ q=>q) λ _ _ q=>q;rintro rfl;rcases hc with rfl | hc
  ·rw [I.free] at e;cases e
  ·rw [I.free] at hc;cases hc
 refine h _ ⟨I.ok,I.os,I.bare,⟨λ b o e n hb hx=>?_,λ b o e n hb hx=>?_,I.base.free,λ b o e hx=>?_,I.base.Ĝ,I.base.Ĕ,I.base.ĝ,I.base.sys⟩,⟨_,KP,λ j y v' e1 e2 e3=>?_⟩,λ y c e=>?_,I.free,I.è,λ p hp=>?_,tracked,by simpa using I.len⟩
 ·exact(hs.2 b (Nat.ne_of_lt (Nat.lt_of_lt_of_le (Heap.lt_size e) I.ok.above))).trans (I.base.keep b o e n hb hx)
 ·obtain⟨sl,e1⟩:=I.base.slot b o e n hb hx;exact⟨sl,(hs.2 b (Nat.ne_of_lt (Nat.lt_of_lt_of_le (Heap.lt_size e) I.ok.above))).trans e1⟩
 ·obtain⟨o',e1⟩:=I.base.there b o e hx;exact⟨o',(hs.2 b (Nat.ne_of_lt (Nat.lt_of_lt_of_le (Heap.lt_size e) I.ok.above))).trans e1⟩
 ·by_cases hj:j=i
  ·subst hj;rw [List.getElem?_set_self Ŷ] at e2;cases e2
  ·rw [List.getElem?_set_ne (Ne.symm hj)] at e2;obtain⟨u2,r',q⟩:=hl j y v' e1 e2 e3;refine⟨u2,r',?_⟩;rcases q with⟨k,e⟩ | ⟨k,c,e,z⟩
   ·refine .inl ⟨k,?_⟩;have:y≠n:=λ e=>hj (jd hN e1 (e ▸ hi));simp [this,e]
   ·exact .inr ⟨k,c,e,z.sameBut hs (Jl y c e)⟩
 ·obtain⟨w',z⟩:=I.cell y c e;exact⟨w',z.sameBut hs (Jl y c e)⟩
 ·obtain⟨e,n,ne,nf,d⟩:=I.pin p hp;exact⟨(hs.2 p.1 ne).trans e,n,ne,nf,d⟩
end
structure gs (K:Frag)(D:Addr):Prop where
 cls:∃ cd,clsIn K D=some cd
 ty:typeIn K (.ref D)=some (.type "type")
 mb:mroIn K D (.type "BaseException")=some true
def oz (D:bA)(i:Nat):bA:=⟨λ σ H=>D.nx (σ.set i none) H,D.rt,λ σ H=>D.bk (σ.set i none) H,λ σ H=>D.ct (σ.set i none) H⟩
end My
namespace My
open PySem PySem.W L2
open PyProof.Rows (AllBare)
section
variable {X:Cx}{pins:List (Addr × Obj)}{σ:St}{H:Hp}{s:Shared}
theorem qf {i:Nat}{n:Str}{pos:Pos}{E:Value->Shared->Prop}{D:bA}{f:Flow}(ok:X.Ok)(hN:X.N.Nodup)(hi:X.N[i]?=some n)(hk:X.env.scope.names.lookup n=some .local)(h:SP X pins (oz D i) f s) :
  wpAny (model X.prog X.w) X.A (do
   bindName X.env n .none
   unbindBehindTheSuite X.env n pos) (λ _ s'=>SP X pins D f s') E s:=by
 have go:∀{Ï:St}{H':Hp},Inv X pins Ï H' s->(∀ s',Inv X pins (Ï.set i none) H' s'->SP X pins D f s')->wpAny (model X.prog X.w) X.A (do
   bindName X.env n .none
   unbindBehindTheSuite X.env n pos) (λ _ s'=>SP X pins D f s') E s:=λ {Ï H'} I q=>by
  have Ŷ:i < Ï.length:=by rw [I.len];exact(List.getElem?_eq_some_iff.mp hi).1
  refine wpAny_bind (wpAny_bindName (dI I hN hi (.inl hk) (v:=V.Æ) (u:=Value.none) rfl (λ s1 I1=>?_) (.inr hk)));unfold unbindBehindTheSuite;refine wpAny_onRaise (qV (v:=V.Æ) I1 hN hi hk (List.getElem?_set_self Ŷ) λ s2 I2=>?_);rw [List.set_set] at I2;exact q s2 I2
 cases f with
 | next=>obtain⟨Ï,H',I,q⟩:=h;exact go I λ s' I'=>⟨_,H',I',q⟩
 | brk=>obtain⟨Ï,H',I,q⟩:=h;exact go I λ s' I'=>⟨_,H',I',q⟩
 | cont=>obtain⟨Ï,H',I,q⟩:=h;exact go I λ s' I'=>⟨_,H',I',q⟩
 | ret u=>obtain⟨v,Ï,H',I,r,q⟩:=h;exact go I λ s' I'=>⟨v,_,H',I',r,q⟩
theorem ia {P:Program}{w:World}{H:Hp}{h:Heap}{a C dx:Addr}{fs:List (Str × V)}(ok:õ P w H h)(ea:H a=some (gY a C (some dx)))(ed:H dx=some (.xd fs)) :
  ∃(ox od:Obj),InstAt h a ox C (some od)/\∃ mA:Str->Option Value,(∀ f,ô (fs.lookup f) (mA f))/\∀ name,lookIn name od=some (mA name):=by
 obtain⟨t,v,hx⟩:=vd ok ea;obtain⟨mA,hn,hr⟩:=(show Å P w H h dx (.xd fs) from ok dx _ ed);obtain⟨od,Pr,hl⟩:=ip hn;exact⟨_,od,⟨hx,rfl,rfl,Pr⟩,mA,hr,hl⟩
def sd (K:Frag)(ta:TE)(f:Str):TE:=λ σ H Q=>ta σ H λ x H1=>∃ a C dx fs v,x=.ref a/\H1 a=some (gY a C (some dx))/\H1 dx=some (.xd fs)/\fs.lookup f=some v/\mE K C/\hasDictIn K C=true/\findIn K (.ref C) f=some none/\Q v H1
theorem fQ {e:Expr}{ta:TE}{f:Str}{pos:Pos}(he:PE X e ta)(hb:attributeBase e f X.env (eval e X.env)=eval e X.env):PE X (.Attribute e f pos) (sd X.K ta f):=by
 intro pins s σ H Q I h;refine pq hb (aT (he pins s σ H _ I h) λ u s1 ⟨x,H1,I1,rx,a,C,dx,fs,v,ex,ea,ed,l,T,hd,nf,q⟩=>?_);subst ex;obtain rfl:u=Value.ref a:=rx;obtain⟨ox,od,J,mA,hr,hl⟩:=ia I1.É ea ed;obtain⟨u,eu,ru⟩:=ô.some_of (l ▸ hr f);exact Bd I1.Ý J T.ga T.hk T.mb (findObj_own hd nf rfl (by rw [hl,eu])) (km ru) ⟨v,H1,I1.tok _,ru,q⟩
theorem j4:∀{cs:List Addr}{us:List Value},Vals (cs.map V.ref) us->us=cs.map Value.ref
 | [],_,.nil=>rfl
 | c::cs,_,.cons r t=>by
  rw [j4 t];cases (show _=Value.ref c from r);rfl
end
end My
namespace My
open PySem PySem.W L2
open PyProof.Rows (AllBare)
structure yA (X:Cx)(pins:List (Addr × Obj))(σ:St)(H:Hp)(s:Shared)(x C:Addr):Prop where
 inv:Inv X pins σ H s
 err:∃ dx fs,H x=some (gY x C (some dx))/\H dx=some (.xd fs)
 fl:∃ dx t T oT ts,s.heap.get? x=some (jJ C dx t (.ref T))/\s.heap.get? T=some oT/\oT.data=.fields ts/\ts[3]?=some Value.none
abbrev TH:=Addr->Addr->TS
def BW (X:Cx)(hs:List ExceptHandler)(th:TH):Prop:=∀(pins:List (Addr × Obj))(s:Shared)(σ:St)(H:Hp)(D:bA)(x C:Addr),yA X pins σ H s x C->th x C D σ H->wpAny (model X.prog X.w) X.A (handleBy (.ref x) X.env hs) (SP X pins D) X.xe s
def DL:TH:=λ _ _ _ _ _=>False
def BV (K:Frag)(B:Addr)(i:Nat)(th:TS)(rest:TH):TH:=λ x C D σ H=>∃ b,mroIn K C (.ref B)=some b/\if b=true then th (oz D i) (σ.set i (some (.ref x))) H else rest x C D σ H
def HK (K:Frag)(B:Addr)(th:TS)(rest:TH):TH:=λ x C D σ H=>∃ b,mroIn K C (.ref B)=some b/\if b=true then th D σ H else rest x C D σ H
section
variable {X:Cx}{hs:List ExceptHandler}{rest:TH}
theorem wy:BW X [] DL:=λ _ _ _ _ _ _ _ _ h=>False.elim h
theorem ji {th:TS}{B:Addr}{n cn:Str}{i:Nat}{JC:Stmt}{ō:List Stmt}{pc ph:Pos}(hN:X.N.Nodup)(hi:X.N[i]?=some n)(hk:X.env.scope.names.lookup n=some .local)(cB:gs X.K B)(hg:Gl X cn)(hm:X.mg cn=some (.ref B))
  (hh:∀ x,ü (mj X x) (JC :: ō) th)(hr:BW X hs rest)(Ġ:(cn==("__debug__" : Str))=false:=by decide):BW X (.ExceptHandler (some (.Name cn pc)) (some n) (JC :: ō) ph::hs) (BV X.K B i th rest):=by
 intro pins s σ H D x C G h;obtain⟨b,ť,q⟩:=h;obtain⟨J2,⟨dx,fs,hx,Ż⟩,UX,t,T',MO,MP,LJ,f1,f2,f3⟩:=id G;refine wpAny_handleBy_cons ?_ (by intro z;cases z)
 refine codeAny_handlers_test ?_;refine c7 (X:=mj X x) (Inv.Kk J2) hg hm ?_ Ġ;obtain⟨ox,odd,JI⟩:∃ ox od,InstAt s.heap x ox C od:=by
  obtain⟨ox,od,J,_⟩:=ia J2.É hx Ż;exact⟨ox,some od,J⟩
 refine jv J2.Ý cB.cls cB.ty cB.mb JI ť ?_;cases b with
 | false =>
  rw [if_neg (by decide)] at q
  exact hr pins s σ H D x C G q
 | true =>
  rw [if_pos rfl] at q;show codeAny _ _ _ _ _;refine codeAny_handlers_suite_as ?_;have h3:3<MP.size:=(Array.getElem?_eq_some_iff.mp f3).1;refine wpAny_setFlight_none LJ rfl rfl f1 f2 h3 ?_;have J3:Inv X pins σ H { s with heap:=s.heap.update T' (Obj.mapFields λ x=>x.setIfInBounds 3 Value.none) }:=by
   refine J2.kept (t':=s.toks) λ b u hb=>?_;by_cases z:b=T'
   ·subst z;have e:MO=u:=Option.some.inj (f1.symm.trans hb);subst e;rw [Heap.get?_update_self _ f1 (by rw [my f2];rfl),my f2,jo f3,<- f2]
   ·rw [Heap.get?_update_ne _ _ _ _ z];exact hb
  generalize ({ s with heap:=s.heap.update T' (Obj.mapFields λ x=>x.setIfInBounds 3 Value.none) }:Shared)=s3 at J3
  refine dI (X:=mj X x) (Inv.Kk J3) hN hi (.inl hk) (v:=V.ref x) (u:=Value.ref x) rfl (λ s4 I4=>?_) (.inr hk);refine wpAny_mono (hh x pins s4 _ H (oz D i) I4 q) (λ f s5 q5=>?_) (λ _ _ z=>False.elim z);exact qf J3.ok hN hi hk (SP.Ť J3.ok q5)
theorem zR {th:TS}{B:Addr}{cn:Str}{JC:Stmt}{ō:List Stmt}{pc ph:Pos}(cB:gs X.K B)(hg:Gl X cn)(hm:X.mg cn=some (.ref B))
  (hh:∀ x,ü (mj X x) (JC :: ō) th)(hr:BW X hs rest)(Ġ:(cn==("__debug__" : Str))=false:=by decide):BW X (.ExceptHandler (some (.Name cn pc)) none (JC :: ō) ph::hs) (HK X.K B th rest):=by
 intro pins s σ H D x C G h;obtain⟨b,ť,q⟩:=h;obtain⟨J2,⟨dx,fs,hx,Ż⟩,UX,t,T',MO,MP,LJ,f1,f2,f3⟩:=id G;refine wpAny_handleBy_cons ?_ (by intro z;cases z)
 refine codeAny_handlers_test ?_;refine c7 (X:=mj X x) (Inv.Kk J2) hg hm ?_ Ġ;obtain⟨ox,odd,JI⟩:∃ ox od,InstAt s.heap x ox C od:=by
  obtain⟨ox,od,J,_⟩:=ia J2.É hx Ż;exact⟨ox,some od,J⟩
 refine jv J2.Ý cB.cls cB.ty cB.mb JI ť ?_;cases b with
 | false =>
  rw [if_neg (by decide)] at q
  exact hr pins s σ H D x C G q
 | true =>
  rw [if_pos rfl] at q;show codeAny _ _ _ _ _;refine codeAny_handlers_suite ?_;have h3:3<MP.size:=(Array.getElem?_eq_some_iff.mp f3).1;refine wpAny_setFlight_none LJ rfl rfl f1 f2 h3 ?_;have J3:Inv X pins σ H { s with heap:=s.heap.update T' (Obj.mapFields λ x=>x.setIfInBounds 3 Value.none) }:=by
   refine J2.kept (t':=s.toks) λ b u hb=>?_;by_cases z:b=T'
   ·subst z;have e:MO=u:=Option.some.inj (f1.symm.trans hb);subst e;rw [Heap.get?_update_self _ f1 (by rw [my f2];rfl),my f2,jo f3,<- f2]
   ·rw [Heap.get?_update_ne _ _ _ _ z];exact hb
  generalize ({ s with heap:=s.heap.update T' (Obj.mapFields λ x=>x.setIfInBounds 3 Value.none) }:Shared)=s3 at J3
  refine wpAny_mono (hh x pins s3 _ H D (Inv.Kk J3) q) (λ f s5 q5=>?_) (λ _ _ z=>False.elim z);exact SP.Ť J3.ok q5
end
def tm (th:TH)(D:bA)(σ:St):XK:=λ c o H'=>∃ x C,c=.ref C/\o=some x/\th x C D σ H'
def tY (tb:XK->TS)(th:TH):TS:=λ D σ H=>tb (tm th D σ) D σ H
theorem ut {X:Cx}{st:Stmt}{tb:XK->TS}{th:TH}{h₀:ExceptHandler}{hs:List ExceptHandler}{pos:Pos}(hS:X.stack=X.env::X.outer)(hL:X.env.frame=some X.env.locals)
  (hb:∀(σ:St)(E:XK)(pn:List (Addr × Obj))(xe:Value->Shared->Prop),sX (cK X.prog X.w) (jk X pn xe) σ E->HH (jk X pn xe) σ st (tb E))(hh:BW X (h₀ :: hs) th):PS X (.Try [st] (h₀ :: hs) [] [] pos) (tY tb th):=by
 intro pins s σ H D I h;refine wpAny_Try_except ?_;have px:=hb σ (tm th D σ) (X.pn++pins) (λ e Ç=>wpAny (model X.prog X.w) X.A (noteFrame e X.env) (λ _ ï=>wpAny (model X.prog X.w) X.A (setFlight e none) (λ _ ď=>wpAny (model X.prog X.w) X.A (handleBy e X.env (h₀ :: hs)) (SP X pins D) X.xe ď) X.xe ï) X.xe Ç) ?_
 ·refine wpAny_execs_cons (aT (px [] s H D (Inv.JB I) h) λ f s1 q=>?_);cases f with
  | next=>exact wpAny_execs_nil (wpAny_execs_nil (SP.ý (f:=.next) q))
  | ret v=>exact SP.ý (f:=.ret v) q
  | brk=>exact SP.ý (f:=.brk) q
  | cont=>exact SP.ý (f:=.cont) q
 intro Ĵ H1 s1 ev s' I1 h1;obtain⟨x,C,dx,fs,H',rfl,os,bare,un,É,hx,Ż,⟨t,T,oT,ts,e1,e2,_,e4,e5,e6,e7⟩,x',C',ec,eo,q⟩:=h1;cases ec;cases eo;have J:Inv X pins σ H' s':=Inv.ý (I1.Ů os un É bare (λ b z=>absurd z (by simp)))
 have hA:X.A.frames=some (X.env::X.outer):=by rw [<- hS];exact J.ok.frames
 have hF:s'.heap.FunFrames X.base (X.env::X.outer):=by rw [<- hS];exact J.stack
 refine ju hA hF hL e1 rfl (.inr ⟨T,oT,ts,rfl,e2,e5,e6,e7⟩) λ h' T' l=>?_;refine l.JA rfl (by show 1<6;decide) _ rfl λ h2 l2=>?_
 have J2:=Inv.left J hS hx ⟨_,rfl⟩ e1 l2;rw [n9 hx] at J2;have LJ:h2.get? x=some (jJ C (some dx) t (.ref T')):=l2.exc;obtain⟨MO,MP,f1,f2,f3,f4⟩:=l2.Oe;exact hh pins _ σ H' D x C ⟨J2,⟨dx,fs,hx,Ż⟩,some dx,t,T',MO,MP,LJ,f1,f2,f3⟩ q
end My
namespace My
open PySem L2
section
variable {X:Cx}
theorem jU {A:Around}:A.in1.units=A.units+1:=rfl
def oX (K:PySem.W.Frag):V->List V->Hp->VK->Prop:=λ x vs H Q=>∃ l xs y,x=.ref l/\vs=[y]/\Ã K H l xs/\xs.all gm=true/\gm y=true/\Q (.int (xs.countP λ z=>oS z y:Nat)) H
theorem nq:Gd X "list.count" (oX X.K):=by
 intro pins s σ H x vs v us Q I rx rv h;obtain⟨l,xs,y,rfl,rfl,hl,f1,f2,q⟩:=h;cases rx;obtain⟨u,rfl,ru⟩:=dY rv;obtain⟨its,r,t,UY⟩:=I.list hl;obtain⟨⟨c,dd,dt,sl⟩,h1,hc,n,hd⟩:=t.isList;replace hc:c=.type "list" := hc;replace hd:dt=.seq its.toArray n:=hd;subst hc hd;refine call_meets F.slot_list_count ⟨_,h1,rfl⟩ F.entry_list_count (F.args_list_count_2 _ _) (SeqAt.list_countAt l its.toArray n dd sl u (λ z=>match zD z with | some a=>oS a y | none=>false)) ⟨h1,λ z hz=>?_,?_⟩
 ·obtain⟨i,hi,e⟩:=List.getElem_of_mem (show z∈its by simpa using hz)
  have k1:i<xs.length:=by rw [r.length];exact hi
  obtain⟨u1,e1,q1⟩:=r.get (List.getElem?_eq_getElem k1);rw [List.getElem?_eq_getElem hi,e] at e1;cases e1;rw [q1.abs];exact sD q1 ru (List.all_eq_true.mp f1 _ (List.getElem_mem k1)) f2
 ·refine⟨.int _,H,I.tok _,⟨_,rfl⟩,?_⟩;have z:its.toArray.toList.countP (λ z=>match zD z with | some a=>oS a y | none=>false)=xs.countP λ z=>oS z y:=by
   clear h1 t hl f1 q UY
   rw [List.toList_toArray]
   induction r with
   | nil=>rfl
   | cons q1 _ ih=>rw [List.countP_cons,List.countP_cons,ih,q1.abs]
  rw [z];exact q
end
end My
namespace My
open PySem PySem.W L2
open PyProof.Rows (Call_ boot_enumerate)
section
variable {X:Cx}{pins:List (Addr × Obj)}{σ:St}{H:Hp}{s:Shared}{h':Heap}
theorem uJ {t':Nat}{i1 i2:Addr}(I:Inv X pins σ H s)(k:∀ b o,b≠i1->b≠i2->s.heap.get? b=some o->h'.get? b=some o)(F1:dh X pins H i1)(F2:dh X pins H i2):Inv X pins σ H { s with heap:=h',toks:=t' }:=by
 obtain⟨n1,L1,_,a1,b1,c1⟩:=F1;obtain⟨n2,L2,_,a2,b2,c2⟩:=F2;have Sz:∀ b u,H b=some u->b≠i1:=λ b u e z=>by rw [z,n1] at e;cases e
 have SA:∀ b u,H b=some u->b≠i2:=λ b u e z=>by rw [z,n2] at e;cases e
 refine I.step (g':=s.gens) (d':=s.drawn) (ch:=[i1,i2]) (λ b hb=>?_) (λ b o _ _ hc e _=>k b o (λ z=>hc (by simp [z])) (λ z=>hc (by simp [z])) e) (λ b o _ _ hc e _=>⟨o.slots,k b o (λ z=>hc (by simp [z])) (λ z=>hc (by simp [z])) e⟩) (λ _ _ _ _ n=>n)
  (λ b o hc e=>⟨o,k b o (λ z=>hc (by simp [z])) (λ z=>hc (by simp [z])) e⟩) (λ _ _ e=>e) (λ _ _ _ e=>e) (λ b ps e=>⟨#[],by rw [e];simp⟩) (λ q=>q) (λ m hm=>?_) (λ b u e=>?_) I.bare
 ·have e:b=i1\/b=i2:=by simpa using hb
  rcases e with rfl | rfl
  ·exact⟨a1,L1,b1,c1⟩
  ·exact⟨a2,L2,b2,c2⟩
 ·obtain⟨o,es,ep,ho,r⟩:=hm;exact⟨o,es,ep,k _ o (Ne.symm L1) (Ne.symm L2) ho,r⟩
 ·refine(I.É b u e).ē (λ c v hc q=>k c v ?_ ?_ q) (λ _ q=>q) λ _ _ q=>q
  ·rcases hc with z | z
   ·rw [z];exact Sz b u e
   ·exact Sz c _ z
  ·rcases hc with z | z
   ·rw [z];exact SA b u e
   ·exact SA c _ z
end
theorem š {o:Obj}{vs:Array Value}(d:o.data=.fields vs):o.isFreed=false:=by
 obtain⟨c,dd,dt,sl⟩:=o;cases d;rfl
def xu (K:Frag)(a:Addr):It :=
 ⟨λ i H=>∃ xs x,Ã K H a xs/\xs[i]?=some x,λ i H x H'=>∃ p y,x=.ref p/\H p=none/\H'=ae H p (.tup [.int i,y])/\∀ xs,Ã K H a xs->xs[i]?=some y,λ i H=>∃ xs,Ã K H a xs/\xs.length<=i⟩
theorem qi {P:Program}{w:World}{K:Frag}{elts:List Expr} {x1}{pos:Pos}(a e it:Addr)(ne:e≠it):qP P w K (.Tuple elts x1 pos) (xu K a) [e,it] e (λ i h=>(∃ old,IsEnum h e it i old)/\h.IsListIter it a i) where
 mem:=by simp
 obj:=λ i h st b hb=>by
  obtain⟨⟨old,h1⟩,o,h2,c,d⟩:=st;have e:b=e\/b=it:=by simpa using hb
  rcases e with rfl | rfl
  ·exact⟨_,h1,λ v z=>by cases z⟩
  ·exact⟨o,h2,λ v z=>by rw [d] at z;cases z⟩
 keep:=λ i h h' st k=>⟨⟨_,k e (by simp) _ st.1.choose_spec⟩,st.2.at λ o z=>k it (by simp) o z⟩
 item:=by
  intro X hP hw hK hc i pins s σ H E I hf st hg;subst hP hw hK;obtain⟨xs,x,hq,hx⟩:=hg;obtain⟨its,rv,p,hz⟩:=I.list hq;obtain⟨u,hu,ru⟩:=rv.get hx;obtain⟨⟨old,he⟩,hi⟩:=st;have Fe:=hf e (by simp)
  have Fi:=hf it (by simp)
  refine wpAny_pyNext_enum_item he hi p.isList (x:=u) (by simpa using hu) ne λ h1 eo UZ ht Pt kk=>?_
  refine⟨_,rfl,wpAny_letOwnedTupleGo_enum (s:={ s with heap:=h1,toks:=s.toks+1 }) eo λ h2 KY sb=>?_⟩
  have KZ:Heap.SameBut e h1 h2:=sb;have ne2:s.heap.objs.size≠e:=Nat.ne_of_gt (Heap.lt_size he);have U4:h2.get? s.heap.objs.size=some { cls:=.type "tuple",data:=.seq #[.int i s.toks,u] }:=(KZ.2 _ ne2).trans ht;obtain⟨oi,SD,ci,di⟩:=hi;obtain⟨Pu,Pw,U5,SE⟩:=id UZ;have MQ:h2.get? it=some Pu:=(KZ.2 _ (Ne.symm ne)).trans Pw
  let hA:Heap:=(s.heap.update e λ _=>{ cls:=.type "enumerate",dict:=none,data:=.fields #[.none,.bool false,.ref it,rawInt ((i:Int)+1),.none,u],slots:=#[] }).update it λ _=>Pu
  have IA:Inv X pins σ H { s with heap:=hA,toks:=s.toks }:=uJ I (λ b o z1 z2 q=>by
   show hA.get? b=some o;rw [Heap.get?_update_ne _ _ _ _ z2,Heap.get?_update_ne _ _ _ _ z1];exact q) Fe Fi
  have U6:hA.objs.size=s.heap.objs.size:=by
   show((s.heap.update e _).update it _).objs.size=_;rw [Heap.size_update,Heap.size_update]
  refine⟨.ref s.heap.objs.size,ae H s.heap.objs.size (.tup [.int i,x]),?_,rfl,⟨_,x,rfl,I.É.fresh (Nat.le_refl _),rfl,λ ys hy=>by rw [I.ğ hy hq];exact hx⟩,⟨⟨u,KY⟩,Pu,MQ,U5,SE⟩,λ b hb=>?_⟩
  ·refine IA.laid (t':=s.toks+1) (λ b v q=>?_) (Nat.le_of_eq U6) ?_
   ·have q':hA.get? b=some v:=q;by_cases z2:b=it
    ·subst z2;have hg:(s.heap.update e λ _=>{ cls:=.type "enumerate",dict:=none,data:=.fields #[.none,.bool false,.ref b,rawInt ((i:Int)+1),.none,u],slots:=#[] }).get? b=some oi:=by
      rw [Heap.get?_update_ne _ _ _ _ (Ne.symm ne)];exact SD
     rw [Heap.get?_update_self _ hg (š SE)] at q';cases q';exact MQ
    ·rw [Heap.get?_update_ne _ _ _ _ z2] at q';by_cases z1:b=e
     ·subst z1;rw [Heap.get?_update_self _ he rfl] at q';cases q';exact KY
     ·rw [Heap.get?_update_ne _ _ _ _ z1] at q';exact(KZ.2 b z1).trans (kk b v z1 z2 q')
   ·exact⟨by show 2<=sizeLine;decide,[.int i s.toks,u],.cons ⟨_,rfl⟩ (.cons ru .nil),⟨_,U4,rfl,_,rfl⟩⟩
  ·have nb:b≠s.heap.objs.size:=by
    have e':b=e\/b=it:=by simpa using hb
    rcases e' with rfl | rfl
    ·exact Nat.ne_of_lt (Heap.lt_size he)
    ·exact Nat.ne_of_lt (Heap.lt_size SD)
   rw [ag nb];exact(hf b hb).1
 done:=by
  intro X hP hw hK hc i pins s σ H E I hf st hg;subst hP hw hK;obtain⟨xs,hq,hx⟩:=hg;obtain⟨its,rv,p,hz⟩:=I.list hq;obtain⟨⟨old,he⟩,hi⟩:=st;obtain⟨f0,f1,f2,f3,f4,f5⟩:=hf it (by simp)
  have hl:=rv.length;exact wpAny_pyNext_enum_end (I.ok.hd hc) he hi p.isList (by simp;omega) λ h' eb=>⟨rfl,I.turned (t':=s.toks) (λ b o hb e=>eb b o hb e) f0 f1 f3 f4 f5⟩
 self:=λ _ _ _ _ _ st h=>wpAny_pyIter_enum st.1.choose_spec h
section
variable {X:Cx}
def lV (K:Frag)(ta:TA):TI:=λ σ H R=>ta σ H λ vs H1=>∃ a,vs=[.ref a]/\(∃ xs,Ã K H1 a xs)/\R (xu K a) H1
theorem f6 {elts:List Expr} {x1}{pt:Pos}{a:Expr}{ta:TA}{p pos:Pos}(hg:Gl X "enumerate")(hm:X.mg "enumerate" = none)(ha:PA X [a] ta)(hs:starEach [a] X.env=[(false,eval a X.env)]:=by rfl):PI X (.Tuple elts x1 pt) (.Call (.Name "enumerate" p) [a] [] pos) (lV X.K ta):=by
 intro pins s σ H R I h;refine Call_ (gB I hg hm boot_enumerate (PyProof.Rows.callWith_type1 (aT (ha pos pins s σ H _ I h) λ us s1 ⟨vs,H1,I1,r1,q1⟩=>?_) hs rfl));obtain⟨l,rfl,⟨xs,hq⟩,q⟩:=q1;cases r1 with
 | cons r rr =>
  cases rr;cases r;obtain⟨its,rv,p',hz⟩:=I1.list hq;refine call_enumerate_list p'.isList λ h' he hi hsz kk=>?_;refine wpAny_pyIter_enum he ?_;refine⟨s1.heap.objs.size+1,[s1.heap.objs.size+1,s1.heap.objs.size],_,_,H1,rfl,I1.kept (t':=s1.toks) kk,qi l _ _ (Nat.succ_ne_self _),⟨⟨_,he⟩,hi⟩,λ b hb=>?_,q⟩;have e:b=s1.heap.objs.size+1\/b=s1.heap.objs.size:=by simpa using hb
  have le:s1.heap.objs.size<=b:=by
   rcases e with rfl | rfl
   ·exact Nat.le_succ _
   ·exact Nat.le_refl _
  exact I1.Jq le (I1.É.fresh le)
end
theorem fW {K:Frag}{a:Addr}{xs:List V}{g:TG}{tb:TS}{D:bA}{σ:St}{H:Hp}(Pv:Nat->St->Hp->Prop)(h0:Pv 0 σ H)(hl:∀ i σ H,i<=xs.length->Pv i σ H->Ã K H a xs)
  (hs:∀ i x σ H p,xs[i]?=some x->Pv i σ H->H p=none->g (.ref p) σ (ae H p (.tup [.int i,x])) λ Ù H2=>tb { D with nx:=Pv (i+1),ct:=Pv (i+1),bk:=D.nx } Ù H2)(hd:∀ σ H,Pv xs.length σ H->D.nx σ H) :
  ∃ W:Nat->Nat->St->Hp->Prop,(∃ m,W 0 m σ H)/\∀ i m σ H,W i m σ H ->
   ((xu K a).stop i H/\D.nx σ H)\/((xu K a).go i H/\∃ N:St->Hp->Prop,(∀ Ï H',N Ï H'->∃ m',m'<m/\W (i+1) m' Ï H')/\∀ x H',(xu K a).Ŋ i H x H'->g x σ H' λ Ù H2=>tb { D with nx:=N,ct:=N,bk:=D.nx } Ù H2):=by
 refine⟨λ i m σ H=>m=xs.length-i/\i<=xs.length/\Pv i σ H,⟨xs.length,by simp,Nat.zero_le _,h0⟩,?_⟩
 rintro i m σ H ⟨rfl,hi,p⟩;have q:=hl i σ H hi p;by_cases þ:i<xs.length
 ·refine .inr ⟨⟨xs,xs[i],q,List.getElem?_eq_getElem þ⟩,Pv (i+1),λ Ï H' n=>⟨xs.length-(i+1),by omega,rfl,þ,n⟩,?_⟩
  rintro x H' ⟨p',y,rfl,hp,rfl,hy⟩;exact hs i y σ H p' (hy xs q) p hp
 ·have e:i=xs.length:=by omega
  subst e;exact .inl ⟨⟨xs,q,Nat.le_refl _⟩,hd σ H p⟩
end My
namespace My
open PySem L2
section
variable {prog:Program}{w:World}{A:Around}{R:Result->Shared->Prop}{s:Shared}
theorem gZ {elt target iter:Expr}{scope:Scope}{pos:Pos}{it acc:Value}{env:Env}(J:Nat->Shared->Prop)
  (turn:∀ n s,J n s->wpAny (model prog w) A (pyNext it) (λ r Ç=>match r with
   | none=>R (.ok .next) Ç
   | some v=>wpAny (model prog w) A (letOwnedTupleGo target it v) (λ _ ï=>wpAny (model prog w) A (assign target env v) (λ _ ď=>wpAny (model prog w) A (eval elt env)
     (λ x Ŏ=>wpAny (model prog w) A (call (.builtin "list.append") [acc,x]) (λ _ ŏ=>∃ m,m<n/\J m ŏ) (λ _ _=>False) Ŏ) (λ _ _=>False) ď) (λ _ _=>False) ï) (λ _ _=>False) Ç) (λ _ _=>False) s)
  (n:Nat)(h:J n s):codeAny (model prog w) A (.compLoop (.ListComp elt [⟨target,iter,[],0⟩] scope pos) 0 it acc env) R s:=by
 refine codeAny_loop rfl J (λ n s hJ=>?_) n h;show wpAny _ _ (Sem.onRaise (compTurn (.ListComp elt [⟨target,iter,[],0⟩] scope pos) 0 it acc env) (λ x=>do noteFrame x env;theTreesLotGoes x)) _ _ s
 refine wpAny_noted ?_;rw [compTurn_list1];refine wpAny_bind (wpAny_standAt (wpAny_bind (wpAny_mono (turn n s hJ) (λ r Ç Ü=>?_) λ _ _ z=>z.elim)));cases r with
 | none=>exact wpAny_pure Ü
 | some v =>
  refine wpAny_bind (wpAny_mono Ü (λ _ ï ļ=>?_) λ _ _ z=>z.elim);refine wpAny_bind (wpAny_mono ļ (λ _ ď ţ=>?_) λ _ _ z=>z.elim);refine wpAny_bind (wpAny_bind (wpAny_mono ţ (λ x Ŏ JD=>?_) λ _ _ z=>z.elim));refine wpAny_bind (wpAny_mono JD (λ _ ŏ JE=>wpAny_pure (wpAny_pure ⟨rfl,JE⟩)) λ _ _ z=>z.elim)
end
def bv (X:Cx)(sc:Scope)(cl:List (Str × Addr))(N:List Str)(s:Shared)(H:Hp)(C:Addr)(fp:List Addr):Cx where
 prog:=X.prog
 w:=X.w
 K:=X.K
 mg:=X.mg
 base:=X.base
 A:=X.A
 N:=N
 ã:=s
 ŵ:=H
 env:=compEnvC sc cl C X.env
 outer:=X.stack
 stack:=X.stack
 ex:=fp
 fn:=λ _=>false
 calm:=X.calm
 pn:=[]
 xe:=λ _ _=>False
def cJ (js:List Nat)(σ:St):St:=js.map λ j=>(σ[j]?).join
section
variable {prog:Program}{w:World}{A:Around}{R:Result->Shared->Prop}{s:Shared}
theorem oZ {elt target iter c:Expr}{scope:Scope}{pos:Pos}{it acc:Value}{env:Env}(J:Nat->Shared->Prop)
  (turn:∀ n s,J n s->wpAny (model prog w) A (pyNext it) (λ r Ç=>match r with
   | none=>R (.ok .next) Ç
   | some v=>wpAny (model prog w) A (letOwnedTupleGo target it v) (λ _ ï=>wpAny (model prog w) A (assign target env v) (λ _ ď=>wpAny (model prog w) A (isTrue c env (eval c env)) (λ k ã =>
     (k=false->∃ m,m<n/\J m ã)/\(k=true->wpAny (model prog w) A (eval elt env)
     (λ x Ŏ=>wpAny (model prog w) A (call (.builtin "list.append") [acc,x]) (λ _ ŏ=>∃ m,m<n/\J m ŏ) (λ _ _=>False) Ŏ) (λ _ _=>False) ã)) (λ _ _=>False) ď) (λ _ _=>False) ï) (λ _ _=>False) Ç) (λ _ _=>False) s)
  (n:Nat)(h:J n s):codeAny (model prog w) A (.compLoop (.ListComp elt [⟨target,iter,[c],0⟩] scope pos) 0 it acc env) R s:=by
 refine codeAny_loop rfl J (λ n s hJ=>?_) n h;show wpAny _ _ (Sem.onRaise (compTurn (.ListComp elt [⟨target,iter,[c],0⟩] scope pos) 0 it acc env) (λ x=>do noteFrame x env;theTreesLotGoes x)) _ _ s
 refine wpAny_noted ?_;rw [compTurn_list];refine wpAny_bind (wpAny_standAt (wpAny_bind (wpAny_mono (turn n s hJ) (λ r Ç Ü=>?_) λ _ _ z=>z.elim)));cases r with
 | none=>exact wpAny_pure Ü
 | some v =>
  refine wpAny_bind (wpAny_mono Ü (λ _ ï ļ=>?_) λ _ _ z=>z.elim);refine wpAny_bind (wpAny_mono ļ (λ _ ď ţ=>?_) λ _ _ z=>z.elim);refine wpAny_bind (wpAny_tests_one (wpAny_mono ţ (λ k ã h₀=>?_) λ _ _ z=>z.elim));cases k with
  | false=>exact wpAny_pure ⟨rfl,h₀.1 rfl⟩
  | true =>
   refine wpAny_bind (wpAny_bind (wpAny_mono (h₀.2 rfl) (λ x Ŏ JD=>?_) λ _ _ z=>z.elim));refine wpAny_bind (wpAny_mono JD (λ _ ŏ JE=>wpAny_pure (wpAny_pure ⟨rfl,JE⟩)) λ _ _ z=>z.elim)
end
structure bu (X:Cx)(sc:Scope)(cl:List (Str × Addr))(ts zs:List Str)(js:List Nat):Prop where
 Ď:closureFor sc X.env=pure cl
 kind:sc.kind=.function
 ľ:∀ y∈sc.names,y.2 ≠ .cell
 names:∀ y∈sc.names,y.2=.local->sc.names.lookup y.1=some .local
 var:∀ x∈ts,sc.names.lookup x=some .local
 sub:∀ z c,cl.lookup z=some c->X.env.cells.lookup z=some c
 has:∀ z,((relabel sc X.env).names.lookup z=some .cell\/(relabel sc X.env).names.lookup z=some .free)->∃ c,cl.lookup z=some c
 nd:(ts++zs).Nodup
 cap:∀(k:Nat)(z:Str),zs[k]?=some z->∃ j:Nat,js[k]?=some j/\X.N[j]?=some z/\w4 X.env.scope z/\X.env.kindOf z≠some .local /\
  ((relabel sc X.env).names.lookup z=some .cell\/(relabel sc X.env).names.lookup z=some .free)
 len:js.length=zs.length
def eG (wi:TI)(k:Nat)(js:List Nat)(g:TG)(te:TE):TE:=λ σ H Q=>wi σ H λ J H1=>∀ D,H1 D=none->∃ W:Nat->Nat->List V->Hp->Prop,(∃ m,W 0 m [] (ae H1 D (.lst []))) /\
 ∀ i m ys H2,W i m ys H2->H2 D=some (.lst ys)/\((J.stop i H2/\Q (.ref D) H2)\/(J.go i H2/\ys.length<sizeLine /\
  ∀ x H3,J.Ŋ i H2 x H3->∀ os:St,os.length=k->g x (os++cJ js σ) H3 λ Ù H0=>(∃ ß:St,ß.length=k/\Ù = ß ++ cJ js σ)/\te Ù H0 λ y H4=>H4 D=some (.lst ys)/\∃ m',m'<m/\W (i+1) m' (ys ++ [y]) (ae H4 D (.lst (ys ++ [y])))))
def i8 (wi:TI)(k:Nat)(js:List Nat)(g:TG)(tt:TT)(te:TE):TE:=λ σ H Q=>wi σ H λ J H1=>∀ D,H1 D=none->∃ W:Nat->Nat->List V->Hp->Prop,(∃ m,W 0 m [] (ae H1 D (.lst []))) /\
 ∀ i m ys H2,W i m ys H2->H2 D=some (.lst ys)/\((J.stop i H2/\Q (.ref D) H2)\/(J.go i H2/\ys.length<sizeLine /\
  ∀ x H3,J.Ŋ i H2 x H3->∀ os:St,os.length=k->g x (os++cJ js σ) H3 λ Ù H0=>(∃ ß:St,ß.length=k/\Ù = ß ++ cJ js σ)/\tt Ù H0 λ b H5=>(b=false->∃ m',m'<m/\W (i+1) m' ys H5) /\
   (b=true->te Ù H5 λ y H4=>H4 D=some (.lst ys)/\∃ m',m'<m/\W (i+1) m' (ys ++ [y]) (ae H4 D (.lst (ys ++ [y]))))))
section
variable {X:Cx}{pins:List (Addr × Obj)}{σ:St}{H:Hp}{s:Shared}{sc:Scope}{cl:List (Str × Addr)}{ts zs:List Str}{js:List Nat}{C:Addr}{fp:List Addr}
theorem sr (I:Inv X pins σ H s)(S:bu X sc cl ts zs js)(hf:∀ b∈fp,dh X pins H b/\b<s.heap.objs.size)(hC:s.heap.objs.size<=C):(bv X sc cl (ts++zs) s H C fp).Ok:=by
 refine⟨I.ok.mod,S.kind,I.ok.glob,I.ok.blt,hC,λ y z c h1 h2=>I.ok.inj y z c (S.sub _ _ h1) (S.sub _ _ h2),λ z h=>S.has z h,(λ _ _ h=>nomatch h),I.ok.hd,I.ok.frames,.inl rfl,λ b hb=>?_,I.bs,?_,λ b o e hb=>?_,λ b hb hs=>?_,I.stack,I.Ě⟩
 ·obtain⟨⟨_,h1,_,_,h4,_⟩,h6⟩:=hf b hb;exact⟨λ e=>absurd h6 (Nat.not_lt.mpr (by rw [show b=C from e];exact hC)),λ z c e=>h4 z c (S.sub _ _ e)⟩
 ·exact Nat.le_trans I.ok.Ŭ I.sz
 ·obtain⟨⟨_,_,_,h3,_⟩,_⟩:=hf b hb;rcases h3 with h | h
  ·exact I.ok.Ļ b o e h
  ·exact absurd (Heap.lt_size e) (Nat.not_lt.mpr (Nat.le_trans I.ok.Ŭ h))
 ·obtain⟨⟨_,h1,h2,_⟩,_⟩:=hf b hb;rcases List.mem_cons.mp (I.î b hs) with e | e
  ·exact h1 e
  ·exact h2 e
theorem dW {s1:Shared}(I:Inv X pins σ H s)(S:bu X sc cl ts zs js)(hf:∀ b∈fp,dh X pins H b/\b<s.heap.objs.size)(hC:s.heap.objs.size<=C)(ho:s1.os=s.os)(hg:s1.gens=s.gens)
  (hk:∀ b o,s.heap.get? b=some o->s1.heap.get? b=some o){m:Str->Option Value}(hn:s1.heap.Ns C m):Inv (bv X sc cl (ts++zs) s H C fp) [] (List.replicate ts.length none++cJ js σ) H s1:=by
 refine⟨sr I S hf hC,ho,by rw [hg];exact I.bare,Un.kept hk,⟨m,hn,λ i y v h1 h2 h3=>?_⟩,λ z c e=>?_,I.É.fresh hC,λ z c e=>I.è z c (S.sub _ _ e),λ p hp=>absurd (show p∈([]:List (Addr × Obj)) from hp) (by simp),I.É.kept hk,?_⟩
 ·rcases Nat.lt_or_ge i ts.length with lt | ge
  ·rw [List.getElem?_append_left (by rw [List.length_replicate];exact lt),List.getElem?_replicate,if_pos lt] at h2
   cases h2
  ·have h1':zs[i-ts.length]?=some y:=by
    have JF:(ts++zs)[i]?=some y:=h1;rw [List.getElem?_append_right ge] at JF;exact JF
   obtain⟨j,hj,hN,hv,nl,k'⟩:=S.cap _ y h1';have LK:(cJ js σ)[i-ts.length]?=some (some v):=by
    rw [List.getElem?_append_right (by rw [List.length_replicate];exact ge),List.length_replicate] at h2
    exact h2
   have h5:σ[j]?=some (some v):=by
    unfold cJ at LK;rw [List.getElem?_map,hj] at LK;have h6:(σ[j]?).join=some v:=Option.some.inj LK;cases e:σ[j]? with
    | none=>rw [e] at h6;cases h6
    | some o=>rw [e] at h6;exact congrArg some h6
   obtain⟨m0,U7,hl⟩:=I.loc;obtain⟨u,ru,lk⟩:=hl j y v hN h5 hv;refine⟨u,ru,?_⟩;rcases lk with⟨k1,_⟩ | ⟨_,c,ec,hc⟩
   ·exact absurd k1 nl
   ·obtain⟨c',MR⟩:=S.has y k';have e2:=S.sub _ _ MR;rw [ec] at e2;cases e2;exact .inr ⟨k',c,MR,hc.keeps hk⟩
 ·obtain⟨v,hv⟩:=I.cell z c (S.sub _ _ e);exact⟨v,hv.keeps hk⟩
 ·show(List.replicate ts.length none++cJ js σ:St).length=(ts++zs).length;unfold cJ;rw [List.length_append,List.length_append,List.length_map,List.length_replicate,S.len]
theorem gk {s1:Shared}{Ï:St}{H':Hp}{h':Heap}(I:Inv X pins σ H s)(hf:∀ b∈fp,dh X pins H b/\b<s.heap.objs.size)(hC:s.heap.objs.size<=C)(J:Inv (bv X sc cl (ts++zs) s H C fp) [] Ï H' s1)
  (hs:Heap.SameBut C s1.heap h'):Inv X pins σ H' { s1 with heap:=h' }:=by
 have old:∀ b o,s1.heap.get? b=some o->b≠C->h'.get? b=some o:=λ b o e n=>(hs.2 b n).trans e;have lt:∀{b o},s.heap.get? b=some o->b≠C:=λ {b o} e z=>by
  have q:=Heap.lt_size e;rw [z] at q;exact absurd q (Nat.not_lt.mpr hC)
 have B:=J.base;refine I.Ů (s':={ s1 with heap:=h' }) (ch:=fp) J.os ⟨λ b o e n hb hx=>old b o (B.keep b o e n hb hx) (lt e),λ b o e n hb hx=>?_,B.free,λ b o e hx=>?_,B.Ĝ,B.Ĕ,B.ĝ,B.sys⟩ (λ b o e=>?_) J.bare λ b hb=>?_
 ·obtain⟨sl,q⟩:=B.slot b o e n hb hx;exact⟨sl,old _ _ q (lt e)⟩
 ·obtain⟨o',q⟩:=B.there b o e hx;exact⟨o',old _ _ q (lt e)⟩
 ·have nC:∀ c u,H' c=some u->c≠C:=λ c u q z=>by
   have f:H' C=none:=J.free;rw [z,f] at q;cases q
  refine(J.É b o e).ē (λ c v hc q=>old c v q ?_) (λ _ q=>q) λ _ _ q=>q;rcases hc with rfl | hc
  ·exact nC _ _ e
  ·exact nC _ _ hc
 ·obtain⟨⟨_,h1,_,h3,h4,h5⟩,_⟩:=hf b hb;exact⟨h3,h1,h4,h5⟩
variable {elt iter:Expr}{pos:Pos}{tg:Expr}{g:TG}{wi:TI}{te:TE}
theorem cR (hc:X.calm=true)(S:bu X sc cl ts zs js)(hi:PI X tg iter wi)(hg:∀ s H C fp,PG (bv X sc cl (ts++zs) s H C fp) tg g)(he:∀ s H C fp,PE (bv X sc cl (ts++zs) s H C fp) elt te)
  (hs:∀ v,foldedSetIterable iter X.env v=pure v:=by intro _;rfl):PE X (.ListComp elt [⟨tg,iter,[],0⟩] sc pos) (eG wi ts.length js g te):=by
 intro pins s σ H Q I h;rw [eval_ListComp];refine wpAny_comprehension_free (use:=none) rfl hs S.Ď S.kind S.names (aT (hi pins s σ H _ I h) λ v s1 h1=>aT h1 λ LA s2 h2=>?_);obtain⟨it,fp,tn,J,H2,e,I2,T,Į,f2,body⟩:=h2;subst e;have Kl:H2 s2.heap.objs.size=none:=I2.fresh;obtain⟨W,⟨m0,w0⟩,turn⟩:=body _ Kl;refine wpAny_newObj_type ?_;have I3:Inv X pins σ (ae H2 s2.heap.objs.size (.lst [])) { s2 with heap:=s2.heap.push { cls:=.type "list",data:=.seq ([]:List Value).toArray } }:=I2.Kg (t':=s2.toks) (ys:=[]) (its:=[]) .nil (Nat.zero_le _)
 refine wpAny_newFunctionEnv S.ľ (by intro y hy;simp at hy) (λ Ü hn Ű=>?_) S.kind
 generalize Ŀ:({ s2 with heap:=s2.heap.push { cls:=.type "list",data:=.seq ([]:List Value).toArray } }:Shared)=s3 at I3 hn Ű ⊢
 have ě:∀ b∈fp,dh X pins (ae H2 s2.heap.objs.size (.lst [])) b/\b<s3.heap.objs.size:=λ b hb=>by
  obtain⟨o,ho,_⟩:=T.obj _ _ Į b hb;have hl:=Heap.lt_size ho;have Km:b≠s2.heap.objs.size:=Nat.ne_of_lt hl;obtain⟨z1,z2⟩:=f2 b hb;refine⟨⟨by rw [ag Km];exact z1,z2⟩,?_⟩
  rw [<- Ŀ];show b<(s2.heap.push _).objs.size;rw [Heap.size_push];exact Nat.lt_succ_of_lt hl
 have old:∀ b o,s3.heap.get? b=some o->Ü.get? b=some o:=λ b o e=>Ű.extBut b o (Nat.ne_of_lt (Heap.lt_size e)) (Heap.get?_push_of_some _ e);have loop:∀ sS:Shared,sS.heap = Ü->sS.os=s3.os->sS.gens=s3.gens->codeAny (model X.prog X.w) X.A (.compLoop (.ListComp elt [⟨tg,iter,[],0⟩] sc pos) 0 (.ref it) (.ref s2.heap.objs.size) (compEnvC sc cl s3.heap.objs.size X.env))
   (compPost (model X.prog X.w) X.A X.xe none (EP X pins σ Q) (.ref s2.heap.objs.size) s3.heap.objs.size) sS:=by
  intro sS eh eo eg;subst eh;have J0:Inv (bv X sc cl (ts++zs) s3 (ae H2 s2.heap.objs.size (.lst [])) s3.heap.objs.size fp) [] (List.replicate ts.length none++cJ js σ) (ae H2 s2.heap.objs.size (.lst [])) sS:=dW I3 S ě (Nat.le_refl _) eo eg old hn;generalize hX:bv X sc cl (ts++zs) s3 (ae H2 s2.heap.objs.size (.lst [])) s3.heap.objs.size fp=X' at J0;have ê:∀{H':Hp},(∀ b∈fp,H' b=none)->∀ b∈fp,dh X' [] H' b:=λ {H'} hn b hb=>by
   subst hX;obtain⟨⟨_,z1,z2,z3,z4,z5⟩,z6⟩:=ě b hb;refine⟨hn b hb,Nat.ne_of_lt z6,λ q=>?_,.inl hb,λ y c e=>z4 y c (S.sub _ _ e),λ p hp=>absurd (show p∈([]:List (Addr × Obj)) from hp) (by simp)⟩
   rcases List.mem_cons.mp (I3.î b q) with e | e
   ·exact z1 e
   ·exact z2 e
  have Je:tn 0 sS.heap:=T.keep _ _ _ Į λ b hb o e=>old b o (by rw [<- Ŀ];exact Heap.get?_push_of_some _ e)
  refine gZ (λ n s'=>∃ i ys os H',os.length=ts.length/\Inv X' [] (os++cJ js σ) H' s'/\tn i s'.heap/\(∀ b∈fp,H' b=none)/\W i n ys H') ?_ m0 ⟨0,[],_,_,List.length_replicate,J0,Je,λ b hb=>(ě b hb).1.1,w0⟩;rintro n s' ⟨i,ys,os,H',á,Iv,st,fr,w⟩;obtain⟨hD,alt⟩:=turn i n ys H' w;have eP:X'.prog=X.prog:=by subst hX;rfl
  have eW:X'.w=X.w:=by subst hX;rfl
  have eK:X'.K=X.K:=by subst hX;rfl
  have eC:X'.calm=true:=by subst hX;exact hc
  have eA:X'.A=X.A:=by subst hX;rfl
  have eE:X'.env=compEnvC sc cl s3.heap.objs.size X.env:=by subst hX;rfl
  have eX:X'.xe = λ _ _=>False:=by subst hX;rfl
  rcases alt with⟨stop,q⟩ | ⟨go,hlen,step⟩
  ·have d:=T.done X' eP eW eK eC i [] s' _ H' (λ _ _=>False) Iv (ê fr) st stop;rw [eA] at d;refine aT d λ r s4 ⟨hr,I4⟩=>?_;subst hr;obtain⟨m,hm,_⟩:=id I4.loc;rw [eE] at hm;subst hX;exact⟨m,hm,λ h' JG=>⟨.ref s2.heap.objs.size,H',gk I3 ě (Nat.le_refl _) I4 JG,rfl,q⟩⟩
  ·have d:=T.item X' eP eW eK eC i [] s' _ H' (λ _ _=>False) Iv (ê fr) st go;rw [eA] at d;refine aT d λ r s4 ⟨u,hr,h4⟩=>?_;subst hr;refine aT h4 λ _ s5 ⟨y,H5,I5,r5,y5,ĕ,Jr⟩=>?_;have Js:=I5.pinned (ê Jr) (T.obj _ _ ĕ);have Kn:PG X' tg g:=by subst hX;exact hg _ _ _ _
   have g6:=Kn _ s5 _ H5 y u _ Js r5 (step y H5 y5 os á);rw [eP,eW,eA,eE,eX] at g6;refine aT g6 λ _ s6 ⟨Mg,H6,I6,⟨ß,į,e6⟩,Ko⟩=>?_;subst e6;have LL:PE X' elt te:=by subst hX;exact he _ _ _ _
   have g7:=LL _ s6 _ H6 _ I6 Ko;rw [eP,eW,eA,eE,eX] at g7;refine aT g7 λ uv s7 ⟨v7,H7,I7,r7,LM,m',ť,w7⟩=>?_;have g8:=(bh (X:=X')) _ s7 _ H7 (.ref s2.heap.objs.size) [v7] (.ref s2.heap.objs.size) [uv] (λ _ H8=>H8=ae H7 s2.heap.objs.size (.lst (ys ++ [v7]))) I7 rfl (.cons r7 .nil) ⟨_,ys,v7,rfl,rfl,LM,hlen,rfl⟩;rw [eP,eW,eA,eX] at g8;refine aT g8 λ _ s8 ⟨_,H8,I8,_,e8⟩=>?_;subst e8;refine⟨m',ť,i+1,ys ++ [v7],ß,_,į,I8.à,T.keep _ _ _ ĕ λ b hb o e=>(I8.pin (b,o) (List.mem_append_right _ (List.mem_append_right _ (aZ hb e)))).1,λ b hb=>?_,w7⟩;obtain⟨o',e',_⟩:=T.obj _ _ ĕ b hb;exact(I8.pin (b,o') (List.mem_append_right _ (List.mem_append_right _ (aZ hb e')))).2.1
 have Jg:tn 0 Ü:=T.keep _ _ _ Į λ b hb o e=>old b o (by rw [<- Ŀ];exact Heap.get?_push_of_some _ e)
 exact codeAny_compStart_list (loop _ rfl rfl rfl) (T.self _ 0 _ _ _ Jg (loop _ rfl rfl rfl))
variable {c:Expr}{tt:TT}
theorem gS (hc:X.calm=true)(S:bu X sc cl ts zs js)(hi:PI X tg iter wi)(hg:∀ s H C fp,PG (bv X sc cl (ts++zs) s H C fp) tg g)(ht:∀ s H C fp,PT (bv X sc cl (ts++zs) s H C fp) c tt)(he:∀ s H C fp,PE (bv X sc cl (ts++zs) s H C fp) elt te)
  (hs:∀ v,foldedSetIterable iter X.env v=pure v:=by intro _;rfl):PE X (.ListComp elt [⟨tg,iter,[c],0⟩] sc pos) (i8 wi ts.length js g tt te):=by
 intro pins s σ H Q I h;rw [eval_ListComp];refine wpAny_comprehension_free (use:=none) rfl hs S.Ď S.kind S.names (aT (hi pins s σ H _ I h) λ v s1 h1=>aT h1 λ LA s2 h2=>?_);obtain⟨it,fp,tn,J,H2,e,I2,T,Į,f2,body⟩:=h2;subst e;have Kl:H2 s2.heap.objs.size=none:=I2.fresh;obtain⟨W,⟨m0,w0⟩,turn⟩:=body _ Kl;refine wpAny_newObj_type ?_;have I3:Inv X pins σ (ae H2 s2.heap.objs.size (.lst [])) { s2 with heap:=s2.heap.push { cls:=.type "list",data:=.seq ([]:List Value).toArray } }:=I2.Kg (t':=s2.toks) (ys:=[]) (its:=[]) .nil (Nat.zero_le _)
 refine wpAny_newFunctionEnv S.ľ (by intro y hy;simp at hy) (λ Ü hn Ű=>?_) S.kind
 generalize Ŀ:({ s2 with heap:=s2.heap.push { cls:=.type "list",data:=.seq ([]:List Value).toArray } }:Shared)=s3 at I3 hn Ű ⊢
 have ě:∀ b∈fp,dh X pins (ae H2 s2.heap.objs.size (.lst [])) b/\b<s3.heap.objs.size:=λ b hb=>by
  obtain⟨o,ho,_⟩:=T.obj _ _ Į b hb;have hl:=Heap.lt_size ho;have Km:b≠s2.heap.objs.size:=Nat.ne_of_lt hl;obtain⟨z1,z2⟩:=f2 b hb;refine⟨⟨by rw [ag Km];exact z1,z2⟩,?_⟩
  rw [<- Ŀ];show b<(s2.heap.push _).objs.size;rw [Heap.size_push];exact Nat.lt_succ_of_lt hl
 have old:∀ b o,s3.heap.get? b=some o->Ü.get? b=some o:=λ b o e=>Ű.extBut b o (Nat.ne_of_lt (Heap.lt_size e)) (Heap.get?_push_of_some _ e);have loop:∀ sS:Shared,sS.heap = Ü->sS.os=s3.os->sS.gens=s3.gens->codeAny (model X.prog X.w) X.A (.compLoop (.ListComp elt [⟨tg,iter,[c],0⟩] sc pos) 0 (.ref it) (.ref s2.heap.objs.size) (compEnvC sc cl s3.heap.objs.size X.env))
   (compPost (model X.prog X.w) X.A X.xe none (EP X pins σ Q) (.ref s2.heap.objs.size) s3.heap.objs.size) sS:=by
  intro sS eh eo eg;subst eh;have J0:Inv (bv X sc cl (ts++zs) s3 (ae H2 s2.heap.objs.size (.lst [])) s3.heap.objs.size fp) [] (List.replicate ts.length none++cJ js σ) (ae H2 s2.heap.objs.size (.lst [])) sS:=dW I3 S ě (Nat.le_refl _) eo eg old hn;generalize hX:bv X sc cl (ts++zs) s3 (ae H2 s2.heap.objs.size (.lst [])) s3.heap.objs.size fp=X' at J0;have ê:∀{H':Hp},(∀ b∈fp,H' b=none)->∀ b∈fp,dh X' [] H' b:=λ {H'} hn b hb=>by
   subst hX;obtain⟨⟨_,z1,z2,z3,z4,z5⟩,z6⟩:=ě b hb;refine⟨hn b hb,Nat.ne_of_lt z6,λ q=>?_,.inl hb,λ y c e=>z4 y c (S.sub _ _ e),λ p hp=>absurd (show p∈([]:List (Addr × Obj)) from hp) (by simp)⟩
   rcases List.mem_cons.mp (I3.î b q) with e | e
   ·exact z1 e
   ·exact z2 e
  have Je:tn 0 sS.heap:=T.keep _ _ _ Į λ b hb o e=>old b o (by rw [<- Ŀ];exact Heap.get?_push_of_some _ e)
  refine oZ (λ n s'=>∃ i ys os H',os.length=ts.length/\Inv X' [] (os++cJ js σ) H' s'/\tn i s'.heap/\(∀ b∈fp,H' b=none)/\W i n ys H') ?_ m0 ⟨0,[],_,_,List.length_replicate,J0,Je,λ b hb=>(ě b hb).1.1,w0⟩;rintro n s' ⟨i,ys,os,H',á,Iv,st,fr,w⟩;obtain⟨hD,alt⟩:=turn i n ys H' w;have eP:X'.prog=X.prog:=by subst hX;rfl
  have eW:X'.w=X.w:=by subst hX;rfl
  have eK:X'.K=X.K:=by subst hX;rfl
  have eC:X'.calm=true:=by subst hX;exact hc
  have eA:X'.A=X.A:=by subst hX;rfl
  have eE:X'.env=compEnvC sc cl s3.heap.objs.size X.env:=by subst hX;rfl
  have eX:X'.xe = λ _ _=>False:=by subst hX;rfl
  rcases alt with⟨stop,q⟩ | ⟨go,hlen,step⟩
  ·have d:=T.done X' eP eW eK eC i [] s' _ H' (λ _ _=>False) Iv (ê fr) st stop;rw [eA] at d;refine aT d λ r s4 ⟨hr,I4⟩=>?_;subst hr;obtain⟨m,hm,_⟩:=id I4.loc;rw [eE] at hm;subst hX;exact⟨m,hm,λ h' JG=>⟨.ref s2.heap.objs.size,H',gk I3 ě (Nat.le_refl _) I4 JG,rfl,q⟩⟩
  ·have d:=T.item X' eP eW eK eC i [] s' _ H' (λ _ _=>False) Iv (ê fr) st go;rw [eA] at d;refine aT d λ r s4 ⟨u,hr,h4⟩=>?_;subst hr;refine aT h4 λ _ s5 ⟨y,H5,I5,r5,y5,ĕ,Jr⟩=>?_;have Js:=I5.pinned (ê Jr) (T.obj _ _ ĕ);have Kn:PG X' tg g:=by subst hX;exact hg _ _ _ _
   have g6:=Kn _ s5 _ H5 y u _ Js r5 (step y H5 y5 os á);rw [eP,eW,eA,eE,eX] at g6;refine aT g6 λ _ s6 ⟨Mg,H6,I6,⟨ß,į,e6⟩,Ko⟩=>?_;subst e6;have K0:PT X' c tt:=by subst hX;exact ht _ _ _ _
   have g0:=K0 _ s6 _ H6 _ I6 Ko;rw [eP,eW,eA,eE,eX] at g0;refine aT g0 λ k sk ⟨Hk,Ik,qk⟩=>?_;cases k with
   | false =>
    obtain⟨m',ť,w7⟩:=qk.1 rfl;refine⟨λ _=>?_,λ z=>nomatch z⟩;refine⟨m',ť,i+1,ys,ß,_,į,Ik.à,T.keep _ _ _ ĕ λ b hb o e=>(Ik.pin (b,o) (List.mem_append_right _ (List.mem_append_right _ (aZ hb e)))).1,λ b hb=>?_,w7⟩;obtain⟨o',e',_⟩:=T.obj _ _ ĕ b hb;exact(Ik.pin (b,o') (List.mem_append_right _ (List.mem_append_right _ (aZ hb e')))).2.1
   | true =>
   refine⟨λ z=>(nomatch z),λ _=>?_⟩;have LL:PE X' elt te:=by subst hX;exact he _ _ _ _
   have g7:=LL _ sk _ Hk _ Ik (qk.2 rfl);rw [eP,eW,eA,eE,eX] at g7;refine aT g7 λ uv s7 ⟨v7,H7,I7,r7,LM,m',ť,w7⟩=>?_;have g8:=(bh (X:=X')) _ s7 _ H7 (.ref s2.heap.objs.size) [v7] (.ref s2.heap.objs.size) [uv] (λ _ H8=>H8=ae H7 s2.heap.objs.size (.lst (ys ++ [v7]))) I7 rfl (.cons r7 .nil) ⟨_,ys,v7,rfl,rfl,LM,hlen,rfl⟩;rw [eP,eW,eA,eX] at g8;refine aT g8 λ _ s8 ⟨_,H8,I8,_,e8⟩=>?_;subst e8;refine⟨m',ť,i+1,ys ++ [v7],ß,_,į,I8.à,T.keep _ _ _ ĕ λ b hb o e=>(I8.pin (b,o) (List.mem_append_right _ (List.mem_append_right _ (aZ hb e)))).1,λ b hb=>?_,w7⟩;obtain⟨o',e',_⟩:=T.obj _ _ ĕ b hb;exact(I8.pin (b,o') (List.mem_append_right _ (List.mem_append_right _ (aZ hb e')))).2.1
 have Jg:tn 0 Ü:=T.keep _ _ _ Į λ b hb o e=>old b o (by rw [<- Ŀ];exact Heap.get?_push_of_some _ e)
 exact codeAny_compStart_list (loop _ rfl rfl rfl) (T.self _ 0 _ _ _ Jg (loop _ rfl rfl rfl))
end
end My
namespace My
open PySem PySem.W L2
structure fG (K:Frag)(D:Addr)(m:Str)(f:Addr):Prop where
 ga:specialIn K (.ref D) "__getattribute__" = some (some (.builtin "type.__getattribute__"))
 reads:readsIn K D (.type "type")=true
 at_:findCls K (.ref D) (.type "type") m=some (.val (.ref f))
 kp:keepIn K (.ref f)=true
section
variable {X:Cx}{CX:kc}{k:Nat}{f D:Addr}{fd:FuncData}{ps:List Str}{sp:Sp}{E:XK}{x m:Str}{p pos apos:Pos}{e:Expr}{es:List Expr}{t:TA}{dvs:List V}{ds:List Value}
theorem bL {pl:Sem Bool}(C:fG X.K D m f)(F:Â X.prog X.w X.K X.mg X.base CX k f fd ps sp)(hr:Ä k X.A)(hg:Gl X x)(hm:X.mg x=some (.ref D))(hb:Binds X.K fd ps ds)(hd:Vals dvs ds)(hx:dB CX X E)(ha:PA X (e::es) t)
  (Ġ:(x==("__debug__" : Str))=false:=by decide)(Jc:starEach (e::es) X.env=(false,eval e X.env)::starEach es X.env:=by rfl)(ó:(backTo pos (starEach es X.env)).any (·.1)=false:=by rfl)
  (Pq:eval (.Call (.Attribute (.Name x p) m apos) (e::es) [] pos) X.env=(do
   let ov <- eval (.Name x p) X.env
   standAt apos.atName
   let (f,first) <- holding [ov] (getMethod ov m pl)
   callWith pos f first (backTo pos (starEach (e::es) X.env)) (backToKw pos (keywordEach [] X.env))):=by rfl) :
  PE X (.Call (.Attribute (.Name x p) m apos) (e::es) [] pos) (gn sp dvs E t):=by
 intro pins s σ H Q I h;refine PySem.W.methodCall_KW (pl:=pl) (c7 I hg hm ?_ Ġ) Pq;refine method_cls I.Ý C.ga (cls_value I.Ý C.reads C.at_ rfl ?_);have I0:Inv X pins σ H { s with toks:=s.toks+1 }:=I.tok _
 refine PySem.W.callWith_K (h₀:=X.base) I.ok.mod.KL C.kp (aT (ha pos pins _ σ H _ I0 h) λ us s1 ⟨vs,H1,I1,r,q⟩=>⟨I1.Ý,?_⟩) Jc ó;exact jD F hr hb hd hx I1 r q
end
end My
namespace My
open PySem L2
open PySem.Builtin.Str (occurrences partsBetween strSub)
def II (c:Nat):Bool:=decide (48<=c)&&decide (c<=57)
def Cc (L:List Nat):Bool:=!L.isEmpty && !(L.head?==some 48&&L != [48])&&L.all II
abbrev cs (z:Str):List Nat:=z.cps.toList
abbrev val (L:List Nat):Nat:=NumText.digitsVal L
def IK (a b:List Nat):Bool:=Cc a&&Cc b&&decide (2<=val b)&&decide (1<=val a)&&decide (val a<val b)&&decide (Nat.gcd (val a) (val b)=1)
def rd (z:Str):Option (Nat × Nat) :=
 if z = "0" then some (0,1) else if z = "1" then some (1,1) else
  match Txt.split z ⟨#[47]⟩ with
  | [a,b]=>if IK (cs a) (cs b)=true then some (val (cs a),val (cs b)) else none
  | _=>none
abbrev tx (n:Nat):Str:=Str.ofString (toString ((n:Nat):Int))
end My
namespace My
open PySem PySem.W L2
theorem cq {A B:Prop}(h:A):if true=true then A else B:=by rw [if_pos rfl];exact h
theorem bY {A B:Prop}(h:B):if false=true then A else B:=by rw [if_neg (by decide)];exact h
def Ext (H H':Hp):Prop:=∀ b o,H b=some o->H' b=some o
theorem Ext.refl (H:Hp):Ext H H:=λ _ _ h=>h
theorem Ext.trans {H H1 H2:Hp}(a:Ext H H1)(b:Ext H1 H2):Ext H H2:=λ x o h=>b x o (a x o h)
theorem Ext.new {H:Hp}{p:Addr}{o:HO}(h:H p=none):Ext H (ae H p o):=λ b u e=>by rw [ag (c5 e h)];exact e
theorem Ì.ext {K:Frag}{H H':Hp}{p:Addr}{xs:List V}(h:Ì K H p xs)(e:Ext H H'):Ì K H' p xs:=by
 rcases h with h | h
 ·left;rcases h with h | ⟨o,h⟩
  ·exact .inl (e _ _ h)
  ·exact .inr ⟨o,e _ _ h⟩
 ·exact .inr h
theorem Ã.ext {K:Frag}{H H':Hp}{s:Addr}{xs:List V}(h:Ã K H s xs)(x:Ext H H'):Ã K H' s xs:=by
 rcases h with h | h
 ·rcases h with h | ⟨o,h⟩
  ·exact .inl (.inl (x _ _ h))
  ·exact .inl (.inr ⟨o,x _ _ h⟩)
 ·exact .inr h
theorem fX {X:Cx}{x:Str}{n:String}{pos:Pos}(hg:Gl X x)(hm:X.mg x=none)(hv:bootBuiltins x=some (.type n))(hn:x ≠ "__name__" := by decide +kernel)(hd:(x==("__debug__" : Str))=false:=by decide):PE X (.Name x pos) (tC (.ty n)) :=
 vf hg hm hv (show RelV (.ty n) (.type n) from rfl) hn hd
def Kd (K:Frag)(H:Hp)(x:V)(t:Value):Prop:=ë K H x t\/(∃ p xs,x=.ref p/\Ì K H p xs/\t=.type "tuple")\/(∃ a C,x=.ref a/\ķ H a C/\mE K C/\t=.ref C)
def Al (K:Frag):List V->Hp->VK->Prop:=λ vs H Q=>∃ x n t b,vs=[x,.ty n]/\Kd K H x t/\kitOne K t (.type n)=some b/\Q (.bl b) H
theorem cg {X:Cx}(N:qG X.K):cV X (.builtin "isinstance") (Al X.K):=by
 intro pins s σ H xs us Q I r h;obtain⟨x,n,t,b,rfl,kd,e,q⟩:=h;obtain⟨u,u',rfl,ru,J5⟩:=jC r;cases (show u'=Value.type n from J5);rcases kd with ty | ⟨p,ys,rfl,hq,rfl⟩ | ⟨a,C,rfl,ea,T,rfl⟩
 ·exact ky I ru ty e λ tk=>⟨.bl b,H,I.tok _,rfl,q⟩
 ·cases (show u=Value.ref p from ru);obtain⟨its,_,⟨o,h1,h2,_⟩,_⟩:=I.tuple hq;exact kia_one kitx_tuple I.Ý ⟨o,h1,h2⟩ e (λ z=>nomatch z) λ tk=>⟨.bl b,H,I.tok _,rfl,q⟩
 ·cases (show u=Value.ref a from ru);exact kia_one (rL T N.gt N.tk) I.Ý (ea.inst I.É) e (λ z=>nomatch z) λ tk=>⟨.bl b,H,I.tok _,rfl,q⟩
theorem ķ.ext {H H':Hp}{a C:Addr}(e:ķ H a C)(x:Ext H H'):ķ H' a C:=by
 rcases e with e | ⟨dx,fs,e1,e2⟩
 ·exact .inl (x _ _ e)
 ·exact .inr ⟨dx,fs,x _ _ e1,x _ _ e2⟩
theorem ë.ext {K:Frag}{H H':Hp}{x:V}{t:Value}(h:ë K H x t)(e:Ext H H'):ë K H' x t:=by
 cases h with
 | Æ=>exact .Æ
 | bl b=>exact .bl b
 | int i=>exact .int i
 | str z=>exact .str z
 | JY z=>exact .JY z
 | lst q=>exact .lst (e _ _ q)
 | ŉ q=>exact .ŉ (e _ _ q)
 | tup q=>exact .tup (e _ _ q)
 | dK q=>exact .dK (e _ _ q)
 | dT q=>exact .dT (e _ _ q)
 | ins q cl ha hn Ŗ hm=>exact .ins (e _ _ q) cl ha hn Ŗ hm
theorem Kd.ext {K:Frag}{H H':Hp}{x:V}{t:Value}(h:Kd K H x t)(e:Ext H H'):Kd K H' x t:=by
 rcases h with ty | ⟨p,ys,rfl,hq,rfl⟩ | ⟨a,C,rfl,ea,T,rfl⟩
 ·exact .inl (My.ë.ext ty e)
 ·exact .inr (.inl ⟨p,ys,rfl,My.Ì.ext hq e,rfl⟩)
 ·exact .inr (.inr ⟨a,C,rfl,ea.ext e,T,rfl⟩)
def EI (K:Frag)(H:Hp)(x:V):Prop:=(∀ i,x ≠ .int i)/\∃ t b1 b2,Kd K H x t/\kitOne K t (.type "int")=some b1/\kitOne K t (.type "bool")=some b2/\(b1 && !b2)=false
def Th (K:Frag)(H:Hp)(x:V):Prop:=(∃ i,x=.int i)\/EI K H x
def Cg:V->Bool
 | .int _=>true
 | _=>false
def Jh (lo hi:Int):V->Bool
 | .int i=>decide (lo<=i)&&decide (i<=hi)
 | _=>false
theorem lR {x:V}(h:∀ i,x ≠ .int i):Cg x=false:=by
 cases x with
 | int i=>exact absurd rfl (h i)
 | _=>rfl
theorem zg {lo hi:Int}{x:V}(h:∀ i,x ≠ .int i):Jh lo hi x=false:=by
 cases x with
 | int i=>exact absurd rfl (h i)
 | _=>rfl
section
variable {P:Program}{w:World}{K:Frag}{mg:Str->Option Value}{base:Heap}
theorem EB:kitOne K (.type "int") (.type "int")=some true:=rfl
theorem AG:kitOne K (.type "int") (.type "bool")=some false:=rfl
end
set_option exponentiation.threshold 10000
def uz:Key->PyData
 | .inl i=>.int i
 | .inr x=>.str x
 | .Æ=>.none
mutual
inductive Ð (G:Hp):V->PyData->Prop
 | Æ:Ð G .Æ .none
 | bl (b:Bool):Ð G (.bl b) (.bool b)
 | int (i:Int):Ð G (.int i) (.int i)
 | str (x:Str):Ð G (.str x) (.str x)
 | lst {a:Addr}{xs:List V}{ds:List PyData}:G a=some (.lst xs)->Á G xs ds->Ð G (.ref a) (.list ds)
 | tup {a:Addr}{xs:List V}{ds:List PyData}:G a=some (.tup xs)->Á G xs ds->Ð G (.ref a) (.tuple ds)
 | ð {a:Addr}:G a=some (.dK [])->Ð G (.ref a) (.dict [])
 | ĸ {a:Addr}{k:Key}{v:V}{d:PyData}:G a=some (.dK [(k,v)])->Ð G v d->Ð G (.ref a) (.dict [(uz k,d)])
inductive Á (G:Hp):List V->List PyData->Prop
 | nil:Á G [] []
 | cons {v:V}{vs:List V}{d:PyData}{ds:List PyData}:Ð G v d->Á G vs ds->Á G (v::vs) (d::ds)
end
mutual
theorem Ð.mono {G G':Hp}(s:Ext G G'):∀{v:V}{d:PyData},Ð G v d->Ð G' v d
 | _,_,.Æ=>.Æ
 | _,_,.bl b=>.bl b
 | _,_,.int i=>.int i
 | _,_,.str x=>.str x
 | _,_,.lst e r=>.lst (s _ _ e) (Á.mono s r)
 | _,_,.tup e r=>.tup (s _ _ e) (Á.mono s r)
 | _,_,.ð e=>.ð (s _ _ e)
 | _,_,.ĸ e r=>.ĸ (s _ _ e) (Ð.mono s r)
theorem Á.mono {G G':Hp}(s:Ext G G'):∀{vs:List V}{ds:List PyData},Á G vs ds->Á G' vs ds
 | _,_,.nil=>.nil
 | _,_,.cons r t=>.cons (Ð.mono s r) (Á.mono s t)
end
theorem Á.length {G:Hp}:∀{vs:List V}{ds:List PyData},Á G vs ds->vs.length=ds.length
 | _,_,.nil=>rfl
 | _,_,.cons _ t=>by rw [List.length_cons,List.length_cons,t.length]
theorem Á.append {G:Hp}:∀{vs ws:List V}{ds es:List PyData},Á G vs ds->Á G ws es->Á G (vs++ws) (ds++es)
 | _,_,_,_,.nil,s=>s
 | _,_,_,_,.cons r t,s=>.cons r (t.append s)
section
variable {P:Program}{w:World}{H:Hp}{h:Heap}
theorem qC {k:Key}{u:Value}(r:(bz P w).is k u=true):Reads h u (uz k) []:=by
 rw [nQ] at r;rcases bc r with⟨i,t,rfl,rfl⟩ | ⟨x,t,rfl,rfl⟩ | ⟨rfl,rfl⟩
 ·exact .int i t
 ·exact .str x t
 ·exact .none
theorem xS {es:List DictEntry}(ps:Pairs (bz P w) es ([]:List (Key × Value))):es=[]:=by
 cases ps;rfl
theorem yb {es:List DictEntry}{k:Key}{u:Value}(ps:Pairs (bz P w) es [(k,u)]):∃ e,es=[e]/\(bz P w).is k e.key=true/\e.val=u:=by
 cases ps with
 | cons h1 h2 h3 =>
  cases h3;exact⟨_,rfl,h1,h2⟩
mutual
theorem nJ (ok:õ P w H h)(z:H sysModules=none):∀{v:V}{d:PyData}{u:Value},Ð H v d->RelV v u->∃ as,Reads h u d as/\sysModules ∉ as
 | _,_,_,.Æ,r=>by cases r;exact⟨[],.none,by simp⟩
 | _,_,_,.bl b,r=>by cases r;exact⟨[],.bool b,by simp⟩
 | _,_,_,.int i,r=>by obtain⟨t,rfl⟩:=r;exact⟨[],.int i t,by simp⟩
 | _,_,_,.str x,r=>by obtain⟨t,rfl⟩:=r;exact⟨[],.str x t,by simp⟩
 | _,_,_,.lst (a:=a) e t,r=>by
  cases r;obtain⟨_,its,n,rv,ho⟩:=(show Å P w H h _ (.lst _) from ok _ _ e);obtain⟨as,ra,na⟩:=ă ok z t rv;refine⟨a::as,.list ho rfl rfl (by simpa using ra),?_⟩
  intro m;rcases List.mem_cons.mp m with m | m
  ·rw [<- m,z] at e;cases e
  ·exact na m
 | _,_,_,.tup (a:=a) e t,r=>by
  cases r;obtain⟨_,its,rv,o,ho,hc,n,hd⟩:=(show Å P w H h _ (.tup _) from ok _ _ e);obtain⟨as,ra,na⟩:=ă ok z t rv;exact⟨as,.tuple ho hc hd (by simpa using ra),na⟩
 | _,_,_,.ð (a:=a) e,r=>by
  cases r;obtain⟨_,hs,vs,kv,o,es,ep,ho,hx,hd,Px,Py,U8⟩:=(show Å P w H h _ (.dK _) from ok _ _ e);cases kv;have ee:es.toList=[]:=xS Py;refine⟨a :: [] ++ [],.dict (kvs:=[]) ho hx.1 hd (by rw [ee];exact .nil) (by rw [ee];exact .nil),?_⟩
  intro m;have m':sysModules=a:=by simpa using m
  rw [<- m',z] at e;cases e
 | _,_,_,.ĸ (a:=a) (k:=k) e t,r=>by
  cases r;obtain⟨_,hs,vs,kv,o,es,ep,ho,hx,hd,Px,Py,U8⟩:=(show Å P w H h _ (.dK _) from ok _ _ e);cases kv with
  | cons q q' =>
   cases q';obtain⟨U9,Ji⟩:=q;obtain⟨e0,ee,ek,ev⟩:=yb Py;rw [<- ev] at Ji;rw [<- U9] at ek;obtain⟨as,ra,na⟩:=nJ ok z t Ji;have rk:ReadsAll h [e0.key] [uz k] ([] ++ []):=.cons (qC ek) .nil;have rv:ReadsAll h [e0.val] [_] (as ++ []):=.cons ra .nil;refine⟨a::([] ++ [])++(as ++ []),.dict (kvs:=[(uz k,_)]) ho hx.1 hd (by rw [ee];exact rk) (by rw [ee];exact rv),?_⟩
   intro m;rw [List.append_nil,List.append_nil] at m;rcases List.mem_cons.mp m with m | m
   ·rw [<- m,z] at e;cases e
   ·exact na (by simpa using m)
theorem ă (ok:õ P w H h)(z:H sysModules=none):∀{vs:List V}{ds:List PyData}{us:List Value},Á H vs ds->Vals vs us->∃ as,ReadsAll h us ds as/\sysModules ∉ as
 | _,_,_,.nil,r=>by cases r;exact⟨[],.nil,by simp⟩
 | _,_,_,.cons r t,rv=>by
  cases rv with
  | cons q qs =>
   obtain⟨as,ra,na⟩:=nJ ok z r q;obtain⟨bs,rb,nb⟩:=ă ok z t qs;refine⟨as++bs,.cons ra rb,λ m=>?_⟩;rcases List.mem_append.mp m with m | m
   ·exact na m
   ·exact nb m
end
end
def pK:PyData->String
 | .none => "NoneType"
 | .bool _ => "bool"
 | .int _ => "int"
 | .str _ => "str"
 | .list _ => "list"
 | .tuple _ => "tuple"
 | _ => "dict"
def zZ:PyData->Bool
 | .tuple _=>true
 | _=>false
def vJ:PyData->Bool
 | .bool _=>true
 | _=>false
def lM (lo hi:Int):PyData->Bool
 | .int i=>decide (lo<=i)&&decide (i<=hi)
 | _=>false
section
variable {K:Frag}{H:Hp}{v:V}{d:PyData}
theorem Ð.ty (r:Ð H v d):ë K H v (.type (pK d)):=by
 cases r with
 | Æ=>exact .Æ
 | bl b=>exact .bl b
 | int i=>exact .int i
 | str x=>exact .str x
 | lst e _=>exact .lst e
 | tup e _=>exact .tup e
 | ð e=>exact .dK e
 | ĸ e _=>exact .dK e
theorem Ð.kd (r:Ð H v d):Kd K H v (.type (pK d)):=.inl r.ty
theorem Ð.SG (r:Ð H v d):kitOne K (.type (pK d)) (.type "tuple")=some (zZ d):=by cases r <;> rfl
theorem Ð.Va (r:Ð H v d):kitOne K (.type (pK d)) (.type "bool")=some (vJ d):=by cases r <;> rfl
theorem Ð.th (r:Ð H v d):Th K H v:=by
 cases r with
 | int i=>exact .inl ⟨i,rfl⟩
 | Æ=>exact .inr ⟨λ i z=>(by cases z),_,_,_,.inl .Æ,rfl,rfl,rfl⟩
 | bl b=>exact .inr ⟨λ i z=>(by cases z),_,_,_,.inl (.bl b),rfl,rfl,rfl⟩
 | str x=>exact .inr ⟨λ i z=>(by cases z),_,_,_,.inl (.str x),rfl,rfl,rfl⟩
 | lst e _=>exact .inr ⟨λ i z=>(by cases z),_,_,_,.inl (.lst e),rfl,rfl,rfl⟩
 | tup e _=>exact .inr ⟨λ i z=>(by cases z),_,_,_,.inl (.tup e),rfl,rfl,rfl⟩
 | ð e=>exact .inr ⟨λ i z=>(by cases z),_,_,_,.inl (.dK e),rfl,rfl,rfl⟩
 | ĸ e _=>exact .inr ⟨λ i z=>(by cases z),_,_,_,.inl (.dK e),rfl,rfl,rfl⟩
theorem Ð.Jh (r:Ð H v d)(lo hi:Int):My.Jh lo hi v=lM lo hi d:=by cases r <;> rfl
theorem fZ (r:Ð H v (.tuple ds)):∃ a xs,v=.ref a/\H a=some (.tup xs)/\Á H xs ds:=by
 cases r with
 | tup e t=>exact⟨_,_,rfl,e,t⟩
theorem Á.get {xs:List V}{ds:List PyData}(r:Á H xs ds):∀{i:Nat}{x:V},xs[i]?=some x->∃ d,ds[i]?=some d/\Ð H x d:=by
 induction xs generalizing ds with
 | nil=>intro i x h;simp at h
 | cons y ys ih =>
  cases r with
  | cons q t =>
   intro i x h;cases i with
   | zero=>cases h;exact⟨_,rfl,q⟩
   | succ i=>exact ih t h
end
end My
namespace My
open PySem L2
structure Bx (p:Prop):Prop where
 h:p
section
variable {X:Cx}{e a b:Expr}{es:List Expr}{te ta tb:TE}{t:TA}{pos:Pos}{st:Stmt}{rest:List Stmt}{ts u v:TS}
theorem bH:Bx (PA X [] aF):=⟨ak⟩
theorem eN (ha:Bx (PE X e te))(hr:Bx (PA X es t))(hs:starEach (e::es) X.env=(false,eval e X.env)::starEach es X.env:=by rfl):Bx (PA X (e::es) (ah te t)):=⟨ac ha.h hr.h hs⟩
theorem io (h:Bx (PA X es t)):Bx (PE X (.List es pos) (bM t)):=⟨cj h.h⟩
theorem dZ {x1}(h:Bx (PA X es t)):Bx (PE X (.Tuple es x1 pos) (dw t)):=⟨aI h.h⟩
theorem D1 {r:R2}(hr:Ef X r)(ha:Bx (PE X a ta))(hb:Bx (PE X b tb))(hs:kK b:=by exact λ _ _=>rfl):Bx (PE X (.Subscript a b pos) (aJ r ta tb)):=⟨cy hr ha.h hb.h hs⟩
theorem hI (h:Bx (PE X e te)):Bx (PS X (.Return (some e) pos) (bN te)):=⟨cZ h.h⟩
theorem fg:Bx (ü X [] bS):=⟨gG⟩
theorem be (h:Bx (PS X st ts)):Bx (ü X [st] ts):=⟨aY h.h⟩
theorem cI (h:Bx (PS X st ts))(k:Bx (ü X rest u)):Bx (ü X (st::rest) (aH ts u)):=⟨cw h.h k.h⟩
theorem jt {c:Expr}{x y:List Stmt}{tc:TT}(hc:Bx (PT X c tc))(hx:Bx (ü X x u))(hy:Bx (ü X y v)):Bx (PS X (.If c x y pos) (dz tc u v)):=⟨bo hc.h hx.h hy.h⟩
theorem aX {i:Nat}{x:Str}{pos':Pos}(hN:X.N.Nodup)(hi:X.N[i]?=some x)(hx:yJ X.env.scope x)(he:Bx (PE X e te))(hs:swapsWith e (some (.Name x pos')) pos.line X.env=pure false:=by rfl)(hf:X.fn x=true\/X.env.scope.names.lookup x=some .local:=by first | exact .inl rfl | exact .inr rfl | assumption) :
  Bx (PS X (.Assign [.Name x pos'] e pos) (cH te (aW i))):=⟨iI hN hi hx he.h hs hf⟩
end
end My
namespace My
open PySem PySem.W L2
open AutoSeq1 (wpAny_loadPart')
section
variable {prog:Program}{w:World}{A:Around}{E:Value->Shared->Prop}{s:Shared}{r:Addr}{a b c:Int}{t u v:Tok}{n:Nat}
theorem jI {Q:List Value->Shared->Prop}(hh:A.handled=none)(hr:IsRange s.heap r a b c t u v)(ģ:Builtin.Range.small a b c=true)(hn:Builtin.Range.rangeSize a b c=n)(hlen:n<=2^24)
  (hQ:∀ h' tk acc,(∀ b o,s.heap.get? b=some o->h'.get? b=some o)->ItemsOf (λ i v=>∃ t,v=.int (a+i*c) t) acc n->Q acc.toList { s with heap:=h',toks:=tk }) :
  wpAny (model prog w) A (collect (.ref r)) Q E s:=by
 unfold collect;refine wpAny_bind (wpAny_runValue (codeAny_builtin F.entry_proto_collect ?_));rw [Around.under_plainId F.plain_proto_collect _];show wpAny _ A.in1 (newList [] >>= λ l=>again (.builtin "list.__iadd__" ⟨[l,.ref r],[]⟩)) _ _ s;refine wpAny_bind (wpAny_newObj_type ?_);refine wpAny_pure ⟨plainId_quiet F.plain_list_iadd _,codeAny_builtin F.entry_list_iadd ?_⟩;rw [Around.under_plainId F.plain_list_iadd _];show wpAny _ A.in1 (Builtin.List.listExtendWith (.ref s.heap.objs.size) (.ref r) (.ref s.heap.objs.size)) _ _ _;have hS:(s.heap.push { cls:=.type "list",data:=.seq ([]:List Value).toArray }).get? s.heap.objs.size=some { cls:=.type "list",data:=.seq #[] 0 }:=Heap.get?_push_size _ rfl;refine wpAny_mono (wpAny_extend_range (A:=A) (R:=λ x s'=>∃ h' tk acc c',x=.ok (.ret (.ref s.heap.objs.size))/\s'={ s with heap:=h',toks:=tk }/\(∀ b o,s.heap.get? b=some o->h'.get? b=some o)/\h'.get? s.heap.objs.size=some { cls:=.type "list",dict:=none,data:=.seq acc c',slots:=#[] }/\ItemsOf (λ i v=>∃ t,v=.int (a+i*c) t) acc n)
  (s:={ s with heap:=s.heap.push { cls:=.type "list",data:=.seq ([]:List Value).toArray } }) hh (Heap.get?_push_of_some _ hr) ģ hn hlen s.heap.objs.size (.ref s.heap.objs.size) 0 hS (λ h' tk acc c' hk Pz Ė=>⟨h',tk,acc,c',rfl,rfl,λ b o e=>hk b o (Nat.ne_of_lt (Heap.lt_size e)) (Heap.get?_push_of_some _ e),Pz,Ė⟩)) (λ fin s' h=>?_) (λ e s' h=>?_)
 ·have MT:∀ KW,(∃ h' tk acc c',KW={ s with heap:=h',toks:=tk }/\(∀ b o,s.heap.get? b=some o->h'.get? b=some o)/\h'.get? s.heap.objs.size=some { cls:=.type "list",dict:=none,data:=.seq acc c',slots:=#[] }/\ItemsOf (λ i v=>∃ t,v=.int (a+i*c) t) acc n)->wpAny (model prog w) A (match Value.ref s.heap.objs.size with
   | Value.ref a=>do
    match (<- load a).data with
     | Data.seq xs _=>pure xs.toList
     | _=>unsupported "internal:collect"
   | _=>unsupported "internal:collect") Q E KW:=λ KW hx=>by
   obtain⟨h',tk,acc,c',rfl,hk,Pz,Ė⟩:=hx;show wpAny _ A (load s.heap.objs.size>>=_) _ _ _;refine wpAny_bind (wpAny_load Pz ?_);exact wpAny_pure (hQ h' tk acc hk Ė)
  cases fin with
  | done f =>
   obtain⟨h',tk,acc,c',e,h⟩:=h;cases e;exact MT _ ⟨h',tk,acc,c',h⟩
  | again c'=>exact⟨h.1,codeAny_mono h.2 λ x KW hr=>by obtain⟨h',tk,acc,c',rfl,hr⟩:=hr;exact MT _ ⟨h',tk,acc,c',hr⟩⟩
 ·obtain⟨_,_,_,_,e,_⟩:=h;cases e
end
theorem fJ (r:Addr)(a b c:Int)(t u v:Tok)(n:Nat)(ģ:Builtin.Range.small a b c=true)(hn:Builtin.Range.rangeSize a b c=n)(hlen:n<=2^24) :
  Meets (Builtin.«tuple.__new__» ⟨[.type "tuple",.ref r],[]⟩)
   (λ A R s=>A.handled=none/\IsRange s.heap r a b c t u v/\∀(h':Heap)(tk:Nat)(acc:Array Value),(∀ b o',s.heap.get? b=some o'->h'.get? b=some o')->ItemsOf (λ i v=>∃ t,v=.int (a+i*c) t) acc n->R (.ok (.ret (.ref h'.objs.size))) { s with heap:=h'.push { cls:=.type "tuple",data:=.seq acc },toks:=tk }) :=
 .of_wp λ prog w A R s h=>by
  obtain⟨hh,hr,h⟩:=h;have MU:=sub_tuple_self;have SH:=init_tuple_lookup;have hmh:=madeHere_tuple;have hT:s.TypeIs (.ref r) "range" :=⟨_,hr,rfl⟩;have Vb:A.in1.handled=none:=hh
  wp_walk using wpAny_typeOf hT,jI Vb hr ģ hn hlen
  intro h' tk acc hk Ė;show wpAny _ _ (Builtin.Tuple.tupleExact acc.toList.toArray >>= λ v=>ret v) _ _ _;unfold Builtin.Tuple.tupleExact;refine wpAny_bind (wpAny_newObj_type ?_ (show acc.toList.toArray.size<=sizeLine by simp only [Array.toArray_toList];rw [Ė.1,sizeLine_eq];omega))
  refine wpAny_pure ⟨_,rfl,?_⟩;have e:acc.toList.toArray=acc:=by simp
  rw [e];exact h h' tk acc hk Ė
theorem h9 {prog:Program}{w:World}{A:Around}{E:Value->Shared->Prop}{s:Shared}{r:Addr}{a b c:Int}{t u v:Tok}{n:Nat}{Q:Value->Shared->Prop}(hh:A.handled=none)(hr:IsRange s.heap r a b c t u v)(ģ:Builtin.Range.small a b c=true)(hn:Builtin.Range.rangeSize a b c=n)(hlen:n<=2^24)
  (h:∀(h':Heap)(tk:Nat)(acc:Array Value),(∀ b o',s.heap.get? b=some o'->h'.get? b=some o')->ItemsOf (λ i v=>∃ t,v=.int (a+i*c) t) acc n->Q (.ref h'.objs.size) { s with heap:=h'.push { cls:=.type "tuple",data:=.seq acc },toks:=tk }) :
  wpAny (model prog w) A (call (.type "tuple") [.ref r]) Q E s :=
 callType_new F.called_tuple (by decide) (F.typeCall_tuple_1 _) (F.newCall_tuple_1 _) (λ obj=>F.args_object_init_2 obj _) F.entry_tuple_new
  (fJ r a b c t u v n ģ hn hlen) ⟨hh,hr,λ h' tk acc hk Ė=>⟨⟨_,Heap.get?_push_size _ rfl,rfl⟩,h h' tk acc hk Ė⟩⟩
def uh (lo:Int)(n:Nat):List V:=(List.range n).map λ i=>V.int (lo+(i:Nat))
theorem gD (lo:Int)(n:Nat):(uh lo n).length=n:=by unfold uh;simp
theorem mK {lo:Int}{n:Nat}{acc:Array Value}(h:ItemsOf (λ i v=>∃ t,v=Value.int (lo+i*1) t) acc n):Vals (uh lo n) acc.toList:=by
 have gen:∀(xs:List V)(us:List Value),xs.length=us.length->(∀(i:Nat) x u,xs[i]?=some x->us[i]?=some u->RelV x u)->Vals xs us:=by
  intro xs
  induction xs with
  | nil=>intro us l _;cases us with | nil=>exact .nil | cons _ _=>cases l
  | cons x xs ih =>
   intro us l g;cases us with
   | nil=>cases l
   | cons u us=>exact .cons (g 0 x u rfl rfl) (ih us (by simpa using l) λ i x' u' h1 h2=>g (i+1) x' u' h1 h2)
 refine gen _ _ (by rw [gD];simp [h.1]) λ i x u hx hu=>?_
 unfold uh at hx;rw [List.getElem?_map] at hx;obtain⟨j,hj,rfl⟩:=Option.map_eq_some_iff.mp hx;have ej:i=j:=by
  have:=List.getElem?_eq_some_iff.mp hj
  simpa using this.2
 subst ej;obtain⟨t,e⟩:=h.2 i u (by simpa using hu)
 refine⟨t,?_⟩;rw [e,Int.mul_one]
section
variable {X:Cx}
def Cz:List V->Hp->VK->Prop:=λ vs H Q=>∃ j:Int,vs=[.int j]/\∀ r,H r=none->Q (.ref r) (ae H r (.ę 0 j))
theorem qj:cV X (.type "range") Cz:=by
 intro pins s σ H xs us Q I r h;obtain⟨j,rfl,q⟩:=h;obtain⟨u,rfl,t,rfl⟩:=dY r;refine call_range_1 ⟨.ref s.heap.objs.size,_,I.laid (t':=s.toks+1+1) (o:=.ę 0 j) (λ b o e=>Heap.get?_push_of_some _ e) (Nat.le_refl _) ?_,rfl,q _ (I.É.fresh (Nat.le_refl _))⟩;exact⟨_,_,_,Heap.get?_push_size _ rfl⟩
def Fg:List V->Hp->VK->Prop:=λ vs H Q=>∃(p:Addr)(lo hi:Int),vs=[.ref p]/\H p=some (.ę lo hi)/\(-(2^62)<=lo/\lo<2^62/\-(2^62)<=hi/\hi<2^62)/\(hi-lo).toNat<=2^24/\∀ l,H l=none->Q (.ref l) (ae H l (.tup (uh lo (hi-lo).toNat)))
theorem kq (hc:X.calm=true):cV X (.type "tuple") Fg:=by
 intro pins s σ H xs us Q I r h;obtain⟨p,lo,hi,rfl,hp,⟨b1,b2,b3,b4⟩,hl,q⟩:=h;obtain⟨u,rfl,rx⟩:=dY r;cases (show u=Value.ref p from rx);obtain⟨t,u,v,e⟩:=(show Å X.prog X.w H s.heap p (.ę lo hi) from I.É p _ hp);have en:Builtin.Range.rangeSize lo hi 1=(((hi-lo).toNat:Nat):Int):=by rw [rangeSize_one];split <;> omega
 refine h9 (I.ok.hd hc) e (small_one b1 b2 b3 b4) en hl λ h' tk acc kp Ė=>?_;have I1:Inv X pins σ H { s with heap:=h' }:=I.kept (t':=s.toks) kp
 have ha:acc.toList.toArray=acc:=by simp
 have I2:Inv X pins σ (ae H h'.objs.size (.tup (uh lo (hi-lo).toNat))) { s with heap:=h'.push { cls:=.type "tuple",data:=.seq acc },toks:=tk } :=
  I1.laid (t':=tk) (λ b o e=>Heap.get?_push_of_some _ e) (Nat.le_refl _) (show Å X.prog X.w _ _ _ (.tup _) from⟨by rw [gD,sizeLine_eq];omega,acc.toList,mK Ė,by rw [ha];exact PyProof.Rows.IsTup.new _ _⟩)
 exact⟨.ref h'.objs.size,_,I2,rfl,q _ (I1.É.fresh (Nat.le_refl _))⟩
def sg:List V->Hp->VK->Prop:=λ vs H Q=>∃(p:Addr)(lo hi:Int),vs=[.ref p]/\H p=some (.ę lo hi)/\(-(2^62)<=lo/\lo<2^62/\-(2^62)<=hi/\hi<2^62)/\(hi-lo).toNat<=2^24/\∀ l,H l=none->Q (.ref l) (ae H l (.lst (uh lo (hi-lo).toNat)))
theorem ij (hc:X.calm=true):cV X (.type "list") sg:=by
 intro pins s σ H xs us Q I r h;obtain⟨p,lo,hi,rfl,hp,⟨b1,b2,b3,b4⟩,hl,q⟩:=h;obtain⟨u,rfl,rx⟩:=dY r;cases (show u=Value.ref p from rx);obtain⟨t,u,v,e⟩:=(show Å X.prog X.w H s.heap p (.ę lo hi) from I.É p _ hp);have en:Builtin.Range.rangeSize lo hi 1=(((hi-lo).toNat:Nat):Int):=by rw [rangeSize_one];split <;> omega
 refine call_list_range (I.ok.hd hc) e (small_one b1 b2 b3 b4) en hl λ h' tk acc c' kp hS Ė=>?_;have ha:acc.toList.toArray=acc:=by simp
 have I2:Inv X pins σ (ae H s.heap.objs.size (.lst (uh lo (hi-lo).toNat))) { s with heap:=h',toks:=tk } :=
  I.laid (t':=tk) kp (Nat.le_refl _) (show Å X.prog X.w _ _ _ (.lst _) from⟨by rw [gD,sizeLine_eq];omega,acc.toList,c',mK Ė,by rw [ha];exact hS⟩)
 exact⟨.ref s.heap.objs.size,_,I2,rfl,q _ (I.É.fresh (Nat.le_refl _))⟩
end
end My
namespace My
open PySem L2
section
variable {X:Cx}
theorem kh:∀(xs:List Bool),(List.range xs.length).all (λ i=>xs.getD i false)=xs.all id
 | []=>rfl
 | x::xs=>by
  have ih:=kh xs;rw [List.length_cons,List.range_succ_eq_map,List.all_cons,List.all_map,List.all_cons,<- ih];rfl
def Hr (K:PySem.W.Frag):List V->Hp->VK->Prop:=λ vs H Q=>∃(l:Addr)(xs:List Bool),vs=[.ref l]/\Ã K H l (xs.map V.bl)/\Q (.bl (xs.all id)) H
theorem uc (hc:X.calm=true):cV X (.builtin "all") (Hr X.K):=by
 intro pins s σ H vs us Q I r h;obtain⟨l,xs,rfl,hl,q⟩:=h;obtain⟨u,rfl,ru⟩:=dY r;cases (show u=Value.ref l from ru);obtain⟨its,rv,t,hz⟩:=I.list hl;have ll:l<s.heap.objs.size:=by obtain⟨_,e,_⟩:=t.isList;exact Heap.lt_size e
 have len:=rv.length;rw [List.length_map] at len;refine call_all_walk (wpAny_pyIter_list t.isList ?_);refine⟨s.heap.objs.size,[s.heap.objs.size,l],[s.heap.objs.size],its.toArray.size,(λ i v=>its.toArray[i]?=some v),_,λ i=>xs.getD i false,rfl,Walks.list (A:=X.A.in1) (I.ok.hd hc) s.heap.objs.size l (Nat.ne_of_lt ll) its.toArray,
  ⟨⟨_,Heap.get?_push_size _ rfl,rfl,rfl⟩,t.isList.push _⟩,λ i v s' Q' E' hv hq=>?_,λ h' tk hk=>⟨.bl _,H,I.kept (h':=h') (t':=tk) (λ b o e=>hk b o (λ m=>?_) (Heap.get?_push_of_some _ e)),?_,q⟩⟩
 ·have KS:its[i]?=some v:=by simpa using hv
  have lt:i<its.length:=(List.getElem?_eq_some_iff.mp KS).1;have Oh:i<xs.length:=by omega
  obtain⟨u1,e1,q1⟩:=rv.get (i:=i) (x:=V.bl xs[i]) (by rw [List.getElem?_map,List.getElem?_eq_getElem Oh];rfl)
  rw [KS] at e1;cases e1;cases (show v=Value.bool xs[i] from q1);refine wpAny_truthy_bool ?_;have e:xs.getD i false=xs[i]:=by simp [Oh]
  rw [<- e];exact hq
 ·rcases List.mem_cons.mp m with e2 | m
  ·exact absurd (Heap.lt_size e) (by rw [e2];exact Nat.lt_irrefl _)
  ·cases m
 ·show Value.bool _=Value.bool _;have e:=kh xs;rw [<- e,List.size_toArray,<- len]
end
end My
namespace My
open PySem PySem.W L2
section
variable {K:Frag}{te:TE}{tt:TT}{g:TG}{k:Nat}{cap:St}{D:Addr}{H1:Hp}{Q:Hp->Prop}{a:Addr}{xs:List V}
theorem bQ (Pv:Nat->List V->Hp->Prop)(hz:xs.length<sizeLine)(h0:Pv 0 [] (ae H1 D (.lst [])))
  (hl:∀ i ys H,Pv i ys H->Ã K H a xs)
  (hs:∀ i x ys H,xs[i]?=some x->ys.length=i->H D=some (.lst ys)->Pv i ys H->∀ os:St,os.length=k->∀ R:VK,(∀ y H4,H4 D=some (.lst ys)->Pv (i+1) (ys ++ [y]) (ae H4 D (.lst (ys ++ [y])))->R y H4)->g x (os++cap) H λ Ù H0=>(∃ ß:St,ß.length=k/\Ù = ß ++ cap)/\te Ù H0 R)
  (hd:∀ ys H,ys.length=xs.length->H D=some (.lst ys)->Pv xs.length ys H->Q H) :
  ∃ W:Nat->Nat->List V->Hp->Prop,(∃ m,W 0 m [] (ae H1 D (.lst []))) /\
   ∀ i m ys H2,W i m ys H2->H2 D=some (.lst ys)/\(((lS K a).stop i H2/\Q H2)\/((lS K a).go i H2/\ys.length<sizeLine /\
    ∀ x H3,(lS K a).Ŋ i H2 x H3->∀ os:St,os.length=k->g x (os++cap) H3 λ Ù H0=>(∃ ß:St,ß.length=k/\Ù = ß ++ cap)/\te Ù H0 λ y H4=>H4 D=some (.lst ys)/\∃ m',m'<m/\W (i+1) m' (ys ++ [y]) (ae H4 D (.lst (ys ++ [y]))))):=by
 refine⟨λ i m ys H=>m=xs.length-i/\i<=xs.length/\ys.length=i/\H D=some (.lst ys)/\Pv i ys H,⟨xs.length,by simp,Nat.zero_le _,rfl,aL,h0⟩,?_⟩
 rintro i m ys H ⟨rfl,hi,hy,hD,p⟩;refine⟨hD,?_⟩;have q:=hl i ys H p;by_cases þ:i<xs.length
 ·refine .inr ⟨⟨xs,xs[i],q,by simp [þ]⟩,by omega,λ x H' y=>?_⟩
  obtain⟨e,y⟩:=y;subst e;exact λ os á=>hs i x ys _ (y xs q) hy hD p os á _ λ z H4 LN p4=>⟨LN,xs.length-(i+1),by omega,rfl,þ,by rw [List.length_append,hy];rfl,aL,p4⟩
 ·have e:i=xs.length:=by omega
  subst e;exact .inl ⟨⟨xs,q,Nat.le_refl _⟩,hd ys H hy hD p⟩
theorem sO (Pv:Nat->List V->Hp->Prop)(hz:xs.length<sizeLine)(h0:Pv 0 [] (ae H1 D (.lst [])))
  (hl:∀ i ys H,Pv i ys H->Ã K H a xs)
  (hs:∀ i x ys H p,xs[i]?=some x->ys.length=i->H D=some (.lst ys)->Pv i ys H->H p=none->∀ os:St,os.length=k->∀ R:VK,(∀ y H4,H4 D=some (.lst ys)->Pv (i+1) (ys ++ [y]) (ae H4 D (.lst (ys ++ [y])))->R y H4)->g (.ref p) (os++cap) (ae H p (.tup [.int (i:Nat),x])) λ Ù H0=>(∃ ß:St,ß.length=k/\Ù = ß ++ cap)/\te Ù H0 R)
  (hd:∀ ys H,ys.length=xs.length->H D=some (.lst ys)->Pv xs.length ys H->Q H) :
  ∃ W:Nat->Nat->List V->Hp->Prop,(∃ m,W 0 m [] (ae H1 D (.lst []))) /\
   ∀ i m ys H2,W i m ys H2->H2 D=some (.lst ys)/\(((xu K a).stop i H2/\Q H2)\/((xu K a).go i H2/\ys.length<sizeLine /\
    ∀ x H3,(xu K a).Ŋ i H2 x H3->∀ os:St,os.length=k->g x (os++cap) H3 λ Ù H0=>(∃ ß:St,ß.length=k/\Ù = ß ++ cap)/\te Ù H0 λ y H4=>H4 D=some (.lst ys)/\∃ m',m'<m/\W (i+1) m' (ys ++ [y]) (ae H4 D (.lst (ys ++ [y]))))):=by
 refine⟨λ i m ys H=>m=xs.length-i/\i<=xs.length/\ys.length=i/\H D=some (.lst ys)/\Pv i ys H,⟨xs.length,by simp,Nat.zero_le _,rfl,aL,h0⟩,?_⟩
 rintro i m ys H ⟨rfl,hi,hy,hD,p⟩;refine⟨hD,?_⟩;have q:=hl i ys H p;by_cases þ:i<xs.length
 ·refine .inr ⟨⟨xs,xs[i],q,by simp [þ]⟩,by omega,λ x H' y=>?_⟩
  obtain⟨p',z,rfl,Vc,rfl,Oi⟩:=y;exact λ os á=>hs i z ys H p' (Oi xs q) hy hD p Vc os á _ λ z H4 LN p4=>⟨LN,xs.length-(i+1),by omega,rfl,þ,by rw [List.length_append,hy];rfl,aL,p4⟩
 ·have e:i=xs.length:=by omega
  subst e;exact .inl ⟨⟨xs,q,Nat.le_refl _⟩,hd ys H hy hD p⟩
end
end My
namespace My
open PySem L2
section
variable {X:Cx}{sc:Scope}{cl:List (Str × Addr)}{ts zs:List Str}{js:List Nat}{elt iter c:Expr}{pos:Pos}{tg:Expr}{g:TG}{wi:TI}{te:TE}{tt:TT}
theorem oN {y:Str}{py MV:Pos}{iy:Nat}(hc:X.calm=true)(S:bu X sc cl ts zs js)(hi:PI X tg iter wi)(hg:∀ s H C fp,PG (bv X sc cl (ts++zs) s H C fp) tg g)(he:∀ s H C fp,PE (bv X sc cl (ts++zs) s H C fp) elt te)
  (hN:X.N.Nodup)(Vd:X.N[iy]?=some y)(hy:yJ X.env.scope y)(Ve:swapsWith (.ListComp elt [⟨tg,iter,[],0⟩] sc pos) (some (.Name y py)) MV.line X.env=pure true)
  (hf:X.fn y=true\/X.env.scope.names.lookup y=some .local:=by first | exact .inl rfl | exact .inr rfl | assumption)
  (hs:∀ v,foldedSetIterable iter X.env v=pure v:=by intro _;rfl):PS X (.Assign [.Name y py] (.ListComp elt [⟨tg,iter,[],0⟩] sc pos) MV) (cH (eG wi ts.length js g te) (aW iy)):=by
 intro pins s σ H De I h;rw [exec_Assign_Name_used _ _ _ _ Ve];refine wpAny_bind (wpAny_standAt (wpAny_bind ?_));show wpAny _ _ (do let _ <- comprehension (.ListComp elt [⟨tg,iter,[],0⟩] sc pos) sc X.env _ (newList []) false (eval iter X.env) (some (assign (.Name y py) X.env))) _ _ s
 refine wpAny_bind (wpAny_mono (wpAny_comprehension_free (use:=some (assign (.Name y py) X.env)) (Q:=λ _ s'=>SP X pins De .next s') rfl hs S.Ď S.kind S.names ?_) (λ _ s' hq=>wpAny_pure (wpAny_pure hq)) λ _ _ e=>e);refine(aT (hi pins s σ H _ I h) λ v s1 h1=>aT h1 λ LA s2 h2=>?_);obtain⟨it,fp,tn,J,H2,e,I2,T,Į,f2,body⟩:=h2;subst e;have Kl:H2 s2.heap.objs.size=none:=I2.fresh;obtain⟨W,⟨m0,w0⟩,turn⟩:=body _ Kl;refine wpAny_newObj_type ?_;have I3:Inv X pins σ (ae H2 s2.heap.objs.size (.lst [])) { s2 with heap:=s2.heap.push { cls:=.type "list",data:=.seq ([]:List Value).toArray } }:=I2.Kg (t':=s2.toks) (ys:=[]) (its:=[]) .nil (Nat.zero_le _)
 refine wpAny_newFunctionEnv S.ľ (by intro y hy;simp at hy) (λ Ü hn Ű=>?_) S.kind
 generalize Ŀ:({ s2 with heap:=s2.heap.push { cls:=.type "list",data:=.seq ([]:List Value).toArray } }:Shared)=s3 at I3 hn Ű ⊢
 have ě:∀ b∈fp,dh X pins (ae H2 s2.heap.objs.size (.lst [])) b/\b<s3.heap.objs.size:=λ b hb=>by
  obtain⟨o,ho,_⟩:=T.obj _ _ Į b hb;have hl:=Heap.lt_size ho;have Km:b≠s2.heap.objs.size:=Nat.ne_of_lt hl;obtain⟨z1,z2⟩:=f2 b hb;refine⟨⟨by rw [ag Km];exact z1,z2⟩,?_⟩
  rw [<- Ŀ];show b<(s2.heap.push _).objs.size;rw [Heap.size_push];exact Nat.lt_succ_of_lt hl
 have old:∀ b o,s3.heap.get? b=some o->Ü.get? b=some o:=λ b o e=>Ű.extBut b o (Nat.ne_of_lt (Heap.lt_size e)) (Heap.get?_push_of_some _ e);have loop:∀ sS:Shared,sS.heap = Ü->sS.os=s3.os->sS.gens=s3.gens->codeAny (model X.prog X.w) X.A (.compLoop (.ListComp elt [⟨tg,iter,[],0⟩] sc pos) 0 (.ref it) (.ref s2.heap.objs.size) (compEnvC sc cl s3.heap.objs.size X.env))
   (compPost (model X.prog X.w) X.A X.xe (some (assign (.Name y py) X.env)) (λ _ s'=>SP X pins De .next s') (.ref s2.heap.objs.size) s3.heap.objs.size) sS:=by
  intro sS eh eo eg;subst eh;have J0:Inv (bv X sc cl (ts++zs) s3 (ae H2 s2.heap.objs.size (.lst [])) s3.heap.objs.size fp) [] (List.replicate ts.length none++cJ js σ) (ae H2 s2.heap.objs.size (.lst [])) sS:=dW I3 S ě (Nat.le_refl _) eo eg old hn;generalize hX:bv X sc cl (ts++zs) s3 (ae H2 s2.heap.objs.size (.lst [])) s3.heap.objs.size fp=X' at J0;have ê:∀{H':Hp},(∀ b∈fp,H' b=none)->∀ b∈fp,dh X' [] H' b:=λ {H'} hn b hb=>by
   subst hX;obtain⟨⟨_,z1,z2,z3,z4,z5⟩,z6⟩:=ě b hb;refine⟨hn b hb,Nat.ne_of_lt z6,λ q=>?_,.inl hb,λ y c e=>z4 y c (S.sub _ _ e),λ p hp=>absurd (show p∈([]:List (Addr × Obj)) from hp) (by simp)⟩
   rcases List.mem_cons.mp (I3.î b q) with e | e
   ·exact z1 e
   ·exact z2 e
  have Je:tn 0 sS.heap:=T.keep _ _ _ Į λ b hb o e=>old b o (by rw [<- Ŀ];exact Heap.get?_push_of_some _ e)
  refine gZ (λ n s'=>∃ i ys os H',os.length=ts.length/\Inv X' [] (os++cJ js σ) H' s'/\tn i s'.heap/\(∀ b∈fp,H' b=none)/\W i n ys H') ?_ m0 ⟨0,[],_,_,List.length_replicate,J0,Je,λ b hb=>(ě b hb).1.1,w0⟩;rintro n s' ⟨i,ys,os,H',á,Iv,st,fr,w⟩;obtain⟨hD,alt⟩:=turn i n ys H' w;have eP:X'.prog=X.prog:=by subst hX;rfl
  have eW:X'.w=X.w:=by subst hX;rfl
  have eK:X'.K=X.K:=by subst hX;rfl
  have eC:X'.calm=true:=by subst hX;exact hc
  have eA:X'.A=X.A:=by subst hX;rfl
  have eE:X'.env=compEnvC sc cl s3.heap.objs.size X.env:=by subst hX;rfl
  have eX:X'.xe = λ _ _=>False:=by subst hX;rfl
  rcases alt with⟨stop,q⟩ | ⟨go,hlen,step⟩
  ·have d:=T.done X' eP eW eK eC i [] s' _ H' (λ _ _=>False) Iv (ê fr) st stop;rw [eA] at d;refine aT d λ r s4 ⟨hr,I4⟩=>?_;subst hr;obtain⟨m,hm,_⟩:=id I4.loc;have fC:H' s3.heap.objs.size=none:=by
    have z:=I4.free;rw [eE] at z;exact z
   rw [eE] at hm;subst hX;have I5:Inv X pins σ H' s4:=gk (h':=s4.heap) I3 ě (Nat.le_refl _) I4 ⟨rfl,λ _ _=>rfl⟩;show wpAny _ _ (assign (.Name y py) X.env (.ref s2.heap.objs.size)) _ _ s4;have nC:∀ b,b<s3.heap.objs.size->b≠s3.heap.objs.size:=λ b hb=>Nat.ne_of_lt hb;have nL:X.env.locals≠s3.heap.objs.size:=nC _ I3.lt;have SI:∀ z c,X.env.cells.lookup z=some c->c≠s3.heap.objs.size:=λ z c e=>by
    obtain⟨v,o,ho,_⟩:=I3.cell z c e;exact nC _ (Heap.lt_size ho)
   refine wpAny_assign_Name (jT I5 hN Vd hy (v:=.ref s2.heap.objs.size) rfl (λ s5 I6 hb=>?_) hf);obtain⟨a5,Vf,Vg⟩:=hb;have Vh:s3.heap.objs.size≠a5:=by
    rcases Vg with e | e
    ·rw [e];exact nL.symm
    ·exact(SI _ _ e).symm
   refine⟨m,hm.sameBut Vf Vh,λ h' JG=>?_⟩;have I7:Inv X pins (σ.set iy (some (.ref s2.heap.objs.size))) H' { s5 with heap:=h',toks:=s5.toks } :=
    I6.turned (h':=h') (t':=s5.toks) (it:=s3.heap.objs.size) (λ b o hb e=>(JG.2 b hb).trans e) fC nL.symm (.inr I3.sz) SI λ p hp=>by
     obtain⟨e1,_⟩:=I3.pin p hp;exact nC _ (Heap.lt_size e1)
   exact⟨_,H',I7,q⟩
  ·have d:=T.item X' eP eW eK eC i [] s' _ H' (λ _ _=>False) Iv (ê fr) st go;rw [eA] at d;refine aT d λ r s4 ⟨u,hr,h4⟩=>?_;subst hr;refine aT h4 λ _ s5 ⟨y,H5,I5,r5,y5,ĕ,Jr⟩=>?_;have Js:=I5.pinned (ê Jr) (T.obj _ _ ĕ);have Kn:PG X' tg g:=by subst hX;exact hg _ _ _ _
   have g6:=Kn _ s5 _ H5 y u _ Js r5 (step y H5 y5 os á);rw [eP,eW,eA,eE,eX] at g6;refine aT g6 λ _ s6 ⟨Mg,H6,I6,⟨ß,į,e6⟩,Ko⟩=>?_;subst e6;have LL:PE X' elt te:=by subst hX;exact he _ _ _ _
   have g7:=LL _ s6 _ H6 _ I6 Ko;rw [eP,eW,eA,eE,eX] at g7;refine aT g7 λ uv s7 ⟨v7,H7,I7,r7,LM,m',ť,w7⟩=>?_;have g8:=(bh (X:=X')) _ s7 _ H7 (.ref s2.heap.objs.size) [v7] (.ref s2.heap.objs.size) [uv] (λ _ H8=>H8=ae H7 s2.heap.objs.size (.lst (ys ++ [v7]))) I7 rfl (.cons r7 .nil) ⟨_,ys,v7,rfl,rfl,LM,hlen,rfl⟩;rw [eP,eW,eA,eX] at g8;refine aT g8 λ _ s8 ⟨_,H8,I8,_,e8⟩=>?_;subst e8;refine⟨m',ť,i+1,ys ++ [v7],ß,_,į,I8.à,T.keep _ _ _ ĕ λ b hb o e=>(I8.pin (b,o) (List.mem_append_right _ (List.mem_append_right _ (aZ hb e)))).1,λ b hb=>?_,w7⟩;obtain⟨o',e',_⟩:=T.obj _ _ ĕ b hb;exact(I8.pin (b,o') (List.mem_append_right _ (List.mem_append_right _ (aZ hb e')))).2.1
 have Jg:tn 0 Ü:=T.keep _ _ _ Į λ b hb o e=>old b o (by rw [<- Ŀ];exact Heap.get?_push_of_some _ e)
 exact codeAny_compStart_list (loop _ rfl rfl rfl) (T.self _ 0 _ _ _ Jg (loop _ rfl rfl rfl))
end
end My
namespace My
open PySem PySem.W L2
def w9 (K:PySem.W.Frag)(n:Nat)(t:vy):TG:=λ v σ H Q=>∃ a xs,v=.ref a/\Ã K H a xs/\xs.length=n/\t xs σ H Q
section
variable {X:Cx}{pos:Pos}
theorem vm {es:List Expr}{k:Nat}{t:vy}{n:Nat}(hc:X.calm=true)(h:E6 X es t)
  (hn:(assignEach es X.env).length=n:=by rfl)(Jc:(assignEach es X.env).findIdx? (·.1)=none:=by rfl):PG X (.Tuple es k pos) (w9 X.K n t):=by
 intro pins s σ H v u Q I r hw;obtain⟨a,xs,e1,hq,hl,hw⟩:=hw;subst e1;cases r;obtain⟨its,rv,ht,hz⟩:=I.list hq;rw [PyProof.Rows.assign_Tuple];refine wpAny_bind (wpAny_standAt ?_);unfold unpack;rw [Jc,show(assignEach es X.env).length=its.toArray.size by rw [hn,List.size_toArray,<- rv.length];exact hl.symm]
 refine wpAny_bind (wpAny_holding (kun_itemsOf (I.ok.hd hc) ht.isList λ h' hx=>?_));have I1:Inv X pins σ H { s with heap:=h' }:=I.kept (t':=s.toks) λ b o e=>hx b o (Nat.ne_of_lt (Heap.lt_size e)) e
 exact h pins _ σ H xs _ Q I1 (by simpa using rv) hw
variable {K:Frag}{te:TE}{g:TG}{k:Nat}{cap:St}{D:Addr}{H1:Hp}{Q:Hp->Prop}
theorem jO {lo:Int}{n:Nat}(Pv:Nat->List V->Hp->Prop)(hz:n<sizeLine)(h0:Pv 0 [] (ae H1 D (.lst [])))
  (hs:∀ i ys H,i<n->ys.length=i->H D=some (.lst ys)->Pv i ys H->∀ os:St,os.length=k->∀ R:VK,(∀ y H4,H4 D=some (.lst ys)->Pv (i+1) (ys ++ [y]) (ae H4 D (.lst (ys ++ [y])))->R y H4)->g (.int (lo+i)) (os++cap) H λ Ù H0=>(∃ ß:St,ß.length=k/\Ù = ß ++ cap)/\te Ù H0 R)
  (hd:∀ ys H,ys.length=n->H D=some (.lst ys)->Pv n ys H->Q H) :
  ∃ W:Nat->Nat->List V->Hp->Prop,(∃ m,W 0 m [] (ae H1 D (.lst []))) /\
   ∀ i m ys H2,W i m ys H2->H2 D=some (.lst ys)/\(((wx lo n).stop i H2/\Q H2)\/((wx lo n).go i H2/\ys.length<sizeLine /\
    ∀ x H3,(wx lo n).Ŋ i H2 x H3->∀ os:St,os.length=k->g x (os++cap) H3 λ Ù H0=>(∃ ß:St,ß.length=k/\Ù = ß ++ cap)/\te Ù H0 λ y H4=>H4 D=some (.lst ys)/\∃ m',m'<m/\W (i+1) m' (ys ++ [y]) (ae H4 D (.lst (ys ++ [y]))))):=by
 refine⟨λ i m ys H=>m=n-i/\i<=n/\ys.length=i/\H D=some (.lst ys)/\Pv i ys H,⟨n,by simp,Nat.zero_le _,rfl,aL,h0⟩,?_⟩
 rintro i m ys H ⟨rfl,hi,hy,hD,p⟩;refine⟨hD,?_⟩;by_cases þ:i<n
 ·refine .inr ⟨þ,by omega,λ x H' y=>?_⟩
  obtain⟨e,y⟩:=y;subst e y;exact λ os á=>hs i ys _ þ hy hD p os á _ λ z H4 LN p4=>⟨LN,n-(i+1),by omega,rfl,þ,by rw [List.length_append,hy];rfl,aL,p4⟩
 ·have e:i=n:=by omega
  subst e;exact .inl ⟨Nat.le_refl _,hd ys H hy hD p⟩
theorem iT:∀{ns:List Int}{its:List Value},Vals (ns.map V.int) its->∃ xs:List (Int × Tok),its=xs.map (λ p=>Value.int p.1 p.2)/\ns=xs.map (·.1)
 | [],_,r=>by cases r;exact⟨[],rfl,rfl⟩
 | n::ns,_,r=>by
  rw [List.map_cons] at r;cases r with
  | cons r1 r2 =>
   obtain⟨t,rfl⟩:=r1;obtain⟨xs,e1,e2⟩:=iT r2;exact⟨(n,t)::xs,by rw [e1];rfl,by rw [e2];rfl⟩
theorem qS {xs:List (Int × Tok)}{i:Nat}(h:i<xs.length):numAt xs.toArray i=(xs.map (·.1))[i]'(by rw [List.length_map];exact h):=by
 simp [numAt,h]
end
structure fH (K:Frag)(mg:Str->Option Value)(D:Addr)(nm fld:Str)(C f:Addr)(fd:FuncData):Prop where
 cls:Ø K D nm C f
 Kp:mg nm=some (.ref C)
 ok:∀(P:Program)(w:World)(base:Heap),Â P w K mg base av 1 f fd ["self",fld] (mI C fld)
 bi:Binds K fd ["self",fld] []
structure Df (P:Program)(w:World)(K:Frag)(mg:Str->Option Value)(base:Heap)(cx:kc)(k:Nat)(nm:Str)(ps:List Str)(sp:Sp)(g:Addr)(gd:FuncData):Prop where
 G:Â P w K mg base cx k g gd ps sp
 b:Binds K gd ps []
 kp:keepIn K (.ref g)=true
 m:mg nm=some (.ref g)
theorem gr {P:Program}{w:World}{X:Cx}:dB (cK P w) X E0:=λ _ _ _ _ _ _ _ h=>by
 obtain⟨_,_,_,_,_,_,_,_,_,_,_,_,_,h⟩:=h;exact h.elim
def cS (C:Addr)(fld:Str)(x:V)(H:Hp)(E:XK):Prop:=∀ e dx,H e=none->H dx=none->dx≠e->E (.ref C) (some e) (ae (ae H dx (.xd [(fld,x)])) e (gY e C (some dx)))
def K1 (K:Frag)(H:Hp)(v:V)(n:String):Prop:=∃ t,Kd K H v t/\kitOne K t (.type n)=some false
theorem K1.ext {K:Frag}{H H':Hp}{v:V}{n:String}(h:K1 K H v n)(x:Ext H H'):K1 K H' v n:=by
 obtain⟨t,k,e⟩:=h;exact⟨t,k.ext x,e⟩
theorem fm {lo hi:Int}{d:PyData}(h:lM lo hi d=true):∃ i,d=.int i/\lo<=i/\i<=hi:=by
 cases d with
 | int i =>
  have h':(decide (lo<=i)&&decide (i<=hi))=true:=h;rw [Bool.and_eq_true,decide_eq_true_iff,decide_eq_true_iff] at h';exact⟨i,rfl,h'.1,h'.2⟩
 | _=>cases h
def cG (bs:List Bool)(i:Nat):Prop:=(∀ j b,j<i->bs[j]?=some b->b=true)/\bs[i]?=some false
theorem aP {H0 H:Hp}{l:Addr}(o:HO)(x:Ext H0 H)(h:H0 l=none):Ext H0 (ae H l o):=λ b u e=>by
 rw [ag (λ z=>by rw [z,h] at e;cases e)]
 exact x b u e
theorem aA {α:Type}{xs:List α}{i:Nat}{x:α}(h:xs[i]?=some x):xs.take (i+1)=xs.take i ++ [x]:=by
 rw [List.take_succ,h];rfl
def Kept (H H':Hp)(p:Addr):Prop:=∀ b o,H b=some o->b≠p->H' b=some o
theorem Kept.refl (H:Hp)(p:Addr):Kept H H p:=λ _ _ h _=>h
theorem Kept.trans {H H1 H2:Hp}{p:Addr}(x:Kept H H1 p)(y:Kept H1 H2 p):Kept H H2 p:=λ b o h n=>y b o (x b o h n) n
theorem Ext.kept {H H':Hp}(x:Ext H H')(p:Addr):Kept H H' p:=λ b o h _=>x b o h
def wo (H:Hp)(p:Addr):Hp:=λ b=>if b=p then none else H b
theorem ai (H:Hp)(p:Addr):Ext (wo H p) H:=λ b o e=>by
 unfold wo at e;split at e
 ·cases e
 ·exact e
theorem aK {H:Hp}{p b:Addr}{o:HO}(n:b≠p)(e:H b=some o):wo H p b=some o:=by unfold wo;rw [if_neg n];exact e
theorem aB {H H':Hp}{p:Addr}(k:Kept H H' p):Ext (wo H p) (wo H' p):=λ b o e=>by
 unfold wo at e;split at e
 ·cases e
 ·rename_i n
  exact aK n (k b o e n)
structure Ú (H:Hp)(p:Addr):Prop where
 ex:∃ a b c:Int,H p=some (.lst [.int a,.int b,.int c])/\0<=a/\0<=b/\0<=c/\c<2147483647
theorem Ú.ext {H H':Hp}{p:Addr}(h:Ú H p)(x:Ext H H'):Ú H' p:=by
 obtain⟨a,b,c,e,r⟩:=h.ex;exact⟨a,b,c,x _ _ e,r⟩
theorem Ú.ne {H:Hp}{p q:Addr}(h:Ú H p)(e:H q=none):q≠p:=λ z=>by
 obtain⟨a,b,c,f,_⟩:=h.ex;rw [z,f] at e;cases e
structure Fi (k n:Nat)(d:PyData):Prop where
 sh:d.showable=true
 dp:d.depth<=k
 lv:d.leavesShort 64=true
 bk:d.bulk<=n
theorem BC {i:Int}(h:i.natAbs<10^30):Fi 0 2 (.int i):=by
 refine⟨?_,by simp [PyData.depth],?_,by simp [PyData.bulk]⟩
 ·simp only [PyData.showable,decide_eq_true_eq];by_cases z:i.natAbs=0
  ·rw [z];decide
  ·exact(Nat.log2_lt z).mpr (Nat.lt_trans h (by decide +kernel))
 ·have e:=int_text_length_le10 (k:=30) (by decide) h
  simp only [PyData.leavesShort,PyData.shown];refine decide_eq_true (show(Str.ofString (toString i)).length<=64 from ?_);rw [ofString_length];omega
theorem tM {i:Int}(h1:-1000000000<=i)(h2:i<=1000000000):Fi 0 2 (.int i):=BC (Nat.lt_of_le_of_lt (show i.natAbs<=1000000000 by omega) (by decide))
structure re (K:Frag)(C:Addr)(fld:Str):Prop where
 it:mE K C
 hd:hasDictIn K C=true
 nf:findIn K (.ref C) fld=some none
section
variable {K:Frag}{H:Hp}{D:bA}{σ:St}{p:Addr}
theorem jp {r:R2}{ta tb:TE}{Q:VK}(h:ta σ H λ x H1=>tb σ H1 λ y H2=>r x y H2 Q):aJ r ta tb σ H Q:=h
theorem Ú.up {l:Addr}{o:HO}(b:Ú H p)(n:l≠p):Ú (ae H l o) p:=by
 obtain⟨x,y,z,hp,r⟩:=b;exact⟨x,y,z,by rw [ag n.symm];exact hp,r⟩
theorem aQ {te:TE}{i:Nat}{u:TS}(h:te σ H λ v H1=>u D (σ.set i (some v)) H1):aH (cH te (aW i)) u D σ H:=h
end
def wt (H:Hp)(p t:Addr):Hp:=wo (wo H p) t
theorem jh (H:Hp)(p t:Addr):Ext (wt H p t) H:=(ai _ t).trans (ai H p)
theorem gu {H:Hp}{p t b:Addr}{o:HO}(n:b≠p)(m:b≠t)(e:H b=some o):wt H p t b=some o:=aK m (aK n e)
theorem kY {H H':Hp}{p t:Addr}(k:Kept H H' p):Ext (wt H p t) (wt H' p t):=aB ((aB k).kept t)
theorem iE {H H':Hp}(x:Ext H H')(p t:Addr):Ext (wt H p t) (wt H' p t):=kY (x.kept p)
theorem fF {H:Hp}{p a:Addr}{o:HO}(h:wo H p a=some o):a≠p:=λ e=>by
 unfold wo at h;rw [if_pos e] at h;cases h
theorem ba {H H':Hp}(x:Ext H H')(p:Addr):Ext (wo H p) (wo H' p):=aB (x.kept p)
structure GE (p:Addr)(k m:Nat)(te:TE):Prop where
 h:∀(σ:St)(H:Hp)(Q:VK),Ú H p->(∀ v H',Ext H H'->(∃ d,Ð (wo H' p) v d/\Fi k m d)->Q v H')->te σ H Q
section
variable {p:Addr}{k m k' m' n:Nat}{te ta tb:TE}{t:TA}
theorem uM {v:V}{d:PyData}(r:∀ G,Ð G v d)(f:Fi k m d):GE p k m (tC v):=⟨λ σ H Q bx q=>q v H (Ext.refl _) ⟨d,r _,f⟩⟩
theorem ge_int {i:Int}(h1:-1000000000<=i)(h2:i<=1000000000):GE p 0 2 (tC (.int i)):=uM (λ _=>.int _) (tM h1 h2)
end
theorem rG {C:Addr}{fld:Str}{v:V}{H1:Hp}{E':XK}(h:∀ e dx H',Ext H1 H'->H' e=some (gY e C (some dx))->H' dx=some (.xd [(fld,v)])->E' (.ref C) (some e) H'):cS C fld v H1 E':=λ e dx he Ż ne=>by
 have x2:=Ext.new (o:=.xd [(fld,v)]) Ż;have KY:ae H1 dx (.xd [(fld,v)]) e=none:=by rw [ag ne.symm];exact he
 have x3:=Ext.new (o:=gY e C (some dx)) KY;exact h e dx _ (x2.trans x3) aL (x3 _ _ aL)
section
variable {X:Cx}
def lJ (K:Frag):R2:=λ x y H Q=>∃ p q xs,x=.ref p/\y=.ref q/\Ã K H p xs/\Ã K H q []/\Q (.bl (!xs.isEmpty)) H
theorem jA (hu:X.A.units<cLine):iJ X (compareOp .NotEq) (lJ X.K):=by
 intro pins s σ H x y v u Q I rx ry h;obtain⟨p,q,xs,rfl,rfl,hp,hq,k⟩:=h;cases rx;cases ry;obtain⟨its,r1,t1,_⟩:=I.list hp;obtain⟨ø,r2,t2,_⟩:=I.list hq;have l1:=r1.length;have l2:=r2.length;have e2:ø=[]:=List.length_eq_zero_iff.mp l2.symm;subst e2;cases xs with
 | nil =>
  have e1:its=[]:=List.length_eq_zero_iff.mp l1.symm;subst e1;exact SeqAt.RcNeAt.lists (e:=λ _=>true) t1.isList t2.isList rfl hu (λ j h _=>absurd h (Nat.not_lt_zero _)) X.prog X.w X.xe _ ⟨.bl false,H,I,rfl,k⟩
 | cons x xs =>
  exact SeqAt.RcNeAt.lists_lengths t1.isList t2.isList (by simp [<- l1]) hu X.prog X.w X.xe _ ⟨.bl true,H,I,rfl,k⟩
end
theorem z9 {t:TA}{σ:St}{H:Hp}{Q:VK}(h:t σ H λ xs H1=>xs.length<=sizeLine/\∀ p,H1 p=none->Q (.ref p) (ae H1 p (.lst xs))):bM t σ H Q:=h
section
variable {K:Frag}{H:Hp}
def mx (K:Frag)(t:TA):TE:=λ σ H Q=>t σ H λ xs H1=>xs.length<=sizeLine/\∀ p,H1 p=none->K.lookup p=none->Q (.ref p) (ae H1 p (.lst xs))
theorem pT {X:Cx}{es:List Expr}{t:TA}{pos:Pos}(h:PA X es t):PE X (.List es pos) (mx X.K t):=by
 intro pins s σ H Q I hq;refine wpAny_List_spliced (aT (h pos pins s σ H _ I hq) λ us s1 ⟨xs,H1,I1,r,z,q⟩=>⟨by rw [<- r.length];exact z,?_⟩)
 have hf:H1 s1.heap.objs.size=none:=I1.É.fresh (Nat.le_refl _);have hk:X.K.lookup s1.heap.objs.size=none:=by
  cases e:X.K.lookup s1.heap.objs.size with
  | none=>rfl
  | some o=>exact absurd (Heap.lt_size (I1.Ý _ _ e)) (Nat.lt_irrefl _)
 refine⟨.ref s1.heap.objs.size,ae H1 s1.heap.objs.size (.lst xs),I1.laid (t':=s1.toks) (λ b u e=>Heap.get?_push_of_some _ e) (Nat.le_refl _) ?_,rfl,q _ hf hk⟩;exact⟨z,us,0,r,Heap.get?_push_size _ rfl⟩
theorem Ã.neN {a p:Addr}{xs:List V}(h:Ã K H a xs)(hp:H p=none)(hk:K.lookup p=none):a≠p:=λ e=>by
 subst e;rcases h with(h | ⟨o,h⟩) | ⟨o,its,n,h,_⟩
 ·rw [hp] at h;cases h
 ·rw [hp] at h;cases h
 ·rw [hk] at h;cases h
end
theorem ja {H:Hp}{p t:Addr}{o:HO}:Ext (wt H p t) (wt (ae H t o) p t):=λ c u h=>by
 have h1:=jh H p t _ _ h;have n2:=fF h;have n1:=fF (ai _ t _ _ h);exact gu n1 n2 (by rw [ag n2];exact h1)
section
variable {H:Hp}{De:bA}
theorem AW {σ:St}{t u:TS}(h:t { De with nx:=u De } σ H):aH t u De σ H:=h
end
def wK (K:Frag):V->V->Hp->VK->Prop:=λ o i H Q=>∃(p:Addr)(xs:List V)(k:Nat)(v:V),o=.ref p/\i=.int (k:Nat)/\Ã K H p xs/\xs[k]?=some v/\Q v H
theorem rX {X:Cx}:D6 X (wK X.K):=by
 intro pins s σ H o i ov iv Q I ro ri h;obtain⟨p,xs,k,v,rfl,rfl,hq,hv,q⟩:=h;cases (show ov=Value.ref p from ro);obtain⟨t,rfl⟩:=ri;obtain⟨its,r,pl,hz⟩:=I.list hq;obtain⟨u,hu,ru⟩:=r.get hv;exact wpAny_getItem_list pl.isList (x:=u) (by omega) (by have:=(List.getElem?_eq_some_iff.mp hu).1;have:=r.length;have:=jn;simp;omega) (by simpa using hu) ⟨v,H,I,ru,q⟩
theorem Ã.kp {K:Frag}{H H':Hp}{a p:Addr}{xs:List V}(h:Ã K H a xs)(k:Kept H H' p)(n:a≠p):Ã K H' a xs:=by
 rcases h with(h | ⟨o,h⟩) | h
 ·exact .inl (.inl (k _ _ h n))
 ·exact .inl (.inr ⟨o,k _ _ h n⟩)
 ·exact .inr h
theorem iA (val:Nat->Int)(ns:List Int)(h:∀(i:Nat)(hi:i<ns.length),val i=ns[i]):∀ k,k<=ns.length->preSum val k=(ns.take k).sum
 | 0,_=>by simp [preSum]
 | k+1,hk=>by
  have ih:=iA val ns h k (by omega)
  have e:ns.take (k+1)=ns.take k ++ [ns[k]]:=aA (List.getElem?_eq_getElem (by omega))
  show preSum val k+val k=_;rw [ih,h k (by omega),e,List.sum_append]
  simp
section
variable {X:Cx}
def sy (K:Frag):List V->Hp->VK->Prop:=λ vs H Q=>∃(l:Addr)(ns:List Int),vs=[.ref l]/\Ã K H l (ns.map V.int)/\Q (.int ns.sum) H
theorem gj (hc:X.calm=true):cV X (.builtin "sum") (sy X.K):=by
 intro pins s σ H xs us Q I r h;obtain⟨l,ns,rfl,hl,q⟩:=h;obtain⟨u,rfl,ru⟩:=dY r;cases (show u=Value.ref l from ru);obtain⟨its,rv,p,hz⟩:=I.list hl;obtain⟨xs,rfl,rfl⟩:=iT rv;have e:(xs.map λ p=>Value.int p.1 p.2).toArray=intItems xs.toArray:=by simp [intItems]
 have hL:s.heap.IsList l (intItems xs.toArray):=by rw [<- e];exact p.isList
 refine sum_intListG (I.ok.hd hc) hL λ h' tk t' hk=>?_;have es:preSum (numAt xs.toArray) xs.toArray.size=(xs.map (·.1)).sum:=by
  have:=iA (numAt xs.toArray) (xs.map (·.1)) (λ i hi=>qS (by simpa using hi)) xs.toArray.size (by simp)
  rw [this,List.take_of_length_le (by simp)]
 rw [es];exact⟨.int _,H,I.kept hk,⟨t',rfl⟩,q⟩
def Cr (K:Frag):List V->Hp->VK->Prop:=λ vs H Q=>∃ x S t b,vs=[x,.ref S]/\Kd K H x t/\kitOne K t (.ref S)=some b/\Q (.bl b) H
theorem ng (N:qG X.K):cV X (.builtin "isinstance") (Cr X.K):=by
 intro pins s σ H xs us Q I r h;obtain⟨x,S,t,b,rfl,kd,e,q⟩:=h;obtain⟨u,u',rfl,ru,J5⟩:=jC r;cases (show u'=Value.ref S from J5);rcases kd with ty | ⟨p,ys,rfl,hq,rfl⟩ | ⟨a,C,rfl,ea,T,rfl⟩
 ·exact ky I ru ty e λ tk=>⟨.bl b,H,I.tok _,rfl,q⟩
 ·cases (show u=Value.ref p from ru);obtain⟨its,_,⟨o,h1,h2,_⟩,_⟩:=I.tuple hq;exact kia_one kitx_tuple I.Ý ⟨o,h1,h2⟩ e (λ z=>nomatch z) λ tk=>⟨.bl b,H,I.tok _,rfl,q⟩
 ·cases (show u=Value.ref a from ru);exact kia_one (rL T N.gt N.tk) I.Ý (ea.inst I.É) e (λ z=>nomatch z) λ tk=>⟨.bl b,H,I.tok _,rfl,q⟩
end
mutual
def dD:PyData->PyData->Bool
 | .list xs,.list ys=>Ĥ xs ys
 | .tuple xs,.tuple ys=>Ĥ xs ys
 | .none,.none=>true
 | .bool a,.bool b=>a==b
 | .bool a,.int j=>(if a then(1:Int) else 0)==j
 | .int i,.bool b=>i==(if b then(1:Int) else 0)
 | .int i,.int j=>i==j
 | .str x,.str y=>x==y
 | _,_=>false
def Ĥ:List PyData->List PyData->Bool
 | [],[]=>true
 | x::xs,y::ys=>dD x y && Ĥ xs ys
 | _,_=>false
end
mutual
def aN:PyData->Bool
 | .list xs=>Ê xs
 | .tuple xs=>Ê xs
 | .dict _=>false
 | _=>true
def Ê:List PyData->Bool
 | []=>true
 | x::xs=>aN x && Ê xs
end
theorem i4:∀{ds:List PyData},(∀ d∈ds,aN d=true)->Ê ds=true
 | [],_=>by simp [Ê]
 | x::xs,h=>by
  simp only [Ê,h x (List.mem_cons_self ..),i4 λ d hd=>h d (List.mem_cons_of_mem _ hd),Bool.and_self]
mutual
theorem eO:∀{d:PyData},aN d=true->dD d d=true
 | .none,_=>by simp [dD]
 | .bool b,_=>by simp [dD]
 | .int i,_=>by simp [dD]
 | .str x,_=>by simp [dD]
 | .list xs,h=>by simp only [dD];exact ñ (by simpa only [aN] using h)
 | .tuple xs,h=>by simp only [dD];exact ñ (by simpa only [aN] using h)
 | .dict _,h=>by simp [aN] at h
theorem ñ:∀{ds:List PyData},Ê ds=true->Ĥ ds ds=true
 | [],_=>by simp [Ĥ]
 | d::ds,h=>by
  simp only [Ê,Bool.and_eq_true] at h;simp only [Ĥ,eO h.1,ñ h.2,Bool.and_self]
end
mutual
theorem Ð.det {G:Hp}:∀{v:V}{d e:PyData},Ð G v d->Ð G v e->d=e
 | _,_,_,.Æ,r=>by cases r;rfl
 | _,_,_,.bl b,r=>by cases r;rfl
 | _,_,_,.int i,r=>by cases r;rfl
 | _,_,_,.str x,r=>by cases r;rfl
 | _,_,_,.lst h t,r=>by
  cases r with
  | lst h' t'=>rw [h] at h';cases h';rw [Á.det t t']
  | tup h' _=>rw [h] at h';cases h'
  | ð h'=>rw [h] at h';cases h'
  | ĸ h' _=>rw [h] at h';cases h'
 | _,_,_,.tup h t,r=>by
  cases r with
  | lst h' _=>rw [h] at h';cases h'
  | tup h' t'=>rw [h] at h';cases h';rw [Á.det t t']
  | ð h'=>rw [h] at h';cases h'
  | ĸ h' _=>rw [h] at h';cases h'
 | _,_,_,.ð h,r=>by
  cases r with
  | lst h' _=>rw [h] at h';cases h'
  | tup h' _=>rw [h] at h';cases h'
  | ð h'=>rfl
  | ĸ h' _=>rw [h] at h';cases h'
 | _,_,_,.ĸ h t,r=>by
  cases r with
  | lst h' _=>rw [h] at h';cases h'
  | tup h' _=>rw [h] at h';cases h'
  | ð h'=>rw [h] at h';cases h'
  | ĸ h' t'=>rw [h] at h';cases h';rw [Ð.det t t']
theorem Á.det {G:Hp}:∀{vs:List V}{ds es:List PyData},Á G vs ds->Á G vs es->ds=es
 | _,_,_,.nil,r=>by cases r;rfl
 | _,_,_,.cons h t,r=>by
  cases r with
  | cons h' t'=>rw [Ð.det h h',Á.det t t']
end
theorem je:∀(xs ys:List PyData),((List.range (min xs.length ys.length)).all (λ j=>dD (xs.getD j .none) (ys.getD j .none))&&xs.length==ys.length) = Ĥ xs ys
 | [],[]=>by simp [Ĥ]
 | [],y::ys=>by simp [Ĥ]
 | x::xs,[]=>by simp [Ĥ]
 | x::xs,y::ys=>by
  have ih:=je xs ys;simp only [Ĥ];rw [<- ih,List.length_cons,List.length_cons,Nat.succ_min_succ,List.range_succ_eq_map,List.all_cons,List.all_map,Bool.and_assoc]
  congr 1
  rw [show(xs.length+1==ys.length+1)=(xs.length==ys.length) from by simp]
  rfl
section
variable {X:Cx}
structure HG (A:Around)(s:Shared)(u v:Value)(b:Bool):Prop where
 eq:SeqAt.RcAt A s u v b
 ne:SeqAt.RcNeAt A s u v (!b)
structure IB (A:Around)(s:Shared)(u v:Value)(b:Bool):Prop where
 eq:SeqAt.RcAt A s u v b
 ne:SeqAt.RcNeAt A s u v (!b)
 at_:SeqAt.EqAt A s u v b
theorem wu {A:Around}{s:Shared}{p q:Addr}{its ø:List Value}(hu:A.units<cLine)(t1:s.heap.IsTuple p its.toArray)(t2:s.heap.IsTuple q ø.toArray)(e:Nat->Bool)(he:∀ j (h1:j<its.length)(h2:j < ø.length),SeqAt.EqAt A.in1 s its[j] ø[j] (e j)) :
  HG A s (.ref p) (.ref q) ((List.range (min its.length ø.length)).all e&&its.length == ø.length):=by
 have h':∀ j (h1:j<its.toArray.size)(h2:j < ø.toArray.size),SeqAt.EqAt A.in1 s its.toArray[j] ø.toArray[j] (e j):=λ j h1 h2=>by
  simpa using he j (by simpa using h1) (by simpa using h2)
 have a:=SeqAt.RcAt.tuples (e:=e) t1 t2 hu h';have b:=SeqAt.RcNeAt.tuples (e:=e) t1 t2 hu h';rw [List.size_toArray,List.size_toArray] at a b;exact⟨a,b⟩
theorem uD {A:Around}{s:Shared}{p q:Addr}{its ø:List Value}(hu:A.units<cLine)(t1:s.heap.IsList p its.toArray)(t2:s.heap.IsList q ø.toArray)(e:Nat->Bool)(he:∀ j (h1:j<its.length)(h2:j < ø.length),SeqAt.EqAt A.in1 s its[j] ø[j] (e j)) :
  HG A s (.ref p) (.ref q) ((List.range (min its.length ø.length)).all e&&its.length == ø.length):=by
 have h':∀ j (h1:j<its.toArray.size)(h2:j < ø.toArray.size),SeqAt.EqAt A.in1 s its.toArray[j] ø.toArray[j] (e j):=λ j h1 h2=>by
  simpa using he j (by simpa using h1) (by simpa using h2)
 by_cases sz:its.length = ø.length
 ·have a:=SeqAt.RcAt.lists (e:=e) t1 t2 (by simpa using sz) hu h'
  have b:=SeqAt.RcNeAt.lists (e:=e) t1 t2 (by simpa using sz) hu h'
  rw [List.size_toArray] at a b;have z:((List.range (min its.length ø.length)).all e&&its.length == ø.length)=(List.range its.length).all e:=by
   rw [sz,Nat.min_self];simp
  rw [z];exact⟨a,b⟩
 ·have z:((List.range (min its.length ø.length)).all e&&its.length == ø.length)=false:=by
   rw [show(its.length == ø.length)=false from by simpa using sz]
   simp
  rw [z];exact⟨SeqAt.RcAt.lists_lengths t1 t2 (by simpa using sz) hu,SeqAt.RcNeAt.lists_lengths t1 t2 (by simpa using sz) hu⟩
mutual
theorem n8 {pins:List (Addr × Obj)}{σ:St}{H:Hp}{s:Shared}(I:Inv X pins σ H s):∀{x:V}{d:PyData},Ð H x d->∀{A:Around}{y:V}{e:PyData}{u v:Value},Ð H y e->aN d=true->aN e=true->A.units+d.depth<cLine->RelV x u->RelV y v->IB A s u v (dD d e)
 | _,_,.Æ,A,y,e,u,v,ry,pd,pe,hu,ru,rv=>by
  have h0:A.units<cLine:=by omega
  cases ru;cases ry with
  | Æ=>cases rv;simp only [dD];exact⟨.none_none,.none_none,.same _⟩
  | bl b=>cases rv;simp only [dD];exact⟨.none_bool _,.none_bool _,.none_bool _⟩
  | int j=>obtain⟨t,rfl⟩:=rv;simp only [dD];exact⟨.none_int _ _,.none_int _ _,.none_int _ _⟩
  | str z=>obtain⟨t,rfl⟩:=rv;simp only [dD];exact⟨.none_str _ _,.none_str _ _,.none_str _ _⟩
  | lst h _=>cases rv;obtain⟨its,_,t,_⟩:=I.list (Ã.of (K:=X.K) h);simp only [dD];exact⟨.none_list t.isList h0,.none_list t.isList h0,.none_list t.isList h0⟩
  | tup h _=>cases rv;obtain⟨its,_,t,_⟩:=I.tuple (Ì.of (K:=X.K) h);simp only [dD];exact⟨.none_tuple t h0,.none_tuple t h0,.none_tuple t h0⟩
  | ð _=>simp [aN] at pe
  | ĸ _ _=>simp [aN] at pe
 | _,_,.bl a,A,y,e,u,v,ry,pd,pe,hu,ru,rv=>by
  have h0:A.units<cLine:=by omega
  cases ru;cases ry with
  | Æ=>cases rv;simp only [dD];exact⟨.bool_none _,.bool_none _,.bool_none _⟩
  | bl b=>cases rv;simp only [dD];exact⟨.bool_bool _ _,.bool_bool _ _,.bool_bool _ _⟩
  | int j=>obtain⟨t,rfl⟩:=rv;simp only [dD];exact⟨.bool_int _ _ _,.bool_int _ _ _,.bool_int _ _ _⟩
  | str z=>obtain⟨t,rfl⟩:=rv;simp only [dD];exact⟨.bool_str _ _ _,.bool_str _ _ _,.bool_str _ _ _⟩
  | lst h _=>cases rv;obtain⟨its,_,t,_⟩:=I.list (Ã.of (K:=X.K) h);simp only [dD];exact⟨.bool_list _ t.isList h0,.bool_list _ t.isList h0,.bool_list _ t.isList h0⟩
  | tup h _=>cases rv;obtain⟨its,_,t,_⟩:=I.tuple (Ì.of (K:=X.K) h);simp only [dD];exact⟨.bool_tuple _ t h0,.bool_tuple _ t h0,.bool_tuple _ t h0⟩
  | ð _=>simp [aN] at pe
  | ĸ _ _=>simp [aN] at pe
 | _,_,.int i,A,y,e,u,v,ry,pd,pe,hu,ru,rv=>by
  have h0:A.units<cLine:=by omega
  obtain⟨tu,rfl⟩:=ru;cases ry with
  | Æ=>cases rv;simp only [dD];exact⟨.int_none _ _,.int_none _ _,.int_none _ _⟩
  | bl b=>cases rv;simp only [dD];exact⟨.int_bool _ _ _,.int_bool _ _ _,.int_bool _ _ _⟩
  | int j=>obtain⟨t,rfl⟩:=rv;simp only [dD];exact⟨.int_int _ _ _ _,.int_int _ _ _ _,.int_int _ _ _ _⟩
  | str z=>obtain⟨t,rfl⟩:=rv;simp only [dD];exact⟨.int_str _ _ _ _,.int_str _ _ _ _,.int_str _ _ _ _⟩
  | lst h _=>cases rv;obtain⟨its,_,t,_⟩:=I.list (Ã.of (K:=X.K) h);simp only [dD];exact⟨.int_list _ _ t.isList h0,.int_list _ _ t.isList h0,.int_list _ _ t.isList h0⟩
  | tup h _=>cases rv;obtain⟨its,_,t,_⟩:=I.tuple (Ì.of (K:=X.K) h);simp only [dD];exact⟨.int_tuple _ _ t h0,.int_tuple _ _ t h0,.int_tuple _ _ t h0⟩
  | ð _=>simp [aN] at pe
  | ĸ _ _=>simp [aN] at pe
 | _,_,.str x,A,y,e,u,v,ry,pd,pe,hu,ru,rv=>by
  have h0:A.units<cLine:=by omega
  obtain⟨tu,rfl⟩:=ru;cases ry with
  | Æ=>cases rv;simp only [dD];exact⟨.str_none _ _,.str_none _ _,.str_none _ _⟩
  | bl b=>cases rv;simp only [dD];exact⟨.str_bool _ _ _,.str_bool _ _ _,.str_bool _ _ _⟩
  | int j=>obtain⟨t,rfl⟩:=rv;simp only [dD];exact⟨.str_int _ _ _ _,.str_int _ _ _ _,.str_int _ _ _ _⟩
  | str z=>obtain⟨t,rfl⟩:=rv;simp only [dD];exact⟨.str_str _ _ _ _,.str_str _ _ _ _,.str_str _ _ _ _⟩
  | lst h _=>cases rv;obtain⟨its,_,t,_⟩:=I.list (Ã.of (K:=X.K) h);simp only [dD];exact⟨.str_list _ _ t.isList h0,.str_list _ _ t.isList h0,.str_list _ _ t.isList h0⟩
  | tup h _=>cases rv;obtain⟨its,_,t,_⟩:=I.tuple (Ì.of (K:=X.K) h);simp only [dD];exact⟨.str_tuple _ _ t h0,.str_tuple _ _ t h0,.str_tuple _ _ t h0⟩
  | ð _=>simp [aN] at pe
  | ĸ _ _=>simp [aN] at pe
 | _,_,.lst (a:=a') (xs:=xs) (ds:=ds) h rs,A,y,e,u,v,ry,pd,pe,hu,ru,rv=>by
  have h0:A.units<cLine:=by omega
  cases ru;obtain⟨its,r1,t1,_⟩:=I.list (Ã.of (K:=X.K) h);cases ry with
  | Æ=>cases rv;simp only [dD];exact⟨.list_none t1.isList h0,.list_none t1.isList h0,.list_none t1.isList h0⟩
  | bl b=>cases rv;simp only [dD];exact⟨.list_bool _ t1.isList h0,.list_bool _ t1.isList h0,.list_bool _ t1.isList h0⟩
  | int j=>obtain⟨t,rfl⟩:=rv;simp only [dD];exact⟨.list_int _ _ t1.isList h0,.list_int _ _ t1.isList h0,.list_int _ _ t1.isList h0⟩
  | str z=>obtain⟨t,rfl⟩:=rv;simp only [dD];exact⟨.list_str _ _ t1.isList h0,.list_str _ _ t1.isList h0,.list_str _ _ t1.isList h0⟩
  | @lst b' ys es h' ts =>
   cases rv;obtain⟨ø,r2,t2,_⟩:=I.list (Ã.of (K:=X.K) h');have MW:Ê ds=true:=by simpa only [aN] using pd
   have PB:Ê es=true:=by simpa only [aN] using pe
   have dd:A.in1.units+PyData.depthAll ds<cLine:=by rw [jU];simp only [PyData.depth] at hu;omega
   have k:=uD h0 t1.isList t2.isList (λ j=>dD (ds.getD j .none) (es.getD j .none)) (λ j h1 h2=>ŀ I rs ts MW PB dd r1 r2 h1 h2);rw [<- r1.length,<- r2.length,rs.length,ts.length,je] at k;simp only [dD];refine⟨k.eq,k.ne,?_⟩;by_cases e:a'=b'
   ·subst e;rw [h] at h';cases h';have:=Á.det rs ts;subst this;rw [ñ MW];exact SeqAt.EqAt.same _
   ·exact .of_refs e k.eq
  | tup h' _=>cases rv;obtain⟨ø,_,t,_⟩:=I.tuple (Ì.of (K:=X.K) h');simp only [dD];exact⟨.list_tuple t1.isList t h0,.list_tuple t1.isList t h0,.list_tuple t1.isList t h0⟩
  | ð _=>simp [aN] at pe
  | ĸ _ _=>simp [aN] at pe
 | _,_,.tup (a:=a') (xs:=xs) (ds:=ds) h rs,A,y,e,u,v,ry,pd,pe,hu,ru,rv=>by
  have h0:A.units<cLine:=by omega
  cases ru;obtain⟨its,r1,t1,_⟩:=I.tuple (Ì.of (K:=X.K) h);cases ry with
  | Æ=>cases rv;simp only [dD];exact⟨.tuple_none t1 h0,.tuple_none t1 h0,.tuple_none t1 h0⟩
  | bl b=>cases rv;simp only [dD];exact⟨.tuple_bool _ t1 h0,.tuple_bool _ t1 h0,.tuple_bool _ t1 h0⟩
  | int j=>obtain⟨t,rfl⟩:=rv;simp only [dD];exact⟨.tuple_int _ _ t1 h0,.tuple_int _ _ t1 h0,.tuple_int _ _ t1 h0⟩
  | str z=>obtain⟨t,rfl⟩:=rv;simp only [dD];exact⟨.tuple_str _ _ t1 h0,.tuple_str _ _ t1 h0,.tuple_str _ _ t1 h0⟩
  | @tup b' ys es h' ts =>
   cases rv;obtain⟨ø,r2,t2,_⟩:=I.tuple (Ì.of (K:=X.K) h');have MW:Ê ds=true:=by simpa only [aN] using pd
   have PB:Ê es=true:=by simpa only [aN] using pe
   have dd:A.in1.units+PyData.depthAll ds<cLine:=by rw [jU];simp only [PyData.depth] at hu;omega
   have k:=wu h0 t1 t2 (λ j=>dD (ds.getD j .none) (es.getD j .none)) (λ j h1 h2=>ŀ I rs ts MW PB dd r1 r2 h1 h2);rw [<- r1.length,<- r2.length,rs.length,ts.length,je] at k;simp only [dD];refine⟨k.eq,k.ne,?_⟩;by_cases e:a'=b'
   ·subst e;rw [h] at h';cases h';have:=Á.det rs ts;subst this;rw [ñ MW];exact SeqAt.EqAt.same _
   ·exact .of_refs e k.eq
  | lst h' _=>cases rv;obtain⟨ø,_,t,_⟩:=I.list (Ã.of (K:=X.K) h');simp only [dD];exact⟨.tuple_list t1 t.isList h0,.tuple_list t1 t.isList h0,.tuple_list t1 t.isList h0⟩
  | ð _=>simp [aN] at pe
  | ĸ _ _=>simp [aN] at pe
 | _,_,.ð _,_,_,_,_,_,_,pd,_,_,_,_=>by simp [aN] at pd
 | _,_,.ĸ _ _,_,_,_,_,_,_,pd,_,_,_,_=>by simp [aN] at pd
theorem ŀ {pins:List (Addr × Obj)}{σ:St}{H:Hp}{s:Shared}(I:Inv X pins σ H s):∀{xs:List V}{ds:List PyData},Á H xs ds->∀{A:Around}{ys:List V}{es:List PyData}{its ø:List Value},Á H ys es->Ê ds=true->Ê es=true->A.units+PyData.depthAll ds<cLine->Vals xs its->Vals ys ø ->
  ∀{j:Nat}(h1:j<its.length)(h2:j < ø.length),SeqAt.EqAt A s its[j] ø[j] (dD (ds.getD j .none) (es.getD j .none))
 | _,_,.nil,A,ys,es,its,ø,ts,pd,pe,hu,r1,r2,j,h1,h2=>by cases r1;exact absurd h1 (Nat.not_lt_zero _)
 | _,_,.cons (v:=x) (d:=d) r rs,A,ys,es,its,ø,ts,pd,pe,hu,r1,r2,j,h1,h2=>by
  cases ts with
  | nil=>cases r2;exact absurd h2 (Nat.not_lt_zero _)
  | cons r' ts =>
   cases r1 with
   | cons q1 r1 =>
    cases r2 with
    | cons q2 r2 =>
     simp only [Ê,Bool.and_eq_true] at pd pe;simp only [PyData.depthAll] at hu;cases j with
     | zero =>
      exact(n8 I r (A:=A) r' pd.1 pe.1 (by omega) q1 q2).at_
     | succ j=>exact ŀ I rs (A:=A) ts pd.2 pe.2 (by omega) r1 r2 (by simpa using h1) (by simpa using h2)
end
def oH (g:Bool->Bool):R2:=λ x y H Q=>∃ d e,Ð H x d/\Ð H y e/\aN d=true/\aN e=true/\d.depth<=20/\Q (.bl (g (dD d e))) H
theorem tQ (hu:X.A.units+64<cLine):iJ X (compareOp .Eq) (oH id):=by
 intro pins s σ H x y v u Q I rx ry h;obtain⟨d,e,r1,r2,p1,p2,dd,k⟩:=h;exact(n8 I r1 r2 p1 p2 (by omega) rx ry).eq X.prog X.w X.xe _ ⟨.bl _,H,I,rfl,k⟩
theorem oU (hu:X.A.units+64<cLine):iJ X (compareOp .NotEq) (oH not):=by
 intro pins s σ H x y v u Q I rx ry h;obtain⟨d,e,r1,r2,p1,p2,dd,k⟩:=h;exact(n8 I r1 r2 p1 p2 (by omega) rx ry).ne X.prog X.w X.xe _ ⟨.bl _,H,I,rfl,k⟩
end
end My
namespace My
open PySem PySem.W L2
def bJ (P:Program)(w:World)(K:Frag)(mg:Str->Option Value)(base:Heap)(CX:kc)(k:Nat)(m:Str)(ps:List Str)(S:Addr->Prop)(sp:Addr->Sp):Prop :=
 ∀ C,S C->Ķ K C/\∃ f fd,Ff K C m f/\Â P w K mg base CX k f fd ps (sp C)/\Binds K fd ps []
def cE (S:Addr->Prop)(m:Str)(sp:Addr->Sp)(E:XK)(ta:TE)(t:TA):TE:=λ σ H Q=>ta σ H λ x H1=>∃ a C dx fs,x=.ref a/\S C/\H1 a=some (.ins C dx fs)/\fs.lookup m=none /\
 t σ H1 λ vs H2=>sp C (x::vs) H2 Q E
section
variable {X:Cx}{CX:kc}{k:Nat}{S:Addr->Prop}{ps:List Str}{sp:Addr->Sp}{E:XK}{x m:Str}{p pos apos:Pos}{e o:Expr}{es:List Expr}{ta:TE}{t:TA}{σ:St}
theorem gR {pl:Sem Bool}(he:PE X o ta)(M:bJ X.prog X.w X.K X.mg X.base CX k m ps S sp)(hr:Ä k X.A)(hx:dB CX X E)(ha:PA X (e::es) t)
  (Jc:starEach (e::es) X.env=(false,eval e X.env)::starEach es X.env:=by rfl)(ó:(backTo pos (starEach es X.env)).any (·.1)=false:=by rfl)
  (ht:eval (.Call (.Attribute o m apos) (e::es) [] pos) X.env=(do
   let ov <- eval o X.env
   standAt apos.atName
   let (f,first) <- holding [ov] (getMethod ov m pl)
   callWith pos f first (backTo pos (starEach (e::es) X.env)) (backToKw pos (keywordEach [] X.env))):=by rfl) :
  PE X (.Call (.Attribute o m apos) (e::es) [] pos) (cE S m sp E ta t):=by
 intro pins s σ H Q I h;refine PySem.W.methodCall_KW (pl:=pl) (aT (he pins s σ H _ I h) λ u s1 ⟨x,H1,I1,rx,a,C,dx,fs,ex,hS,ea,l,q⟩=>?_) ht;subst ex;obtain⟨c,f,fd,hm,F,hb⟩:=M C hS;obtain rfl:u=Value.ref a:=rx;refine gw I1 ea c hm l ?_;refine PySem.W.callWith_K (first:=[.ref a]) (h₀:=X.base) I.ok.mod.KL hm.kp (aT (ha pos pins s1 σ H1 _ I1 q) λ us s2 ⟨vs,H2,I2,r,q2⟩=>⟨I2.Ý,?_⟩) Jc ó
 exact jD (us:=.ref a::us) (vs:=.ref a::vs) (dvs:=[]) F hr hb .nil hx I2 (.cons rfl r) (by rw [List.append_nil];exact q2)
theorem bB {pl:Sem Bool}(he:PE X o ta)(M:bJ X.prog X.w X.K X.mg X.base CX k m ps S sp)(hr:Ä k X.A)(hx:dB CX X E)
  (ht:eval (.Call (.Attribute o m apos) [] [] pos) X.env=(do
   let ov <- eval o X.env
   standAt apos.atName
   let (f,first) <- holding [ov] (getMethod ov m pl)
   callWith pos f first (backTo pos (starEach [] X.env)) (backToKw pos (keywordEach [] X.env))):=by rfl) :
  PE X (.Call (.Attribute o m apos) [] [] pos) (cE S m sp E ta aF):=by
 intro pins s σ H Q I h;refine PySem.W.methodCall_KW (pl:=pl) (aT (he pins s σ H _ I h) λ u s1 ⟨x,H1,I1,rx,a,C,dx,fs,ex,hS,ea,l,q⟩=>?_) ht;subst ex;obtain⟨c,f,fd,hm,F,hb⟩:=M C hS;obtain rfl:u=Value.ref a:=rx;refine gw I1 ea c hm l ?_;exact PySem.W.callWith_K0 (first:=[.ref a]) I1.Ý hm.kp (jD (us:=[.ref a]) (vs:=[.ref a]) (dvs:=[]) F hr hb .nil hx I1 (.cons rfl .nil) q)
theorem r9 {pl:Sem Bool}(he:PX X σ o ta)(M:bJ X.prog X.w X.K X.mg X.base CX k m ps S sp)(hr:Ä k X.A)(hx:sX CX X σ E)(ha:DA X σ (e::es) t)
  (Jc:starEach (e::es) X.env=(false,eval e X.env)::starEach es X.env:=by rfl)(ó:(backTo pos (starEach es X.env)).any (·.1)=false:=by rfl)
  (ht:eval (.Call (.Attribute o m apos) (e::es) [] pos) X.env=(do
   let ov <- eval o X.env
   standAt apos.atName
   let (f,first) <- holding [ov] (getMethod ov m pl)
   callWith pos f first (backTo pos (starEach (e::es) X.env)) (backToKw pos (keywordEach [] X.env))):=by rfl) :
  PX X σ (.Call (.Attribute o m apos) (e::es) [] pos) (cE S m sp E ta t):=by
 intro pins s H Q I h;refine PySem.W.methodCall_KW (pl:=pl) (aT (he pins s H _ I h) λ u s1 ⟨x,H1,I1,rx,a,C,dx,fs,ex,hS,ea,l,q⟩=>?_) ht;subst ex;obtain⟨c,f,fd,hm,F,hb⟩:=M C hS;obtain rfl:u=Value.ref a:=rx;refine gw I1 ea c hm l ?_;refine PySem.W.callWith_K (first:=[.ref a]) (h₀:=X.base) I.ok.mod.KL hm.kp (aT (ha pos pins s1 H1 _ I1 q) λ us s2 ⟨vs,H2,I2,r,q2⟩=>⟨I2.Ý,?_⟩) Jc ó
 exact vk (us:=.ref a::us) (vs:=.ref a::vs) (dvs:=[]) F hr hb .nil hx I2 (.cons rfl r) (by rw [List.append_nil];exact q2)
variable {K:Frag}{te:TE}{tt:TT}{g:TG}{cap:St}{D:Addr}{H1:Hp}{Q:Hp->Prop}{a:Addr}{xs:List V}
theorem pz (Pv:Nat->List V->Hp->Prop)(hz:xs.length<sizeLine)(h0:Pv 0 [] (ae H1 D (.lst [])))
  (hl:∀ i ys H,Pv i ys H->Ì K H a xs)
  (hs:∀ i x ys H,xs[i]?=some x->ys.length=i->H D=some (.lst ys)->Pv i ys H->∀ os:St,os.length=k->∀ R:VK,(∀ y H4,H4 D=some (.lst ys)->Pv (i+1) (ys ++ [y]) (ae H4 D (.lst (ys ++ [y])))->R y H4)->g x (os++cap) H λ Ù H0=>(∃ ß:St,ß.length=k/\Ù = ß ++ cap)/\te Ù H0 R)
  (hd:∀ ys H,ys.length=xs.length->H D=some (.lst ys)->Pv xs.length ys H->Q H) :
  ∃ W:Nat->Nat->List V->Hp->Prop,(∃ m,W 0 m [] (ae H1 D (.lst []))) /\
   ∀ i m ys H2,W i m ys H2->H2 D=some (.lst ys)/\(((BU K a).stop i H2/\Q H2)\/((BU K a).go i H2/\ys.length<sizeLine /\
    ∀ x H3,(BU K a).Ŋ i H2 x H3->∀ os:St,os.length=k->g x (os++cap) H3 λ Ù H0=>(∃ ß:St,ß.length=k/\Ù = ß ++ cap)/\te Ù H0 λ y H4=>H4 D=some (.lst ys)/\∃ m',m'<m/\W (i+1) m' (ys ++ [y]) (ae H4 D (.lst (ys ++ [y]))))):=by
 refine⟨λ i m ys H=>m=xs.length-i/\i<=xs.length/\ys.length=i/\H D=some (.lst ys)/\Pv i ys H,⟨xs.length,by simp,Nat.zero_le _,rfl,aL,h0⟩,?_⟩
 rintro i m ys H ⟨rfl,hi,hy,hD,p⟩;refine⟨hD,?_⟩;have q:=hl i ys H p;by_cases þ:i<xs.length
 ·refine .inr ⟨⟨xs,xs[i],q,by simp [þ]⟩,by omega,λ x H' y=>?_⟩
  obtain⟨e,y⟩:=y;subst e;exact λ os á=>hs i x ys _ (y xs q) hy hD p os á _ λ z H4 LN p4=>⟨LN,xs.length-(i+1),by omega,rfl,þ,by rw [List.length_append,hy];rfl,aL,p4⟩
 ·have e:i=xs.length:=by omega
  subst e;exact .inl ⟨⟨xs,q,Nat.le_refl _⟩,hd ys H hy hD p⟩
end
theorem br {H:Hp}{p:Addr}(o:HO):Kept H (ae H p o) p:=λ b u h n=>by rw [ag n];exact h
def dO:PyData->Bool
 | .tuple [.int a,.int b]=>(decide (1<=b)&&(decide (0<=a)&&decide (a<=b)))&&decide (Nat.gcd a.toNat b.toNat=1)
 | _=>false
def dG:PyData->Bool
 | .tuple [.int a,.int b]=>dO (.tuple [.int a,.int b])&&(decide (2<=b)&&decide (b<=100))
 | _=>false
def bR (lo:Int)(n:Nat):List Int:=(List.range n).map λ k=>lo+(k:Nat)
def lG (p:List Int):PyData:=.tuple (p.map .int)
def rP (p:List Int):PyData:=.list (p.map .int)
theorem lc (lo:Int)(n:Nat):uh lo n=(bR lo n).map V.int:=by unfold uh bR;rw [List.map_map];rfl
theorem dH (G:Hp):∀(ns:List Int),Á G (ns.map V.int) (ns.map PyData.int)
 | []=>.nil
 | n::ns=>.cons (.int _) (dH G ns)
theorem k8 {G:Hp}:∀{p:List Int}{ys:List V},Á G ys (p.map PyData.int)->ys=p.map V.int
 | [],_,h=>by cases h;rfl
 | n::p,_,h=>by
  cases h with
  | cons r t =>
   cases r;rw [k8 t];rfl
theorem iV {G:Hp}{ps:List (List Int)}{xs:List V}(rs:Á G xs (ps.map lG)){i:Nat}{x:V}{p:List Int}(hx:xs[i]?=some x)(hp:ps[i]?=some p):∃ a,x=.ref a/\G a=some (.tup (p.map V.int)):=by
 obtain⟨d,ed,rd⟩:=rs.get hx;rw [List.getElem?_map,hp] at ed;cases ed;obtain⟨a,ys,rfl,ha,ry⟩:=fZ rd;refine⟨a,rfl,?_⟩;rw [<- k8 ry];exact ha
def wX:HO->Bool
 | .lst _=>true
 | .tup _=>true
 | .dK _=>true
 | _=>false
mutual
theorem Ð.keep {G G':Hp}(s:∀ b o,G b=some o->wX o=true->G' b=some o):∀{v:V}{d:PyData},Ð G v d->Ð G' v d
 | _,_,.Æ=>.Æ
 | _,_,.bl b=>.bl b
 | _,_,.int i=>.int i
 | _,_,.str x=>.str x
 | _,_,.lst e r=>.lst (s _ _ e rfl) (Á.keep s r)
 | _,_,.tup e r=>.tup (s _ _ e rfl) (Á.keep s r)
 | _,_,.ð e=>.ð (s _ _ e rfl)
 | _,_,.ĸ e r=>.ĸ (s _ _ e rfl) (Ð.keep s r)
theorem Á.keep {G G':Hp}(s:∀ b o,G b=some o->wX o=true->G' b=some o):∀{vs:List V}{ds:List PyData},Á G vs ds->Á G' vs ds
 | _,_,.nil=>.nil
 | _,_,.cons r t=>.cons (Ð.keep s r) (Á.keep s t)
end
theorem Ð.kept {H H':Hp}{x:Addr}{v:V}{d:PyData}{C dx:Addr}{fs:List (Str × V)}(r:Ð H v d)(hx:H x=some (.ins C dx fs))(k:Kept H H' x):Ð H' v d :=
 r.keep λ b o e h=>k b o e λ z=>by rw [z,hx] at e;cases e;cases h
inductive R0 where
 | split (n k:Int)
 | pairs (n a b:Int)
 | æ (n a b f:Int)
def R0.À:R0->Int
 | .split n _=>n
 | .pairs n _ _=>2*n
 | .æ n _ _ _=>n
def R0.begin:R0->PyData
 | .split _ k=>.int k
 | .pairs _ _ _=>.none
 | .æ _ _ _ _=>.int 0
def R0.told:R0->PyData
 | .split n k=>.tuple [.str "split",.int n,.int k]
 | .pairs n a b=>.tuple [.str "pairs",.int n,.tuple [.int a,.int b]]
 | .æ n a b f=>.tuple [.str "coins",.int n,.tuple [.int a,.int b],.int f]
def R0.kind:R0->Nat
 | .split _ _=>0
 | .pairs _ _ _=>1
 | .æ _ _ _ _=>2
def R0.ok:R0->Prop
 | .split n k=>1<=n/\n<=20/\0<=k/\k<=n
 | .pairs n a b=>1<=n/\n<=10/\dG (.tuple [.int a,.int b])=true
 | .æ n a b f=>1<=n/\n<=20/\dG (.tuple [.int a,.int b])=true/\1<=f/\f<=20
theorem R0.È {r:R0}(h:r.ok):1<=r.À/\r.À <= 20:=by
 cases r <;> simp only [R0.ok,R0.À] at * <;> omega
def bF:Int->List Int->List (List Int)
 | _,[]=>[]
 | s,n::ns=>bR s n.toNat::bF (s+n) ns
def fO (m:Int)(ps:List (List Int)):List (List Int):=(ps.map (·.filter λ x=>decide (x<m))).filter λ p=>decide (0<p.length)
inductive Rl where
 | one (r:R0)
 | blocks (rs:List R0)
 | first (t:Rl)(m:Int)
def Rl.À:Rl->Int
 | .one r=>r.À
 | .blocks rs=>(rs.map R0.À).sum
 | .first _ m=>m
def Rl.begin:Rl->PyData
 | .one r=>r.begin
 | .blocks []=>.tuple [.int 0,.none]
 | .blocks (r::_)=>.tuple [.int 0,r.begin]
 | .first t _=>t.begin
def Rl.told:Rl->PyData
 | .one r=>r.told
 | .blocks rs=>.tuple [.str "blocks",.tuple (rs.map R0.told)]
 | .first t m=>.tuple [.str "first",t.told,.int m]
def Rl.parts:Rl->List (List Int)
 | .one r=>[bR 0 r.À.toNat]
 | .blocks rs=>bF 0 (rs.map R0.À)
 | .first t m=>fO m t.parts
def Rl.kind:Rl->Nat
 | .one r=>r.kind
 | .blocks _=>3
 | .first _ _=>4
def Rl.inner:Rl->Rl
 | .first t _=>t.inner
 | t=>t
def fz (ps:List (List Int)):PyData:=.tuple (ps.map lG)
def Rl.ok:Rl->Prop
 | .one r=>r.ok
 | .blocks rs=>1<=rs.length/\rs.length<=6/\(∀ r∈rs,r.ok)/\(rs.map R0.À).sum<=20
 | .first t m=>t.ok/\0<=m/\m<=t.À
theorem bK:∀{ns:List Int},(∀ n∈ns,0<=n)->0<=ns.sum
 | [],_=>by simp
 | n::ns,h=>by
  have:=h n (List.mem_cons_self ..);have:=bK λ x hx=>h x (List.mem_cons_of_mem _ hx);simp only [List.sum_cons];omega
theorem Rl.È:∀{t:Rl},t.ok->0<=t.À/\t.À <= 20
 | .one r,h=>by have:=R0.È h;simp only [Rl.À];omega
 | .blocks rs,h=>by
  obtain⟨_,_,h3,h4⟩:=h;refine⟨bK λ n hn=>?_,h4⟩;obtain⟨r,hr,rfl⟩:=List.mem_map.mp hn;have:=R0.È (h3 r hr);omega
 | .first t m,h=>by
  obtain⟨h1,h2,h3⟩:=h;have:=Rl.È h1;simp only [Rl.À];omega
def ii:List Str:=["folk","begin","steps","told","blocks","state_ahead","state_behind"]
structure Ob (C:Addr)(H:Hp)(v:V)(fk:Int)(bg tl pt:PyData)(X:List (Str × V)->Prop):Prop where
 ex:∃ a dx fs,v=.ref a/\H a=some (.ins C dx fs)/\fs.lookup ("size" : Str)=some (.int fk)/\(∃ b,fs.lookup ("first_state" : Str)=some b/\Ð H b bg)/\(∃ m,fs.lookup ("mark" : Str)=some m/\Ð H m tl)/\(∃ p,fs.lookup ("parts" : Str)=some p/\Ð H p pt)/\(∀ m∈ii,fs.lookup m=none)/\X fs
def R0.extra (H:Hp):R0->List (Str × V)->Prop
 | .split _ _,_=>True
 | .pairs _ a b,fs=>∃ c,fs.lookup ("coin" : Str)=some c/\Ð H c (.tuple [.int a,.int b])
 | .æ _ a b f,fs=>(∃ c,fs.lookup ("coin" : Str)=some c/\Ð H c (.tuple [.int a,.int b]))/\fs.lookup ("far" : Str)=some (.int f)
def Đ (C:Nat->Addr)(H:Hp)(r:R0)(v:V):Prop:=Ob (C r.kind) H v r.À r.begin r.told (fz [bR 0 r.À.toNat]) (r.extra H)
def Ą (C:Nat->Addr)(H:Hp)(rs:List R0)(ws:List V):Prop:=rs.length=ws.length/\∀(i:Nat) r w,rs[i]?=some r->ws[i]?=some w->Đ C H r w
def ż (C:Nat->Addr)(H:Hp)(rs:List R0)(v:V):Prop:=Ob (C 3) H v (Rl.blocks rs).À (Rl.blocks rs).begin (Rl.blocks rs).told (fz (Rl.blocks rs).parts) (λ fs=>∃ l ws,fs.lookup ("rules" : Str)=some (.ref l)/\H l=some (.tup ws)/\Ą C H rs ws)
def J6 (C:Nat->Addr)(H:Hp):Rl->V->Prop
 | .one r,v=>Đ C H r v
 | .blocks rs,v=>ż C H rs v
 | .first _ _,_=>False
def Ru (C:Nat->Addr)(H:Hp):Rl->V->Prop
 | .one r,v=>Đ C H r v
 | .blocks rs,v=>ż C H rs v
 | .first t m,v=>Ob (C 4) H v m t.begin (Rl.first t m).told (fz (Rl.first t m).parts) (λ fs=>∃ d,fs.lookup ("dealer" : Str)=some d/\J6 C H t.inner d)
theorem Ob.mono {C:Addr}{H H':Hp}{v:V}{fk:Int}{bg tl pt:PyData}{X Y:List (Str × V)->Prop}(h:Ob C H v fk bg tl pt X)(x:Ext H H')(k:∀ fs,X fs->Y fs):Ob C H' v fk bg tl pt Y:=by
 obtain⟨a,dx,fs,rfl,ha,h1,⟨b,h2,r2⟩,⟨m,h3,r3⟩,⟨p,h4,r4⟩,h5,h6⟩:=h.ex;exact⟨a,dx,fs,rfl,x _ _ ha,h1,⟨b,h2,r2.mono x⟩,⟨m,h3,r3.mono x⟩,⟨p,h4,r4.mono x⟩,h5,k fs h6⟩
section
variable {C:Nat->Addr}{H H':Hp}
theorem Đ.ext {r:R0}{v:V}(h:Đ C H r v)(x:Ext H H'):Đ C H' r v:=Ob.mono h x λ fs e=>by
 cases r with
 | split _ _=>trivial
 | pairs _ a b =>
  obtain⟨c,e1,e2⟩:=e;exact⟨c,e1,e2.mono x⟩
 | æ _ a b f =>
  obtain⟨⟨c,e1,e2⟩,e3⟩:=e;exact⟨⟨c,e1,e2.mono x⟩,e3⟩
theorem Ą.ext {rs:List R0}{ws:List V}(h:Ą C H rs ws)(x:Ext H H'):Ą C H' rs ws:=⟨h.1,λ i r w a b=>Đ.ext (h.2 i r w a b) x⟩
theorem ż.ext {rs:List R0}{v:V}(h:ż C H rs v)(x:Ext H H'):ż C H' rs v:=Ob.mono h x λ fs e=>by
 obtain⟨l,ws,e1,e2,e3⟩:=e;exact⟨l,ws,e1,x _ _ e2,e3.ext x⟩
theorem J6.ext {t:Rl}{v:V}(h:J6 C H t v)(x:Ext H H'):J6 C H' t v:=by
 cases t with
 | one r=>exact Đ.ext h x
 | blocks rs=>exact ż.ext h x
 | first _ _=>exact h.elim
theorem Ru.ext {t:Rl}{v:V}(h:Ru C H t v)(x:Ext H H'):Ru C H' t v:=by
 cases t with
 | one r=>exact Đ.ext h x
 | blocks rs=>exact ż.ext h x
 | first t m=>exact Ob.mono h x λ fs ⟨d,e1,e2⟩=>⟨d,e1,e2.ext x⟩
theorem Ru.ob {t:Rl}{v:V}(h:Ru C H t v):Ob (C t.kind) H v t.À t.begin t.told (fz t.parts) (λ _=>True):=by
 cases t with
 | one r=>exact Ob.mono h (Ext.refl _) λ _ _=>trivial
 | blocks rs=>exact Ob.mono h (Ext.refl _) λ _ _=>trivial
 | first t m=>exact Ob.mono h (Ext.refl _) λ _ _=>trivial
end
theorem R0.Ñ (r:R0):r.kind<3:=by cases r <;> simp [R0.kind]
theorem Rl.Ñ (t:Rl):t.kind<5:=by
 cases t with
 | one r=>have:=r.Ñ;show r.kind<5;omega
 | blocks _=>show 3<5;decide
 | first _ _=>show 4<5;decide
def hV:List Str:=["size","first_state","mark","parts","coin","far","rules","dealer"]
structure KR (K:Frag)(C:Nat->Addr)(CR:Addr):Prop where
 cls:∀ i,i<5->Ķ K (C i)
 no:∀ i,i<5->∀ f∈hV,ö K (C i) f
 ha:∀ i,i<5->PySem.W.findIn K (.ref (C i)) "__class__" = some (some (.builtin "object.__class__"))
 hn:PySem.W.specialIn K (.builtin "object.__class__") "__get__" = some (some (.builtin "getset_descriptor.__get__"))
 Ŗ:PySem.W.takesIn K (.builtin "object.__class__")=some true
 hm:∀ i,i<5->PySem.W.mroIn K (C i) (.type "object")=some true
 kk:∀ i j,i<5->j<5->kitOne K (.ref (C i)) (.ref (C j))=some (i==j)
 kR:∀ i,i<5->kitOne K (.ref (C i)) (.ref CR)=some true
 kl:∀ i,i<5->kitOne K (.ref (C i)) (.type "list")=some false
 kt:∀ i,i<5->kitOne K (.ref (C i)) (.type "tuple")=some false
 ki:∀ i,i<5->kitOne K (.ref (C i)) (.type "int")=some false
 kb:∀ i,i<5->kitOne K (.ref (C i)) (.type "bool")=some false
def qu (C:Nat->Addr)(c:Addr):Prop:=∃ i,i<5/\c=C i
section
variable {K:Frag}{C:Nat->Addr}{CR:Addr}{H:Hp}
theorem Ob.kd {i:Nat}{v:V}{fk:Int}{bg tl pt:PyData}{X:List (Str × V)->Prop}(Z:KR K C CR)(hi:i<5)(h:Ob (C i) H v fk bg tl pt X):Kd K H v (.ref (C i)):=by
 obtain⟨a,dx,fs,rfl,ha,_⟩:=h.ex;exact .inl (.ins ha (Z.cls i hi) (Z.ha i hi) Z.hn Z.Ŗ (Z.hm i hi))
theorem Ru.kd {t:Rl}{v:V}(Z:KR K C CR)(h:Ru C H t v):Kd K H v (.ref (C t.kind)):=h.ob.kd Z t.Ñ
theorem cA {m:Str}{sp:Addr->Sp}{E:XK}{ta:TE}{σ:St}{Q:VK}{t:Rl}{v:V}(hm:m∈ii)(h:Ru C H t v)(ht:∀ R:VK,R v H->ta σ H R)(q:sp (C t.kind) [v] H Q E):cE (qu C) m sp E ta aF σ H Q:=by
 obtain⟨a,dx,fs,rfl,ha,_,_,_,_,h5,_⟩:=h.ob.ex;exact ht _ ⟨a,C t.kind,dx,fs,rfl,⟨_,t.Ñ,rfl⟩,ha,h5 m hm,q⟩
end
theorem jf:∀(ns:List Int),Ê (ns.map PyData.int)=true
 | []=>by simp [Ê]
 | n::ns=>by simp only [List.map_cons,Ê,aN,jf ns,Bool.and_self]
end My
namespace My
open PySem PySem.W L2
def l9:V->V->Bool
 | x,.int j=>decide (1<=j)&&Jh 0 j x
 | _,_=>false
theorem tO {x y:V}(h:∀ i,y ≠ .int i):l9 x y=false:=by
 cases y with
 | int i=>exact absurd rfl (h i)
 | _=>rfl
section
variable {P:Program}{w:World}{K:Frag}{mg:Str->Option Value}{base:Heap}
abbrev lE:Stmt:=bX 12
def lg (K:Frag):Sp:=λ vs H Q _=>∃ x,vs=[x]/\Th K H x/\Q (.bl (Cg x)) H
theorem GZ:ad ["thing"] ["thing"] (aa lE):=aM
theorem t5 {f:Addr}{fd:FuncData}(N:qG K)(F:Ö K "is_number" "is_number" lE f fd)(mi:mg "isinstance" = none)(m1:mg "int" = none)(m2:mg "bool" = none):Â P w K mg base av 1 f fd ["thing"] (lg K):=by
 refine F.ok GZ (λ vs H Q E h=>?_) (λ cdv A outer s H vs Q E hr h=>?_)
 ·obtain⟨c,rfl,_⟩:=h;rfl
 obtain⟨x,rfl,th,q⟩:=h;refine⟨_,aY (cZ (dy (am (cg N) rfl mi PyProof.Rows.boot_isinstance (ac (pv 0) (ac (fX rfl m1 PyProof.Rows.boot_int) ak)))
  (eD (oV (am (cg N) rfl mi PyProof.Rows.boot_isinstance (ac (pv 0) (ac (fX rfl m2 PyProof.Rows.boot_bool) ak))))))),?_⟩
 rcases th with⟨i,rfl⟩ | ⟨n,t,b1,b2,kd,k1,k2,z⟩
 ·exact⟨_,rfl,_,_,_,_,rfl,.inl (.int i),EB,_,rfl,⟨_,rfl,_,_,_,_,rfl,.inl (.int i),AG,_,rfl,q⟩⟩
 ·rw [lR n] at q;refine⟨_,rfl,_,_,_,_,rfl,kd,k1,_,rfl,?_⟩;cases b1 with
  | false=>exact bY q
  | true =>
   refine cq ⟨_,rfl,_,_,_,_,rfl,kd,k2,_,rfl,?_⟩;have e:(!b2)=false:=z;rw [e];exact q
abbrev p6:Stmt:=bX 13
def ie (K:Frag):Sp:=λ vs H Q _=>∃ x lo hi,vs=[x,.int lo,.int hi]/\Th K H x/\Q (.bl (Jh lo hi x)) H
theorem GA:ad ["thing","low","high"] ["thing","low","high"] (aa p6):=aM
theorem uL {f g:Addr}{fd gd:FuncData}(F:Ö K "is_whole" "is_whole" p6 f fd)(G:Â P w K mg base av 1 g gd ["thing"] (lg K))(bG:Binds K gd ["thing"] [])(kG:keepIn K (.ref g)=true)(mG:mg "is_number" = some (.ref g)) :
  Â P w K mg base av 2 f fd ["thing","low","high"] (ie K):=by
 refine F.ok GA (λ vs H Q E h=>?_) (λ cdv A outer s H vs Q E hr h=>?_)
 ·obtain⟨c,lo,hi,rfl,_⟩:=h;rfl
 obtain⟨x,lo,hi,rfl,th,q⟩:=h;refine⟨_,aY (cZ (dy (bU G hr rfl mG kG bG .nil aj (ac (pv 0) ak)) (dy (cC wQ (pv 1) (pv 0) (ar _)) (eD (cC wQ (pv 0) (pv 2) (ar _)))))),?_⟩;refine⟨_,rfl,x,rfl,th,_,rfl,?_⟩;rcases th with⟨i,rfl⟩ | ⟨n,_⟩
 ·refine cq ⟨_,rfl,_,rfl,_,_,rfl,rfl,_,rfl,?_⟩;refine oM (λ c=>?_) (λ c=>?_)
  ·refine⟨_,rfl,_,rfl,_,_,rfl,rfl,?_⟩;have q':Q (.bl (decide (lo<=i)&&decide (i<=hi))) H:=q;rw [decide_eq_true (of_decide_eq_true c),Bool.true_and] at q';exact q'
  ·have q':Q (.bl (decide (lo<=i)&&decide (i<=hi))) H:=q;rw [decide_eq_false (λ z=>c (decide_eq_true z)),Bool.false_and] at q';exact q'
 ·rw [lR n];rw [zg n] at q;exact bY q
abbrev ui:Stmt:=bX 16
def xq:Sp:=λ vs H Q _=>∃ a b:Nat,vs=[.int a,.int b]/\Q (.int (Nat.gcd a b)) H
theorem SJ:ad ["one","other"] ["one","other"] (aa ui):=aM
def FQ:St->Nat
 | [_,some (.int b)]=>b.toNat
 | _=>0
theorem zk {f:Addr}{fd:FuncData}(F:Ö K "greatest_common" "greatest_common" ui f fd):Â P w K mg base av 1 f fd ["one","other"] xq:=by
 refine F.ok SJ (λ vs H Q E h=>?_) (λ cdv A outer s H vs Q E hr h=>?_)
 ·obtain⟨c,lo,rfl,_⟩:=h;rfl
 obtain⟨a,b,rfl,q⟩:=h;have nd:=SJ.nd;refine⟨_,cw (jF PassesOwn.never (ao fS (pv 1) ay (ar _)) (aY (yj (i:=0) (j:=1) rfl nd rfl rfl (by decide) rfl rfl (ac (pv 1) (ac (ax dC (pv 0) (pv 1)) ak)) rfl))) (aY (cZ (pv 0))),?_⟩
 refine sR (λ σ H'=>H'=H/\∃ x y:Nat,σ=[some (.int x),some (.int y)]/\Nat.gcd x y=Nat.gcd a b) (λ σ _=>FQ σ) ⟨rfl,a,b,rfl,rfl⟩ ?_ ?_
 ·rintro σ H' ⟨rfl,x,y,rfl,e⟩;refine⟨_,rfl,_,_,rfl,rfl,_,rfl,?_⟩;refine oM (λ c=>?_) (λ c=>?_)
  ·have c':(0:Int)<(y:Int):=of_decide_eq_true c;refine⟨_,rfl,_,rfl,_,rfl,_,_,rfl,rfl,c',_,_,rfl,⟨rfl,y,x%y,?_,?_⟩,?_⟩
   ·show [some (V.int y),some (V.int ((x:Int)%(y:Int)))]=_;rw [show((x:Int)%(y:Int))=((x%y:Nat):Int) from by simp]
   ·rw [<- e,Nat.gcd_comm x y,Nat.gcd_rec y x,Nat.gcd_comm]
   ·show((x:Int)%(y:Int)).toNat<(y:Int).toNat;have:=Int.emod_lt_of_pos (x:Int) c';omega
  ·have c':¬ (0:Int)<(y:Int):=λ z=>c (decide_eq_true z);have y0:y=0:=by omega
   subst y0;rw [Nat.gcd_zero_right] at e;refine⟨_,rfl,?_⟩;rw [e];exact q
 ·rintro σ H Q Q' m ⟨x,e,i,j,h1,h2,b,hb,q⟩;exact⟨x,e,i,j,h1,h2,b,hb,m _ _ q⟩
abbrev p5:Stmt:=bX 17
def tS (K:Frag):Sp:=λ vs H Q _=>∃ x y,vs=[x,y]/\Th K H x/\Th K H y/\Q (.bl (l9 x y)) H
theorem Gb:ad ["top","bottom"] ["top","bottom"] (aa p5):=aM
theorem vL {f g k:Addr}{fd gd kd:FuncData}(F:Ö K "is_part" "is_part" p5 f fd)(G:Â P w K mg base av 1 g gd ["thing"] (lg K))(bG:Binds K gd ["thing"] [])(kG:keepIn K (.ref g)=true)(mG:mg "is_number" = some (.ref g))
  (W:Â P w K mg base av 2 k kd ["thing","low","high"] (ie K))(bW:Binds K kd ["thing","low","high"] [])(kW:keepIn K (.ref k)=true)(mW:mg "is_whole" = some (.ref k)):Â P w K mg base av 3 f fd ["top","bottom"] (tS K):=by
 refine F.ok Gb (λ vs H Q E h=>?_) (λ cdv A outer s H vs Q E hr h=>?_)
 ·obtain⟨x,y,rfl,_⟩:=h;rfl
 obtain⟨x,y,rfl,tx,ty,q⟩:=h;have Û:=hr.mono (show 1<=2 by decide)
 refine⟨_,aY (cZ (dy (bU G Û rfl mG kG bG .nil aj (ac (pv 1) ak)) (dy (cC wY (pv 1) ay (ar _)) (eD (bU W hr rfl mW kW bW .nil aj (ac (pv 0) (ac ay (ac (pv 1) ak)))))))),?_⟩;refine⟨_,rfl,y,rfl,ty,_,rfl,?_⟩;rcases ty with⟨j,rfl⟩ | ⟨n,_⟩
 ·refine cq ⟨_,rfl,_,_,rfl,rfl,_,rfl,?_⟩;have q':Q (.bl (decide (1<=j)&&Jh 0 j x)) H:=q;refine oM (λ c=>?_) (λ c=>?_)
  ·rw [decide_eq_true (of_decide_eq_true c),Bool.true_and] at q';exact⟨_,rfl,_,rfl,x,0,j,rfl,tx,q'⟩
  ·rw [decide_eq_false (λ z=>c (decide_eq_true z)),Bool.false_and] at q';exact q'
 ·rw [lR n];rw [tO n] at q;exact bY q
abbrev ve:Stmt:=bX 19
def wP:Sp:=λ vs H Q _=>∃ x d,vs=[x]/\Ð H x d/\Q (.bl (dO d)) H
theorem K2:ad ["thing","top","bottom"] ["thing"] (aa ve):=aM
theorem nW {d1 d2:PyData}{H:Hp}{u v:V}(r1:Ð H u d1)(r2:Ð H v d2):l9 u v=false->dO (.tuple [d1,d2])=false:=by
 intro h;cases r1 with
 | int i =>
  cases r2 with
  | int j =>
   have h':(decide (1<=j)&&(decide (0<=i)&&decide (i<=j)))=false:=h;show((decide (1<=j)&&(decide (0<=i)&&decide (i<=j)))&&_)=false;rw [h'];rfl
  | _=>rfl
 | _=>cases r2 <;> rfl
theorem sP {x y:V}(h:l9 x y=true):∃ a b:Nat,x=.int a/\y=.int b/\1<=b/\a<=b:=by
 cases y with
 | int j =>
  have h':(decide (1<=j)&&Jh 0 j x)=true:=h;rw [Bool.and_eq_true,decide_eq_true_iff] at h';obtain⟨h1,h2⟩:=h';cases x with
  | int i =>
   have h3:(decide (0<=i)&&decide (i<=j))=true:=h2;rw [Bool.and_eq_true,decide_eq_true_iff,decide_eq_true_iff] at h3;refine⟨i.toNat,j.toNat,?_,?_,by omega,by omega⟩
   ·congr 1;omega
   ·congr 1;omega
  | _=>cases h2
 | _=>cases h
theorem xD {f a1 a2:Addr}{fd d1 d2:FuncData}(N:qG K)(F:Ö K "is_share" "is_share" ve f fd)(A1:Df P w K mg base av 3 "is_part" ["top","bottom"] (tS K) a1 d1)(A2:Df P w K mg base av 1 "greatest_common" ["one","other"] xq a2 d2)
  (mi:mg "isinstance" = none)(mt:mg "tuple" = none)(ml:mg "len" = none):Â P w K mg base av 4 f fd ["thing"] wP:=by
 refine F.ok K2 (λ vs H Q E h=>?_) (λ cdv A outer s H vs Q E hr h=>?_)
 ·obtain⟨v,d,rfl,_⟩:=h;rfl
 obtain⟨v,d,rfl,rd,q⟩:=h;have nd:=K2.nd;have Û:Ä 1 _:=hr.mono (by decide)
 refine⟨_,cw (bo (PW.pt (fD (cu (bI (am (cg N) rfl mi PyProof.Rows.boot_isinstance (ac (pv 0) (ac (fX rfl mt PyProof.Rows.boot_tuple) ak))))) (fc (ao jr (am aG rfl ml PySem.boot_len (ac (pv 0) ak)) ay (ar _))))) (aY (cZ ug)) gG)
  (cw (ft (pv 0) (bq rfl (dq (bV (i:=1) nd rfl (Or.inl rfl)) (dq (bV (i:=2) nd rfl (Or.inl rfl)) aU))))
  (aY (cZ (dy (bU A1.G hr rfl A1.m A1.kp A1.b .nil aj (ac (pv 1) (ac (pv 2) ak))) (eD (cC cr (bU A2.G Û rfl A2.m A2.kp A2.b .nil aj (ac (pv 1) (ac (pv 2) ak))) ay (ar _))))))),?_⟩
 refine⟨_,rfl,_,_,_,_,rfl,rd.kd,rd.SG,_,rfl,?_⟩;cases e:zZ d with
 | false =>
  refine cq (cq ?_);have z:dO d=false:=by cases d <;> first | rfl | cases e
  rw [z] at q;exact q
 | true =>
  obtain⟨ds,rfl⟩:∃ ds,d=.tuple ds:=by cases d <;> first | exact⟨_,rfl⟩ | cases e
  obtain⟨a,xs,rfl,ha,rs⟩:=fZ rd;refine bY ⟨_,rfl,a,_,rfl,.inr (Ì.of ha),rfl,_,rfl,?_⟩;have len:=rs.length;by_cases l2:xs.length=2
  ·obtain⟨u,v,rfl⟩:∃ u v,xs=[u,v]:=by
    match xs,l2 with
    | [u,v],_=>exact⟨u,v,rfl⟩
   cases rs with
   | cons r1 rs =>
    cases rs with
    | cons r2 rs =>
     cases rs;refine bY ⟨_,rfl,a,_,rfl,Ì.of ha,rfl,_,_,rfl,_,_,rfl,rfl,?_⟩;refine⟨_,rfl,_,rfl,u,v,rfl,r1.th,r2.th,_,rfl,?_⟩;cases pv:l9 u v with
     | false =>
      rw [nW r1 r2 pv] at q;exact bY q
     | true =>
      obtain⟨x,y,rfl,rfl,y1,xy⟩:=sP pv;cases r1;cases r2;refine cq ⟨_,rfl,_,rfl,x,y,rfl,rfl,?_⟩;have q':Q (.bl ((decide ((1:Int)<=(y:Int))&&(decide ((0:Int)<=(x:Int))&&decide ((x:Int)<=(y:Int))))&&decide (Nat.gcd (x:Int).toNat (y:Int).toNat=1))) H:=q;rw [decide_eq_true (show(1:Int)<=(y:Int) by omega),decide_eq_true (show(0:Int)<=(x:Int) by omega),decide_eq_true (show(x:Int)<=(y:Int) by omega),Int.toNat_natCast,Int.toNat_natCast,Bool.and_self,Bool.and_self,Bool.true_and] at q'
      have ee:decide (V.int ((Nat.gcd x y:Nat):Int)=V.int 1)=decide (Nat.gcd x y=1):=by
       by_cases g:Nat.gcd x y=1
       ·rw [decide_eq_true g,g];rfl
       ·rw [decide_eq_false g,decide_eq_false];intro z;injection z with z
        omega
      rw [ee];exact q'
  ·have e1:(!decide (V.int (xs.length:Nat)=V.int 2))=true:=by
    rw [decide_eq_false]
    ·rfl
    ·intro h;injection h with h
     omega
   rw [e1];refine cq ?_;have z:dO (.tuple ds)=false:=by
    match ds,len,l2 with
    | [],_,_=>rfl
    | [_],_,_=>simp [dO]
    | [_,_],l,n=>exact absurd l n
    | _::_::_::_,_,_=>simp [dO]
   rw [z] at q;exact q
abbrev Fh:Stmt:=bX 29
def tV (CN:Addr):Sp:=λ vs H Q E=>∃ x d lo hi,vs=[x,.int lo,.int hi]/\Ð H x d/\(lM lo hi d=true->Q .Æ H)/\(lM lo hi d=false->cS CN "found" x H E)
theorem Gr:ad ["thing","low","high"] ["thing","low","high"] (aa Fh):=aM
theorem C9 {f a1 D CN fC:Addr}{fd d1 Ž:FuncData}(F:Ö K "need_number" "need_number" Fh f fd)(B:Ò K D)(T:fH K mg D "NoNumber" "found" CN fC Ž)(A1:Df P w K mg base av 2 "is_whole" ["thing","low","high"] (ie K) a1 d1):Â P w K mg base (cK P w) 3 f fd ["thing","low","high"] (tV CN):=by
 refine mk F Gr (λ vs H Q E h=>?_) (λ cdv A outer s H vs Q E hr h=>?_)
 ·obtain⟨_,_,_,_,rfl,_⟩:=h;rfl
 obtain⟨x,d,lo,hi,rfl,rd,q1,q2⟩:=h;refine⟨_,aY (bo (cu (bI (bU A1.G hr rfl A1.m A1.kp A1.b .nil aj (ac (pv 0) (ac (pv 1) (ac (pv 2) ak)))))) (aY (cQ B T.cls (T.ok P w base) hr T.bi rfl T.Kp (pv 0))) gG),?_⟩;refine⟨_,rfl,_,rfl,_,rfl,x,lo,hi,rfl,rd.th,_,rfl,?_⟩;rw [rd.Jh];cases e:lM lo hi d with
 | true=>exact bY (q1 e)
 | false=>exact cq ⟨_,rfl,λ e' dx h1 h2 nd=>fE nd (q2 e e' dx h1 h2 nd)⟩
abbrev Fy:Stmt:=bX 30
def z8 (CS:Addr):Sp:=λ vs H Q E=>∃ x d,vs=[x]/\Ð H x d/\(dG d=true->Q .Æ H)/\(dG d=false->cS CS "found" x H E)
theorem FI:ad ["thing"] ["thing"] (aa Fy):=aM
theorem md {d:PyData}(h:dO d=true):∃ a b,d=.tuple [.int a,.int b]:=by
 match d,h with
 | .tuple [.int a,.int b],_=>exact⟨a,b,rfl⟩
theorem CQ {f a1 a2 D CS fC:Addr}{fd d1 d2 Ž:FuncData}{t:Tok}(F:Ö K "need_coin" "need_coin" Fy f fd)(B:Ò K D)(T:fH K mg D "NoShare" "found" CS fC Ž)(A1:Df P w K mg base av 2 "is_whole" ["thing","low","high"] (ie K) a1 d1)(A2:Df P w K mg base av 4 "is_share" ["thing"] wP a2 d2)(mB:mg "MOST_BOTTOM" = some (.int 100 t)) :
  Â P w K mg base (cK P w) 5 f fd ["thing"] (z8 CS):=by
 refine mk F FI (λ vs H Q E h=>?_) (λ cdv A outer s H vs Q E hr h=>?_)
 ·obtain⟨_,_,rfl,_⟩:=h;rfl
 obtain⟨x,d,rfl,rd,q1,q2⟩:=h;have Ł:Ä 2 _:=hr.mono (by decide)
 refine⟨_,aY (bo (PW.pt (fD (cu (bI (bU A2.G hr rfl A2.m A2.kp A2.b .nil aj (ac (pv 0) ak)))) (fc (cu (bI (bU A1.G Ł rfl A1.m A1.kp A1.b .nil aj (ac (cy gF (pv 0) ay) (ac ay (ac (bT (v:=.int 100) rfl mB ⟨_,rfl⟩) ak)))))))))
  (aY (cQ B T.cls (T.ok P w base) Ł T.bi rfl T.Kp (pv 0))) gG),?_⟩
 refine⟨_,rfl,x,d,rfl,rd,_,rfl,?_⟩;cases e:dO d with
 | false =>
  have z:dG d=false:=by
   match d,e with
   | .tuple [.int a,.int b],e=>show(dO (.tuple [.int a,.int b])&&_)=false;rw [e];rfl
   | .none,_ | .bool _,_ | .int _,_ | .str _,_ | .list _,_ | .dict _,_=>rfl
   | .tuple [],_=>rfl
   | .tuple [_],_=>simp [dG]
   | .tuple (_::_::_::_),_=>simp [dG]
   | .tuple [.int _,.none],_ | .tuple [.int _,.bool _],_ | .tuple [.int _,.str _],_ | .tuple [.int _,.list _],_ | .tuple [.int _,.tuple _],_ | .tuple [.int _,.dict _],_=>rfl
   | .tuple [.none,_],_ | .tuple [.bool _,_],_ | .tuple [.str _,_],_ | .tuple [.list _,_],_ | .tuple [.tuple _,_],_ | .tuple [.dict _,_],_=>rfl
  exact cq (cq ⟨_,rfl,λ e' dx h1 h2 nd=>fE nd (q2 z e' dx h1 h2 nd)⟩)
 | true =>
  obtain⟨a,b,rfl⟩:=md e;obtain⟨p,xs,rfl,hp,rs⟩:=fZ rd;cases rs with
  | cons r1 rs =>
   cases rs with
   | cons r2 rs =>
    cases rs;cases r1;cases r2;refine bY ⟨_,rfl,p,_,_,_,rfl,rfl,Ì.of hp,cX (j:=1) rfl,_,2,100,rfl,.inl ⟨b,rfl⟩,_,rfl,?_⟩;have ec:dG (.tuple [.int a,.int b])=Jh 2 100 (.int b):=by
     show(dO (.tuple [.int a,.int b])&&(decide (2<=b)&&decide (b<=100)))=_;rw [e,Bool.true_and];rfl
    cases z:Jh 2 100 (.int b) with
    | true=>exact bY (q1 (by rw [ec,z]))
    | false=>exact cq ⟨_,rfl,λ e' dx h1 h2 nd=>fE nd (q2 (by rw [ec,z]) e' dx h1 h2 nd)⟩
abbrev Fm:Stmt:=bX 31
def uq:Sp:=λ vs H Q _=>∃ i:Int,vs=[.int i]/\0<=i/\i<=20/\∀ l H',Ext H H'->Ð H' (.ref l) (fz [bR 0 i.toNat])->Q (.ref l) H'
theorem G4:ad ["folk"] ["folk"] (aa Fm):=aM
theorem Ce {f:Addr}{fd:FuncData}(F:Ö K "one_part" "one_part" Fm f fd)(mt:mg "tuple" = none)(mr:mg "range" = none):Â P w K mg base av 1 f fd ["folk"] uq:=by
 refine F.ok G4 (λ vs H Q E h=>?_) (λ cdv A outer s H vs Q E hr h=>?_)
 ·obtain⟨_,rfl,_⟩:=h;rfl
 obtain⟨i,rfl,h1,h2,q⟩:=h;refine⟨_,aY (cZ (aI (ac (aO (kq rfl) rfl mt PyProof.Rows.boot_tuple (ac (aO qj rfl mr PyProof.Rows.boot_range (ac (pv 0) ak)) ak)) ak))),?_⟩;refine⟨_,rfl,i,rfl,λ r hr=>⟨r,0,i,rfl,aL,⟨by omega,by omega,by omega,by omega⟩,by omega,λ l hl=>⟨by show 1<=sizeLine;decide,λ m hm=>?_⟩⟩⟩
 have x2:=Ext.new (o:=.tup [.ref l]) hm;refine q m _ (((Ext.new hr).trans (Ext.new hl)).trans x2) (.tup aL (.cons (.tup (x2 _ _ aL) ?_) .nil));rw [Int.sub_zero,lc];exact dH _ _
end
def vU:PyData->Bool
 | .tuple [a,b]=>lM (-99) 99 a&&vJ b
 | _=>false
def Ot (K:Frag)(H:Hp)(v:V)(b:Bool):Prop:=(∃ d,Ð H v d/\b=vU d)\/(K1 K H v "tuple" /\ b=false)
theorem Ot.ext {K:Frag}{H H':Hp}{v:V}{b:Bool}(h:Ot K H v b)(x:Ext H H'):Ot K H' v b:=by
 rcases h with⟨d,r,e⟩ | ⟨n,e⟩
 ·exact .inl ⟨d,r.mono x,e⟩
 ·exact .inr ⟨n.ext x,e⟩
theorem vK {d:PyData}(h:vU d=true):∃(x:Int)(b:Bool),d=.tuple [.int x,.bool b]/\-99<=x/\x<=99:=by
 match d,h with
 | .tuple [a,b],h =>
  have h':(lM (-99) 99 a&&vJ b)=true:=h;rw [Bool.and_eq_true] at h';obtain⟨i,rfl,h1,h2⟩:=fm h'.1;cases b with
  | bool b=>exact⟨i,b,rfl,h1,h2⟩
  | _=>cases h'.2
theorem Ot.two {K:Frag}{H:Hp}{v:V}(h:Ot K H v true):∃ a n s,v=.ref a/\H a=some (.tup [.int n,.bl s]):=by
 rcases h with⟨d,r,e⟩ | ⟨_,e⟩
 ·obtain⟨n,s,rfl,_⟩:=vK e.symm;cases r with
  | tup ha rs =>
   cases rs with
   | cons r1 rs =>
    cases rs with
    | cons r2 rs =>
     cases rs;cases r1;cases r2;exact⟨_,_,_,rfl,ha⟩
 ·cases e
def sf (K:Frag)(H:Hp)(xs:List V)(bs:List Bool):Prop:=xs.length=bs.length/\∀(i:Nat) x,xs[i]?=some x->∃ b,bs[i]?=some b/\Ot K H x b
section
variable {P:Program}{w:World}{K:Frag}{mg:Str->Option Value}{base:Heap}
abbrev Fl:Stmt:=bX 46
def DB (K:Frag):Sp:=λ vs H Q _=>∃ v b,vs=[v]/\Ot K H v b/\Q (.bl b) H
theorem MX:ad ["thing","number","sure"] ["thing"] (aa Fl):=aM
theorem D9 {f a1:Addr}{fd d1:FuncData}{t1 t2:Tok}(N:qG K)(F:Ö K "is_outcome" "is_outcome" Fl f fd)(A1:Df P w K mg base av 2 "is_whole" ["thing","low","high"] (ie K) a1 d1)(mL:mg "LEAST_NUMBER" = some (.int (-99) t1))(mM:mg "MOST_NUMBER" = some (.int 99 t2))
  (mi:mg "isinstance" = none)(mt:mg "tuple" = none)(ml:mg "len" = none)(mb:mg "bool" = none):Â P w K mg base av 3 f fd ["thing"] (DB K):=by
 refine F.ok MX (λ vs H Q E h=>?_) (λ cdv A outer s H vs Q E hr h=>?_)
 ·obtain⟨v,b,rfl,_⟩:=h;rfl
 obtain⟨v,b,rfl,ot,q⟩:=h;have nd:=MX.nd;refine⟨_,cw (bo (PW.pt (fD (cu (bI (am (cg N) rfl mi PyProof.Rows.boot_isinstance (ac (pv 0) (ac (fX rfl mt PyProof.Rows.boot_tuple) ak))))) (fc (ao jr (am aG rfl ml PySem.boot_len (ac (pv 0) ak)) ay (ar _))))) (aY (cZ ug)) gG)
  (cw (ft (pv 0) (bq rfl (dq (bV (i:=1) nd rfl (Or.inl rfl)) (dq (bV (i:=2) nd rfl (Or.inl rfl)) aU))))
  (aY (cZ (dy (bU A1.G hr rfl A1.m A1.kp A1.b .nil aj (ac (pv 1) (ac (bT (v:=.int (-99)) rfl mL ⟨_,rfl⟩) (ac (bT (v:=.int 99) rfl mM ⟨_,rfl⟩) ak)))) (eD (am (cg N) rfl mi PyProof.Rows.boot_isinstance (ac (pv 2) (ac (fX rfl mb PyProof.Rows.boot_bool) ak)))))))),?_⟩
 rcases ot with⟨d,rd,rfl⟩ | ⟨⟨t,kd,kt⟩,rfl⟩
 rotate_left
 ·exact⟨_,rfl,_,_,_,_,rfl,kd,kt,_,rfl,cq (cq q)⟩
 refine⟨_,rfl,_,_,_,_,rfl,rd.kd,rd.SG,_,rfl,?_⟩;cases e:zZ d with
 | false =>
  refine cq (cq ?_);have z:vU d=false:=by cases d <;> first | rfl | cases e
  rw [z] at q;exact q
 | true =>
  obtain⟨ds,rfl⟩:∃ ds,d=.tuple ds:=by cases d <;> first | exact⟨_,rfl⟩ | cases e
  obtain⟨a,xs,rfl,ha,rs⟩:=fZ rd;refine bY ⟨_,rfl,a,_,rfl,.inr (Ì.of ha),rfl,_,rfl,?_⟩;have len:=rs.length;by_cases l2:xs.length=2
  ·obtain⟨u,v,rfl⟩:∃ u v,xs=[u,v]:=by
    match xs,l2 with
    | [u,v],_=>exact⟨u,v,rfl⟩
   cases rs with
   | cons r1 rs =>
    cases rs with
    | cons r2 rs =>
     cases rs;refine bY ⟨_,rfl,a,_,rfl,Ì.of ha,rfl,_,_,rfl,_,_,rfl,rfl,?_⟩;refine⟨_,rfl,u,-99,99,rfl,r1.th,_,rfl,?_⟩;rw [r1.Jh]
     rename_i d1 d2
     have qq:Q (.bl (lM (-99) 99 d1&&vJ d2)) H:=q;cases e1:lM (-99) 99 d1 with
     | false =>
      rw [e1] at qq;exact bY qq
     | true =>
      rw [e1] at qq;exact cq ⟨_,rfl,_,_,_,_,rfl,r2.kd,r2.Va,qq⟩
  ·have e1:(!decide (V.int (xs.length:Nat)=V.int 2))=true:=by
    rw [decide_eq_false]
    ·rfl
    ·intro h;injection h with h
     omega
   rw [e1];refine cq ?_;have z:vU (.tuple ds)=false:=by
    match ds,len,l2 with
    | [],_,_=>rfl
    | [_],_,_=>rfl
    | [_,_],l,n=>exact absurd l n
    | _::_::_::_,_,_=>rfl
   rw [z] at q;exact q
abbrev FD:Stmt:=bX 47
def AT (K:Frag)(C:Addr):Sp:=λ vs H Q E=>∃(v:V)(b:Bool)(i:Nat),vs=[v,.int (i:Nat)]/\Ot K H v b/\(b=true->Q .Æ H)/\(b=false->cS C "place" (.int (i:Nat)) H E)
theorem F5:ad ["thing","place"] ["thing","place"] (aa FD):=aM
theorem Ep {f D C fC a1:Addr}{fd Ž d1:FuncData}(F:Ö K "need_outcome" "need_outcome" FD f fd)(B:Ò K D)(T:fH K mg D "NoOutcome" "place" C fC Ž)(A1:Df P w K mg base av 3 "is_outcome" ["thing"] (DB K) a1 d1):Â P w K mg base (cK P w) 4 f fd ["thing","place"] (AT K C):=by
 refine mk F F5 (λ vs H Q E h=>?_) (λ cdv A outer s H vs Q E hr h=>?_)
 ·obtain⟨v,d,n,rfl,_⟩:=h;rfl
 obtain⟨v,d,i,rfl,rd,q1,q2⟩:=h;have Ł:=hr.mono (show 2<=3 by decide)
 refine⟨_,aY (bo (cu (bI (bU A1.G hr rfl A1.m A1.kp A1.b .nil aj (ac (pv 0) ak)))) (aY (cQ B T.cls (T.ok P w base) Ł T.bi rfl T.Kp (pv 1))) gG),?_⟩;refine⟨_,rfl,v,d,rfl,rd,_,rfl,?_⟩;cases e:d with
 | false=>exact cq ⟨_,rfl,λ e' dx h1 h2 nd=>fE nd (q2 e e' dx h1 h2 nd)⟩
 | true=>exact bY (q1 e)
abbrev vi:Stmt:=bX 48
def wJ (K:Frag)(CF CO:Addr):Sp:=λ vs H Q E=>∃(v:V),vs=[v]/\((K1 K H v "list" /\ cS CF "found" v H E)\/∃ a xs bs,v=.ref a/\H a=some (.lst xs)/\sf K H xs bs/\(bs.all id=true->∀ H',Ext H H'->Q .Æ H')/\∀ i,cG bs i->∀ H',Ext H H'->cS CO "place" (.int (i:Nat)) H' E)
theorem K3:ad ["thing","place","outcome"] ["thing"] (aa vi):=aM
theorem Bc {f D CF fC CO a1:Addr}{fd Ž d1:FuncData}(N:qG K)(F:Ö K "need_outcomes" "need_outcomes" vi f fd)(B:Ò K D)(T:fH K mg D "NoFolk" "found" CF fC Ž)(A1:Df P w K mg base (cK P w) 4 "need_outcome" ["thing","place"] (AT K CO) a1 d1)
  (mi:mg "isinstance" = none)(ml:mg "list" = none)(me:mg "enumerate" = none):Â P w K mg base (cK P w) 5 f fd ["thing"] (wJ K CF CO):=by
 refine mk F K3 (λ vs H Q E h=>?_) (λ cdv A outer s H vs Q E hr h=>?_)
 ·obtain⟨v,rfl,_⟩:=h;rfl
 obtain⟨v,rfl,h⟩:=h;have nd:=K3.nd;have Ł:=hr.mono (show 2<=4 by decide)
 refine⟨_,cw (bo (cu (bI (am (cg N) rfl mi PyProof.Rows.boot_isinstance (ac (pv 0) (ac (fX rfl ml PyProof.Rows.boot_list) ak))))) (aY (cQ B T.cls (T.ok P w base) Ł T.bi rfl T.Kp (pv 0))) gG)
  (aY (bZ PassesOwn.leaving rfl (f6 rfl me (ac (pv 0) ak)) (bq rfl (dq (bV (i:=1) nd rfl (Or.inl rfl)) (dq (bV (i:=2) nd rfl (Or.inl rfl)) aU)))
   (aY (aq (bU A1.G hr rfl A1.m A1.kp A1.b .nil dm (ac (pv 2) (ac (pv 1) ak))))))),?_⟩
 rcases h with⟨⟨t,kd,kt⟩,q1⟩ | ⟨a,xs,bs,rfl,ha,⟨ln,ot⟩,qn,qe⟩
 ·exact⟨_,rfl,_,_,_,_,rfl,kd,kt,_,rfl,cq ⟨_,rfl,λ e' dx h1 h2 nd=>fE nd (q1 e' dx h1 h2 nd)⟩⟩
 refine⟨_,rfl,_,_,_,_,rfl,.inl (.lst ha),rfl,_,rfl,bY ?_⟩;refine⟨_,rfl,a,rfl,⟨_,Ã.of ha⟩,fW (xs:=xs) (λ i σ H'=>Ext H H'/\(∀(j:Nat) b,j<i->bs[j]?=some b->b=true)/\∃ o1 o2,σ=[some (.ref a),o1,o2]) ⟨Ext.refl _,λ j d h=>absurd h (Nat.not_lt_zero _),_,_,rfl⟩ ?_ ?_ ?_⟩
 ·rintro i σ H' _ ⟨x',_⟩;exact Ã.of (x' _ _ ha)
 ·rintro i v σ H' k ev ⟨x',good,o1,o2,rfl⟩ hk;have xk:=Ext.new (o:=.tup [.int (i:Nat),v]) hk;obtain⟨d,ed,rv⟩:=ot i v ev;refine⟨k,_,rfl,Ì.of aL,rfl,_,_,rfl,_,_,rfl,rfl,?_⟩;refine⟨_,rfl,_,rfl,v,d,i,rfl,rv.ext (x'.trans xk),λ o=>?_,λ o=>?_⟩
  ·refine⟨x'.trans xk,λ j d' hj hd=>?_,_,_,rfl⟩;rcases Nat.lt_or_ge j i with lt | ge
   ·exact good j d' lt hd
   ·have e0:j=i:=by omega
    subst e0;rw [ed] at hd;cases hd;exact o
  ·exact qe i ⟨good,by rw [ed,o]⟩ _ (x'.trans xk)
 ·rintro σ H' ⟨x',good,o1,o2,rfl⟩;refine qn ?_ H' x';rw [List.all_eq_true];intro d hd;obtain⟨j,hj,e⟩:=List.getElem_of_mem hd;exact good j d (by rw [ln];exact hj) (by rw [List.getElem?_eq_getElem hj,e])
end
def xI (n1:Int)(s1:Bool)(n2:Int)(s2:Bool):Int:=if(s2&&decide (n1>n2))=true then 1 else if(s1&&decide (n2>n1))=true then -1 else 0
section
variable {P:Program}{w:World}{K:Frag}{mg:Str->Option Value}{base:Heap}
abbrev FA:Stmt:=bX 50
def Dw:Sp:=λ vs H Q _=>∃(a1 a2:Addr)(n1 n2:Int)(s1 s2:Bool),vs=[.ref a1,.ref a2]/\H a1=some (.tup [.int n1,.bl s1])/\H a2=some (.tup [.int n2,.bl s2])/\Q (.bl (s2&&decide (n1>n2))) H
theorem GL:ad ["one","other"] ["one","other"] (aa FA):=aM
theorem CJ {f:Addr}{fd:FuncData}(F:Ö K "surely_greater" "surely_greater" FA f fd):Â P w K mg base av 1 f fd ["one","other"] Dw:=by
 refine F.ok GL (λ vs H Q E h=>?_) (λ cdv A outer s H vs Q E hr h=>?_)
 ·obtain⟨_,_,_,_,_,_,rfl,_⟩:=h;rfl
 obtain⟨a1,a2,n1,n2,s1,s2,rfl,h1,h2,q⟩:=h;refine⟨_,aY (cZ (dy (cy gF (pv 1) ay) (eD (cC fS (cy gF (pv 0) ay) (cy gF (pv 1) ay) (ar _))))),?_⟩;refine⟨_,rfl,a2,_,_,_,rfl,rfl,Ì.of h2,cX (j:=1) rfl,_,rfl,?_⟩;cases s2 with
 | false=>exact bY q
 | true=>exact cq ⟨_,rfl,a1,_,_,_,rfl,rfl,Ì.of h1,cX (j:=0) rfl,_,rfl,a2,_,_,_,rfl,rfl,Ì.of h2,cX (j:=0) rfl,_,_,rfl,rfl,q⟩
abbrev Fv:Stmt:=bX 51
def mf (K:Frag)(CO:Addr):Sp:=λ vs H Q E=>∃(v1 v2:V)(b1 b2:Bool),vs=[v1,v2]/\Ot K H v1 b1/\Ot K H v2 b2/\(b1=false->cS CO "place" (.int (0:Nat)) H E)/\(b1=true->b2=false->cS CO "place" (.int (1:Nat)) H E) /\
 ∀ a1 a2 n1 n2 s1 s2,v1=.ref a1->v2=.ref a2->H a1=some (.tup [.int n1,.bl s1])->H a2=some (.tup [.int n2,.bl s2])->b1=true->b2=true->Q (.int (xI n1 s1 n2 s2)) H
theorem Gg:ad ["one","other"] ["one","other"] (aa Fv):=aM
theorem Ey {f CO a1 a2:Addr}{fd d1 d2:FuncData}(F:Ö K "stands_to" "stands_to" Fv f fd)(A1:Df P w K mg base (cK P w) 4 "need_outcome" ["thing","place"] (AT K CO) a1 d1)(A2:Df P w K mg base av 1 "surely_greater" ["one","other"] Dw a2 d2):Â P w K mg base (cK P w) 5 f fd ["one","other"] (mf K CO):=by
 refine mk F Gg (λ vs H Q E h=>?_) (λ cdv A outer s H vs Q E hr h=>?_)
 ·obtain⟨_,_,_,_,rfl,_⟩:=h;rfl
 obtain⟨v1,v2,b1,b2,rfl,o1,o2,e1,e2,q⟩:=h;have Û:Ä 1 _:=hr.mono (by decide)
 refine⟨_,cw (aq (bU A1.G hr rfl A1.m A1.kp A1.b .nil dm (ac (pv 0) (ac ay ak)))) (cw (aq (bU A1.G hr rfl A1.m A1.kp A1.b .nil dm (ac (pv 1) (ac ay ak))))
  (cw (bo (bI (bU A2.G Û rfl A2.m A2.kp A2.b .nil aj (ac (pv 0) (ac (pv 1) ak)))) (aY (cZ ay)) gG)
  (cw (bo (bI (bU A2.G Û rfl A2.m A2.kp A2.b .nil aj (ac (pv 1) (ac (pv 0) ak)))) (aY (cZ (Ec yc ay))) gG)
  (aY (cZ ay))))),?_⟩
 refine⟨_,rfl,v1,b1,0,rfl,o1,λ h1=>⟨_,rfl,v2,b2,1,rfl,o2,λ h2=>?_,λ h2=>e2 h1 h2⟩,λ h1=>e1 h1⟩;subst h1 h2;obtain⟨p1,n1,s1,rfl,t1⟩:=o1.two;obtain⟨p2,n2,s2,rfl,t2⟩:=o2.two;have qq:=q p1 p2 n1 n2 s1 s2 rfl rfl t1 t2 rfl rfl;unfold xI at qq;refine⟨_,rfl,_,rfl,p1,p2,n1,n2,s1,s2,rfl,t1,t2,_,rfl,?_⟩;cases g1:s2&&decide (n1>n2) with
 | true=>rw [g1,if_pos rfl] at qq;exact cq qq
 | false =>
  rw [g1,if_neg (by decide)] at qq
  refine bY ⟨_,rfl,_,rfl,p2,p1,n2,n1,s2,s1,rfl,t2,t1,_,rfl,?_⟩;cases g2:s1&&decide (n2>n1) with
  | true=>rw [g2,if_pos rfl] at qq;exact cq ⟨1,rfl,qq⟩
  | false=>rw [g2,if_neg (by decide)] at qq;exact bY qq
abbrev v5:Stmt:=bX 49
def w5 (K:Frag)(CF CO:Addr):Sp:=λ vs H Q E=>∃(v:V)(n:Int),vs=[v,.int n]/\((K1 K H v "list" /\ cS CF "found" v H E)\/∃ a xs bs,v=.ref a/\H a=some (.lst xs)/\sf K H xs bs/\(bs.all id=true->∀ H',Ext H H'->if(xs.length:Int)=n then Q .Æ H' else cS CF "found" (.int (xs.length:Nat)) H' E)/\∀ i,cG bs i->∀ H',Ext H H'->cS CO "place" (.int (i:Nat)) H' E)
theorem EV:ad ["thing","folk"] ["thing","folk"] (aa v5):=aM
theorem BQ {f D CF fC CO a1:Addr}{fd Ž d1:FuncData}(F:Ö K "need_outcomes_of" "need_outcomes_of" v5 f fd)(B:Ò K D)(T:fH K mg D "NoFolk" "found" CF fC Ž)(A1:Df P w K mg base (cK P w) 5 "need_outcomes" ["thing"] (wJ K CF CO) a1 d1)(ml:mg "len" = none):Â P w K mg base (cK P w) 6 f fd ["thing","folk"] (w5 K CF CO):=by
 refine mk F EV (λ vs H Q E h=>?_) (λ cdv A outer s H vs Q E hr h=>?_)
 ·obtain⟨v,n,rfl,_⟩:=h;rfl
 obtain⟨v,n,rfl,h⟩:=h;have Ł:=hr.mono (show 2<=5 by decide)
 refine⟨_,cw (aq (bU A1.G hr rfl A1.m A1.kp A1.b .nil dm (ac (pv 0) ak)))
  (aY (bo (ao jr (am aG rfl ml PySem.boot_len (ac (pv 0) ak)) (pv 1) (ar _)) (aY (cQ B T.cls (T.ok P w base) Ł T.bi rfl T.Kp (am aG rfl ml PySem.boot_len (ac (pv 0) ak)))) gG)),?_⟩
 rcases h with⟨nk,q1⟩ | ⟨a,xs,bs,rfl,ha,ot,qn,qe⟩
 ·exact⟨_,rfl,v,rfl,.inl ⟨nk,q1⟩⟩
 ·refine⟨_,rfl,_,rfl,.inr ⟨a,xs,bs,rfl,ha,ot,λ al H' x'=>?_,qe⟩⟩;have q:=qn al H' x';refine⟨_,rfl,a,xs,rfl,.inl (Ã.of (x' _ _ ha)),_,rfl,rfl,_,rfl,?_⟩;by_cases e:(xs.length:Int)=n
  ·rw [if_pos e] at q;rw [decide_eq_true (by rw [e])]
   exact bY q
  ·rw [if_neg e] at q;rw [decide_eq_false (λ z=>e (V.int.inj z))];exact cq ⟨_,rfl,a,xs,rfl,.inl (Ã.of (x' _ _ ha)),λ e' dx h1 h2 nd=>fE nd (q e' dx h1 h2 nd)⟩
abbrev uo:Stmt:=bX 53
def Fu (H:Hp)(v:V)(o:Int × Bool):Prop:=∃ a,v=.ref a/\H a=some (.tup [.int o.1,.bl o.2])
def ė (H:Hp)(xs:List V)(os:List (Int × Bool)):Prop:=xs.length=os.length/\∀(i:Nat) x o,xs[i]?=some x->os[i]?=some o->Fu H x o
def sU (CU:Addr):Sp:=λ vs H Q E=>∃ a xs os,vs=[.ref a]/\H a=some (.lst xs)/\ė H xs os/\((os.map (·.2)).all id=true->∀ H',Ext H H'->Q .Æ H')/\∀ i,cG (os.map (·.2)) i->∀ H',Ext H H'->cS CU "place" (.int (i:Nat)) H' E
theorem K4:ad ["outcomes","place","outcome"] ["outcomes"] (aa uo):=aM
theorem yS {f D CU fC:Addr}{fd Ž:FuncData}(F:Ö K "need_sure" "need_sure" uo f fd)(B:Ò K D)(T:fH K mg D "NotSure" "place" CU fC Ž)(me:mg "enumerate" = none):Â P w K mg base (cK P w) 3 f fd ["outcomes"] (sU CU):=by
 refine mk F K4 (λ vs H Q E h=>?_) (λ cdv A outer s H vs Q E hr h=>?_)
 ·obtain⟨_,_,_,rfl,_⟩:=h;rfl
 obtain⟨a,xs,os,rfl,ha,⟨ln,oc⟩,qn,qe⟩:=h;have nd:=K4.nd;have Ł:=hr;refine⟨_,aY (bZ PassesOwn.leaving rfl (f6 rfl me (ac (pv 0) ak)) (bq rfl (dq (bV (i:=1) nd rfl (Or.inl rfl)) (dq (bV (i:=2) nd rfl (Or.inl rfl)) aU)))
   (aY (bo (cu (bI (cy gF (pv 2) ay))) (aY (cQ B T.cls (T.ok P w base) Ł T.bi rfl T.Kp (pv 1))) gG))),?_⟩
 refine⟨_,rfl,a,rfl,⟨_,Ã.of ha⟩,fW (xs:=xs) (λ i σ H'=>Ext H H'/\(∀(j:Nat) b,j<i->(os.map (·.2))[j]?=some b->b=true)/\∃ o1 o2,σ=[some (.ref a),o1,o2]) ⟨Ext.refl _,λ j d h=>absurd h (Nat.not_lt_zero _),_,_,rfl⟩ ?_ ?_ ?_⟩
 ·rintro i σ H' _ ⟨x',_⟩;exact Ã.of (x' _ _ ha)
 ·rintro i v σ H' k ev ⟨x',good,o1,o2,rfl⟩ hk;have xk:=Ext.new (o:=.tup [.int (i:Nat),v]) hk;have li:i<os.length:=by rw [<- ln];exact(List.getElem?_eq_some_iff.mp ev).1
  obtain⟨b,rfl,hb⟩:=oc i v _ ev (List.getElem?_eq_getElem li);have em:(os.map (·.2))[i]?=some os[i].2:=by rw [List.getElem?_map,List.getElem?_eq_getElem li];rfl
  refine⟨k,_,rfl,Ì.of aL,rfl,_,_,rfl,_,_,rfl,rfl,?_⟩;refine⟨_,rfl,b,_,_,_,rfl,rfl,Ì.of (xk _ _ (x' _ _ hb)),cX (j:=1) rfl,_,rfl,?_⟩;cases hs:os[i].2 with
  | true =>
   refine bY ⟨x'.trans xk,λ j d' hj hd=>?_,_,_,rfl⟩;rcases Nat.lt_or_ge j i with lt | ge
   ·exact good j d' lt hd
   ·have e0:j=i:=by omega
    subst e0;rw [em,hs] at hd;cases hd;rfl
  | false =>
   refine cq ⟨_,rfl,λ e' dx h1 h2 nd=>fE nd (qe i ⟨good,by rw [em,hs]⟩ _ (x'.trans xk) e' dx h1 h2 nd)⟩
 ·rintro σ H' ⟨x',good,o1,o2,rfl⟩;refine qn ?_ H' x';rw [List.all_eq_true];intro d hd;obtain⟨j,hj,e⟩:=List.getElem_of_mem hd;exact good j d (by rw [ln];simpa using hj) (by rw [List.getElem?_eq_getElem hj,e])
variable {C:Nat->Addr}{CR:Addr}
abbrev uS:Stmt:=az (bX 35) 0
abbrev vb:Stmt:=az (bX 35) 1
abbrev vP:Stmt:=az (bX 35) 2
abbrev uA:Stmt:=az (bX 35) 4
abbrev vX:Stmt:=az (bX 35) 5
def fK (v1 v2 v3 v4:V)(fs:List (Str × V)):List (Str × V):=bO "parts" v4 (bO "mark" v3 (bO "first_state" v2 (bO "size" v1 fs)))
def jc (C:Nat->Addr):Sp:=λ vs H Q _=>∃ x v1 v2 v3 v4 i dx fs,vs=[.ref x,v1,v2,v3,v4]/\i<5/\H x=some (.ins (C i) dx fs)/\fs.length<=5/\Q .Æ (ae H x (.ins (C i) dx (fK v1 v2 v3 v4 fs)))
theorem Ei:ad ["self","size","first_state","mark","parts"] ["self","size","first_state","mark","parts"] (aa uS):=aM
theorem gO (f:Str)(v:V):∀ fs:List (Str × V),(bO f v fs).length<=fs.length+1
 | []=>Nat.le_refl _
 | (g,x)::r=>by
  have:=gO f v r;show(if g=f then(g,v)::r else(g,x)::bO f v r).length<=_
  split <;> simp only [List.length_cons] <;> omega
theorem BS {f:Addr}{fd:FuncData}(Z:KR K C CR)(F:Ö K "__init__" "Rule.__init__" uS f fd):Â P w K mg base av 1 f fd ["self","size","first_state","mark","parts"] (jc C):=by
 refine F.ok Ei (λ vs H Q E h=>?_) (λ cdv A outer s H vs Q E hr h=>?_)
 ·obtain⟨_,_,_,_,_,_,_,_,rfl,_⟩:=h;rfl
 obtain⟨x,v1,v2,v3,v4,i,dx,fs,rfl,hi,hx,l5,q⟩:=h;refine⟨_,cw (eF (pv 0) (pv 1) rfl) (cw (eF (pv 0) (pv 2) rfl) (cw (eF (pv 0) (pv 3) rfl) (aY (eF (pv 0) (pv 4) rfl)))),?_⟩;have c:=Z.cls i hi;have n:=Z.no i hi;have k1:=gO "size" v1 fs;have k2:=gO "first_state" v2 (bO "size" v1 fs);have k3:=gO "mark" v3 (bO "first_state" v2 (bO "size" v1 fs));refine⟨_,rfl,_,rfl,x,C i,dx,fs,rfl,hx,c,n _ (by decide +kernel),by omega,?_⟩
 refine⟨_,rfl,_,rfl,x,C i,dx,_,rfl,aL,c,n _ (by decide +kernel),by omega,?_⟩
 rw [fq];refine⟨_,rfl,_,rfl,x,C i,dx,_,rfl,aL,c,n _ (by decide +kernel),by omega,?_⟩
 rw [fq];refine⟨_,rfl,_,rfl,x,C i,dx,_,rfl,aL,c,n _ (by decide +kernel),by omega,?_⟩
 rw [fq];exact q
def la (C:Nat->Addr):Sp:=λ vs H Q _=>∃ v t,vs=[v]/\Ru C H t v/\Q (.int t.À) H
theorem DV:ad ["self"] ["self"] (aa vb):=aM
theorem xP {f:Addr}{fd:FuncData}(Z:KR K C CR)(F:Ö K "folk" "Rule.folk" vb f fd):Â P w K mg base av 1 f fd ["self"] (la C):=by
 refine F.ok DV (λ vs H Q E h=>?_) (λ cdv A outer s H vs Q E hr h=>?_)
 ·obtain⟨_,_,rfl,_⟩:=h;rfl
 obtain⟨v,t,rfl,ru,q⟩:=h;obtain⟨a,dx,fs,rfl,ha,h1,_⟩:=ru.ob.ex;exact⟨_,aY (cZ (ud (pv 0) rfl)),_,rfl,a,_,dx,fs,_,rfl,ha,Z.cls _ t.Ñ,Z.no _ t.Ñ _ (by decide +kernel),h1,q⟩
def iN (C:Nat->Addr):Sp:=λ vs H Q _=>∃ v t G,vs=[v]/\Ext G H/\Ru C G t v/\∀ b,Ð G b t.begin->Q b H
theorem Fb:ad ["self"] ["self"] (aa vP):=aM
theorem AB {f:Addr}{fd:FuncData}(Z:KR K C CR)(F:Ö K "begin" "Rule.begin" vP f fd):Â P w K mg base av 1 f fd ["self"] (iN C):=by
 refine F.ok Fb (λ vs H Q E h=>?_) (λ cdv A outer s H vs Q E hr h=>?_)
 ·obtain⟨_,_,_,rfl,_⟩:=h;rfl
 obtain⟨v,t,G,rfl,xG,ru,q⟩:=h;obtain⟨a,dx,fs,rfl,ha,_,⟨b,h2,r2⟩,_⟩:=ru.ob.ex;exact⟨_,aY (cZ (ud (pv 0) rfl)),_,rfl,a,_,dx,fs,_,rfl,xG _ _ ha,Z.cls _ t.Ñ,Z.no _ t.Ñ _ (by decide +kernel),h2,q b r2⟩
def jq (C:Nat->Addr):Sp:=λ vs H Q _=>∃ v t G,vs=[v]/\Ext G H/\Ru C G t v/\∀ b,Ð G b t.told->Q b H
theorem CD:ad ["self"] ["self"] (aa uA):=aM
theorem zQ {f:Addr}{fd:FuncData}(Z:KR K C CR)(F:Ö K "told" "Rule.told" uA f fd):Â P w K mg base av 1 f fd ["self"] (jq C):=by
 refine F.ok CD (λ vs H Q E h=>?_) (λ cdv A outer s H vs Q E hr h=>?_)
 ·obtain⟨_,_,_,rfl,_⟩:=h;rfl
 obtain⟨v,t,G,rfl,xG,ru,q⟩:=h;obtain⟨a,dx,fs,rfl,ha,_,_,⟨b,h2,r2⟩,_⟩:=ru.ob.ex;exact⟨_,aY (cZ (ud (pv 0) rfl)),_,rfl,a,_,dx,fs,_,rfl,xG _ _ ha,Z.cls _ t.Ñ,Z.no _ t.Ñ _ (by decide +kernel),h2,q b r2⟩
def rO (C:Nat->Addr):Sp:=λ vs H Q _=>∃ v t,vs=[v]/\Ru C H t v/\t.parts.length<=20/\(∀ p∈t.parts,p.length<=20)/\∀(l:Addr)(bs:List Addr)(H':Hp),Ext H H'->H l=none->H' l=some (.lst (bs.map V.ref))->l ∉ bs->(∀ b∈bs,H b=none)->bs.length=t.parts.length->(∀(i:Nat) b p,bs[i]?=some b->t.parts[i]?=some p->H' b=some (.lst (p.map V.int)))->Q (.ref l) H'
theorem DK:ad ["self"] ["self"] (aa vX):=aM
abbrev yY:Scope:={ kind:=.function,names:=[(".0",.local),("part",.local),("list",.globalImplicit)],isGenerator:=false,isCoroutine:=false }
theorem Eo {X:Cx}:bu X yY [] ["part"] [] []:=by
 refine⟨rfl,rfl,by decide +kernel,by decide +kernel,by decide +kernel,(λ z c h=>nomatch h),(λ z h=>?_),by decide +kernel,(λ k z h=>by simp at h),rfl⟩
 exfalso;have h':List.lookup z [((".0" : Str),NameKind.local),(("part" : Str),NameKind.local),(("list" : Str),NameKind.globalImplicit)]=some .cell\/List.lookup z [((".0" : Str),NameKind.local),(("part" : Str),NameKind.local),(("list" : Str),NameKind.globalImplicit)]=some .free:=h;simp only [List.lookup_cons,List.lookup_nil] at h'
 repeat' (split at h')
 all_goals simp at h'
theorem HV:((["part"]:List Str)++([]:List Str)).Nodup:=by decide +kernel
def uG (K:Frag):List V->Hp->VK->Prop:=λ xs H Q=>∃ p ys,xs=[.ref p]/\(Ã K H p ys\/Ì K H p ys)/\∀ l,H l=none->Q (.ref l) (ae H l (.lst ys))
theorem Ba {f:Addr}{fd:FuncData}(Z:KR K C CR)(F:Ö K "blocks" "Rule.blocks" vX f fd)(ml:mg "list" = none):Â P w K mg base av 1 f fd ["self"] (rO C):=by
 refine F.ok DK (λ vs H Q E h=>?_) (λ cdv A outer s H vs Q E hr h=>?_)
 ·obtain⟨_,_,rfl,_⟩:=h;rfl
 obtain⟨v,t,rfl,ru,Ő,SK,q⟩:=h;obtain⟨a,dx,fs,rfl,ha,_,_,_,⟨b,h2,r2⟩,_⟩:=ru.ob.ex;refine⟨_,aY (cZ (cR (te:=gH (uG K) (ah (af 0) aF)) (g:=aW 0) rfl Eo (pb (ud (pv 0) rfl)) (λ s H C fp=>by exact bV (i:=0) HV rfl (.inl rfl)) (λ s H C fp=>by exact aO gJ rfl ml PyProof.Rows.boot_list (ac (pv 0) ak)))),?_⟩
 obtain⟨p,xs,rfl,hp,rs⟩:=fZ r2;have lx:=rs.length;rw [List.length_map] at lx;refine⟨_,rfl,a,_,dx,fs,_,rfl,ha,Z.cls _ t.Ñ,Z.no _ t.Ñ _ (by decide +kernel),h2,p,rfl,⟨_,Ì.of hp⟩,λ D hD=>?_⟩
 refine pz (a:=p) (xs:=xs) (λ i ys H'=>Ext H H'/\∃ bs:List Addr,ys=bs.map V.ref/\D ∉ bs/\(∀ b∈bs,H b=none)/\∀(j:Nat) b q,bs[j]?=some b->t.parts[j]?=some q->H' b=some (.lst (q.map V.int))) (by rw [sizeLine_eq];omega) ⟨Ext.new hD,[],rfl,by simp,by simp,by simp⟩ (λ i ys H' pv=>Ì.of (pv.1 _ _ hp)) ?_ ?_
 ·rintro i x ys H' ex ly Ô ⟨x',bs,rfl,nD,fr,ct⟩ os á R k;obtain⟨o0,rfl⟩:∃ o0,os=[o0]:=by
   match os,á with
   | [o0],_=>exact⟨o0,rfl⟩
  have hi:i<t.parts.length:=by have:=(List.getElem?_eq_some_iff.mp ex).1;omega
  obtain⟨c,rfl,hc⟩:=iV rs ex (List.getElem?_eq_getElem hi);refine⟨⟨[some (.ref c)],rfl,rfl⟩,_,rfl,c,_,rfl,.inr (Ì.of (x' _ _ hc)),λ m hm=>?_⟩;have x2:=Ext.new (o:=.lst ((t.parts[i]).map V.int)) hm;have nm:m≠D:=λ e=>by rw [e,Ô] at hm;cases hm
  have Jy:H m=none:=by
   cases e:H m with
   | none=>rfl
   | some o=>rw [x' _ _ e] at hm;cases hm
  have ĥ:=x2 _ _ Ô;have lb:bs.length=i:=by rw [List.length_map] at ly;exact ly
  refine k _ _ ĥ ⟨aP _ (x'.trans x2) hD,bs ++ [m],by rw [List.map_append];rfl,?_,λ b hb=>?_,λ j b q hb hq=>?_⟩
  ·intro PD;rcases List.mem_append.mp PD with h | h
   ·exact nD h
   ·exact nm (List.mem_singleton.mp h).symm
  ·rcases List.mem_append.mp hb with h | h
   ·exact fr b h
   ·rw [List.mem_singleton.mp h];exact Jy
  ·rcases Nat.lt_or_ge j bs.length with lt | ge
   ·rw [List.getElem?_append_left lt] at hb;have nb:b≠D:=λ e=>nD (e ▸ List.mem_of_getElem? hb);rw [ag nb];exact x2 _ _ (ct j b q hb hq)
   ·rw [List.getElem?_append_right ge] at hb;have j0:j=bs.length:=by
     rcases Nat.lt_or_ge (j-bs.length) 1 with z | z
     ·omega
     ·rw [List.getElem?_eq_none (by simpa using z)] at hb;cases hb
    subst j0;rw [Nat.sub_self] at hb;cases hb;rw [lb,List.getElem?_eq_getElem hi] at hq;cases hq;rw [ag nm];exact aL
 ·rintro ys H' ly Ô ⟨x',bs,rfl,nD,fr,ct⟩;rw [List.length_map] at ly;exact q D bs H' x' hD Ô nD fr (by omega) ct
end
theorem cM {f g:Str}{v:V}{fs:List (Str × V)}:(bO f v fs).lookup g=if g=f then some v else fs.lookup g:=fV f g v fs
section
variable {v1 v2 v3 v4:V}{fs:List (Str × V)}
theorem qg:(fK v1 v2 v3 v4 fs).lookup ("size" : Str)=some v1:=by
 unfold fK;rw [cM,if_neg (by decide +kernel),cM,if_neg (by decide +kernel),cM,if_neg (by decide +kernel),cM,if_pos rfl]
theorem tH:(fK v1 v2 v3 v4 fs).lookup ("first_state" : Str)=some v2:=by
 unfold fK;rw [cM,if_neg (by decide +kernel),cM,if_neg (by decide +kernel),cM,if_pos rfl]
theorem qN:(fK v1 v2 v3 v4 fs).lookup ("mark" : Str)=some v3:=by
 unfold fK;rw [cM,if_neg (by decide +kernel),cM,if_pos rfl]
theorem nX:(fK v1 v2 v3 v4 fs).lookup ("parts" : Str)=some v4:=by
 unfold fK;rw [cM,if_pos rfl]
theorem cY {g:Str}(h:g ≠ "size" /\ g ≠ "first_state" /\ g ≠ "mark" /\ g ≠ "parts"):(fK v1 v2 v3 v4 fs).lookup g=fs.lookup g:=by
 unfold fK;rw [cM,if_neg h.2.2.2,cM,if_neg h.2.2.1,cM,if_neg h.2.1,cM,if_neg h.1]
theorem rJ {g:Str}(h:g∈ii):g ≠ "size" /\ g ≠ "first_state" /\ g ≠ "mark" /\ g ≠ "parts" := by
 have:∀ g∈ii,g ≠ "size" /\ g ≠ "first_state" /\ g ≠ "mark" /\ g ≠ "parts" := by decide +kernel
 exact this g h
theorem zX {g:Str}{ns:List Str}(h:g∈ii)(hn:∀ n∈fs.map (·.1),n∈hV):fs.lookup g=none:=by
 have nf:∀ g∈ii,∀ n∈hV,g≠n:=by decide +kernel
 cases e:fs.lookup g with
 | none=>rfl
 | some v =>
  exfalso;have:∀(l:List (Str × V)),l.lookup g=some v->g∈l.map (·.1):=by
   intro l
   induction l with
   | nil=>intro h;cases h
   | cons y l ih =>
    intro h;obtain⟨k,x⟩:=y;rw [List.lookup_cons] at h;cases e:g==k with
    | true=>rw [beq_iff_eq.mp e];exact List.mem_cons_self ..
    | false=>rw [e] at h;exact List.mem_cons_of_mem _ (ih h)
  exact nf g h g (hn g (this fs e)) rfl
theorem gN {Cl a dx:Addr}{H:Hp}{fk:Int}{bg tl pt:PyData}{X:List (Str × V)->Prop}(ha:H a=some (.ins Cl dx (fK (.int fk) v2 v3 v4 fs)))(r2:Ð H v2 bg)(r3:Ð H v3 tl)(r4:Ð H v4 pt)(hn:∀ n∈fs.map (·.1),n∈hV)(hx:X (fK (.int fk) v2 v3 v4 fs)):Ob Cl H (.ref a) fk bg tl pt X :=
 ⟨a,dx,_,rfl,ha,qg,⟨_,tH,r2⟩,⟨_,qN,r3⟩,⟨_,nX,r4⟩,λ m hm=>by rw [cY (rJ hm)];exact zX (ns:=[]) hm hn,hx⟩
variable {P:Program}{w:World}{K:Frag}{mg:Str->Option Value}{base:Heap}{C:Nat->Addr}{CR CN CS:Addr}
abbrev wl:Stmt:=az (bX 36) 0
abbrev u6:Stmt:=az (bX 37) 0
abbrev vS:Stmt:=az (bX 38) 0
def mq (C:Nat->Addr)(CN:Addr):Sp:=λ vs H Q E=>∃ x u1 u2 d1 d2 dx,vs=[.ref x,u1,u2]/\H x=some (.ins (C 0) dx [])/\Ð H u1 d1/\Ð H u2 d2/\(lM 1 20 d1=false->cS CN "found" u1 H E)/\(∀ n,d1=.int n->1<=n->n<=20->lM 0 n d2=false->cS CN "found" u2 H E) /\
 ∀ n k,d1=.int n->d2=.int k->(R0.split n k).ok->∀ H',Kept H H' x->Đ C H' (.split n k) (.ref x)->Q .Æ H'
theorem ER:ad ["self","folk","ones"] ["self","folk","ones"] (aa wl):=aM
variable {S g a1 a2 a3:Addr}{gd d1 d2 d3:FuncData}{t:Tok}
theorem zY {f:Addr}{fd:FuncData}(F:Ö K "__init__" "Split.__init__" wl f fd)(Cf:fG K S "__init__" g)(G:Â P w K mg base av 1 g gd ["self","size","first_state","mark","parts"] (jc C))(bG:Binds K gd ["self","size","first_state","mark","parts"] [])(mS:mg "Rule" = some (.ref S))
  (A1:Df P w K mg base (cK P w) 3 "need_number" ["thing","low","high"] (tV CN) a1 d1)(A2:Df P w K mg base av 1 "one_part" ["folk"] uq a2 d2)(mF:mg "MOST_FOLK" = some (.int 20 t)):Â P w K mg base (cK P w) 4 f fd ["self","folk","ones"] (mq C CN):=by
 refine mk F ER (λ vs H Q E h=>?_) (λ cdv A outer s H vs Q E hr h=>?_)
 ·obtain⟨_,_,_,_,_,_,rfl,_⟩:=h;rfl
 obtain⟨x,u1,u2,e1,e2,dx,rfl,hx,r1,r2,q1,q2,q⟩:=h;have Û:Ä 1 _:=hr.mono (by decide)
 refine⟨_,cw (aq (bU A1.G hr rfl A1.m A1.kp A1.b .nil dm (ac (pv 1) (ac ay (ac (bT (v:=.int 20) rfl mF ⟨_,rfl⟩) ak))))) (cw (aq (bU A1.G hr rfl A1.m A1.kp A1.b .nil dm (ac (pv 2) (ac ay (ac (pv 1) ak)))))
  (aY (aq (bL Cf G Û rfl mS bG .nil aj (ac (pv 0) (ac (pv 1) (ac (pv 2) (ac (aI (ac aw (ac (pv 1) (ac (pv 2) ak)))) (ac (bU A2.G Û rfl A2.m A2.kp A2.b .nil aj (ac (pv 1) ak)) ak))))))))),?_⟩
 refine⟨_,rfl,u1,e1,1,20,rfl,r1,λ h1=>?_,λ h1=>q1 h1⟩;obtain⟨n,rfl,n1,Ŧ⟩:=fm h1;cases r1;refine⟨_,rfl,_,rfl,u2,e2,0,n,rfl,r2,λ h2=>?_,λ h2=>q2 n rfl n1 Ŧ h2⟩;obtain⟨k,rfl,k0,kn⟩:=fm h2;cases r2;refine⟨_,rfl,_,rfl,_,rfl,_,rfl,_,rfl,by show 3<=sizeLine;decide,λ m hm=>⟨_,rfl,n,rfl,by omega,Ŧ,λ l H2 x2 rl=>?_⟩⟩
 have xm:=Ext.new (o:=.tup [.str "split",.int n,.int k]) hm;have ç:=xm.trans x2;have LO:=x2 _ _ (show ae H m (.tup [.str "split",.int n,.int k]) m=_ from aL);have ž:=ç _ _ hx;refine⟨x,_,_,_,_,0,dx,[],rfl,by decide,ž,by decide,q n k rfl rfl ⟨n1,Ŧ,k0,kn⟩ _ ((ç.kept x).trans (br _)) ?_⟩
 have kk:Kept H2 (ae H2 x (.ins (C 0) dx (fK (.int n) (.int k) (.ref m) (.ref l) []))) x:=br _;exact gN aL (.int _) ((Ð.tup LO (.cons (.str _) (.cons (.int _) (.cons (.int _) .nil)))).kept ž kk) (rl.kept ž kk) (by simp) trivial
def kA (C:Nat->Addr)(CN CS:Addr):Sp:=λ vs H Q E=>∃ x u1 u2 d1 d2 dx,vs=[.ref x,u1,u2]/\H x=some (.ins (C 1) dx [])/\Ð H u1 d1/\Ð H u2 d2/\(lM 1 10 d1=false->cS CN "found" u1 H E)/\(lM 1 10 d1=true->dG d2=false->cS CS "found" u2 H E) /\
 ∀ n a b,d1=.int n->d2=.tuple [.int a,.int b]->(R0.pairs n a b).ok->∀ H',Kept H H' x->Đ C H' (.pairs n a b) (.ref x)->Q .Æ H'
theorem DJ:ad ["self","pairs","coin"] ["self","pairs","coin"] (aa u6):=aM
theorem jE {d:PyData}(h:dG d=true):∃ a b,d=.tuple [.int a,.int b]:=by
 match d,h with
 | .tuple [.int a,.int b],_=>exact⟨a,b,rfl⟩
theorem Be {f:Addr}{fd:FuncData}(Z:KR K C CR)(F:Ö K "__init__" "Pairs.__init__" u6 f fd)(Cf:fG K S "__init__" g)(G:Â P w K mg base av 1 g gd ["self","size","first_state","mark","parts"] (jc C))(bG:Binds K gd ["self","size","first_state","mark","parts"] [])(mS:mg "Rule" = some (.ref S))
  (A1:Df P w K mg base (cK P w) 3 "need_number" ["thing","low","high"] (tV CN) a1 d1)(A2:Df P w K mg base av 1 "one_part" ["folk"] uq a2 d2)(A3:Df P w K mg base (cK P w) 5 "need_coin" ["thing"] (z8 CS) a3 d3)(mF:mg "MOST_PAIRS" = some (.int 10 t)):Â P w K mg base (cK P w) 6 f fd ["self","pairs","coin"] (kA C CN CS):=by
 refine mk F DJ (λ vs H Q E h=>?_) (λ cdv A outer s H vs Q E hr h=>?_)
 ·obtain⟨_,_,_,_,_,_,rfl,_⟩:=h;rfl
 obtain⟨x,u1,u2,e1,e2,dx,rfl,hx,r1,r2,q1,q2,q⟩:=h;have Û:Ä 1 _:=hr.mono (by decide)
 have Oj:Ä 3 _:=hr.mono (by decide)
 refine⟨_,cw (aq (bU A1.G Oj rfl A1.m A1.kp A1.b .nil dm (ac (pv 1) (ac ay (ac (bT (v:=.int 10) rfl mF ⟨_,rfl⟩) ak))))) (cw (aq (bU A3.G hr rfl A3.m A3.kp A3.b .nil dm (ac (pv 2) ak))) (cw (eF (pv 0) (pv 2) rfl)
  (aY (aq (bL Cf G Û rfl mS bG .nil aj (ac (pv 0) (ac (ax eI ay (pv 1)) (ac gz (ac (aI (ac aw (ac (pv 1) (ac (pv 2) ak)))) (ac (bU A2.G Û rfl A2.m A2.kp A2.b .nil aj (ac (ax eI ay (pv 1)) ak)) ak)))))))))),?_⟩
 refine⟨_,rfl,u1,e1,1,10,rfl,r1,λ h1=>?_,λ h1=>q1 h1⟩;refine⟨_,rfl,u2,e2,rfl,r2,λ h2=>?_,λ h2=>q2 h1 h2⟩;obtain⟨n,rfl,n1,Vi⟩:=fm h1;obtain⟨a,b,rfl⟩:=jE h2;cases r1;refine⟨_,rfl,_,rfl,x,C 1,dx,[],rfl,hx,Z.cls 1 (by decide),Z.no 1 (by decide) _ (by decide +kernel),by decide,?_⟩
 have k1:Kept H (ae H x (.ins (C 1) dx (bO "coin" u2 []))) x:=br _;have MY:=r2.kept hx k1;have ŗ:ae H x (.ins (C 1) dx (bO "coin" u2 [])) x=some (.ins (C 1) dx [("coin",u2)]):=aL;generalize ae H x (.ins (C 1) dx (bO "coin" u2 []))=H1 at k1 MY ŗ ⊢;have cm:ÿ 2 n:=.inl ⟨by decide,by decide⟩
 refine⟨_,rfl,_,rfl,_,_,rfl,rfl,cm,_,rfl,_,rfl,by show 3<=sizeLine;decide,λ m hm=>⟨_,rfl,_,_,rfl,rfl,cm,2*n,rfl,by omega,by omega,λ l H2 x2 rl=>?_⟩⟩
 have xm:=Ext.new (o:=.tup [.str "pairs",.int n,u2]) hm;have ç:=xm.trans x2;have LO:=x2 _ _ (show ae H1 m (.tup [.str "pairs",.int n,u2]) m=_ from aL);have ž:=ç _ _ ŗ;have MZ:=MY.mono ç;refine⟨x,_,_,_,_,1,dx,[("coin",u2)],rfl,by decide,ž,(by show 1<=5;decide),q n a b rfl rfl ⟨n1,Vi,h2⟩ _ ((k1.trans (ç.kept x)).trans (br _)) ?_⟩
 have kk:Kept H2 (ae H2 x (.ins (C 1) dx (fK (.int (2*n)) .Æ (.ref m) (.ref l) [("coin",u2)]))) x:=br _;refine gN aL .Æ ((Ð.tup LO (.cons (.str _) (.cons (.int _) (.cons MZ .nil)))).kept ž kk) (rl.kept ž kk) (λ n hn=>?_) ⟨u2,?_,MZ.kept ž kk⟩
 ·have e:n = "coin" := by simpa using hn
  rw [e]
  decide +kernel
 ·rw [cY (by decide +kernel)]
  rfl
def nF (C:Nat->Addr)(CN CS:Addr):Sp:=λ vs H Q E=>∃ x u1 u2 u3 d1 d2 d3 dx,vs=[.ref x,u1,u2,u3]/\H x=some (.ins (C 2) dx [])/\Ð H u1 d1/\Ð H u2 d2/\Ð H u3 d3/\(lM 1 20 d1=false->cS CN "found" u1 H E)/\(lM 1 20 d1=true->dG d2=false->cS CS "found" u2 H E)/\(lM 1 20 d1=true->dG d2=true->lM 1 20 d3=false->cS CN "found" u3 H E) /\
 ∀ n a b f,d1=.int n->d2=.tuple [.int a,.int b]->d3=.int f->(R0.æ n a b f).ok->∀ H',Kept H H' x->Đ C H' (.æ n a b f) (.ref x)->Q .Æ H'
theorem En:ad ["self","folk","coin","far"] ["self","folk","coin","far"] (aa vS):=aM
theorem yg {f:Addr}{fd:FuncData}{t2:Tok}(Z:KR K C CR)(F:Ö K "__init__" "Coins.__init__" vS f fd)(Cf:fG K S "__init__" g)(G:Â P w K mg base av 1 g gd ["self","size","first_state","mark","parts"] (jc C))(bG:Binds K gd ["self","size","first_state","mark","parts"] [])(mS:mg "Rule" = some (.ref S))
  (A1:Df P w K mg base (cK P w) 3 "need_number" ["thing","low","high"] (tV CN) a1 d1)(A2:Df P w K mg base av 1 "one_part" ["folk"] uq a2 d2)(A3:Df P w K mg base (cK P w) 5 "need_coin" ["thing"] (z8 CS) a3 d3)(mF:mg "MOST_FOLK" = some (.int 20 t))(mR:mg "MOST_FAR" = some (.int 20 t2)):Â P w K mg base (cK P w) 6 f fd ["self","folk","coin","far"] (nF C CN CS):=by
 refine mk F En (λ vs H Q E h=>?_) (λ cdv A outer s H vs Q E hr h=>?_)
 ·obtain⟨_,_,_,_,_,_,_,_,rfl,_⟩:=h;rfl
 obtain⟨x,u1,u2,u3,e1,e2,e3,dx,rfl,hx,r1,r2,r3,q1,q2,q3,q⟩:=h;have Û:Ä 1 _:=hr.mono (by decide)
 have Oj:Ä 3 _:=hr.mono (by decide)
 refine⟨_,cw (aq (bU A1.G Oj rfl A1.m A1.kp A1.b .nil dm (ac (pv 1) (ac ay (ac (bT (v:=.int 20) rfl mF ⟨_,rfl⟩) ak))))) (cw (aq (bU A3.G hr rfl A3.m A3.kp A3.b .nil dm (ac (pv 2) ak))) (cw (aq (bU A1.G Oj rfl A1.m A1.kp A1.b .nil dm (ac (pv 3) (ac ay (ac (bT (v:=.int 20) rfl mR ⟨_,rfl⟩) ak)))))
  (cw (eF (pv 0) (pv 2) rfl) (cw (eF (pv 0) (pv 3) rfl)
  (aY (aq (bL Cf G Û rfl mS bG .nil aj (ac (pv 0) (ac (pv 1) (ac ay (ac (aI (ac aw (ac (pv 1) (ac (pv 2) (ac (pv 3) ak))))) (ac (bU A2.G Û rfl A2.m A2.kp A2.b .nil aj (ac (pv 1) ak)) ak)))))))))))),?_⟩
 refine⟨_,rfl,u1,e1,1,20,rfl,r1,λ h1=>?_,λ h1=>q1 h1⟩;refine⟨_,rfl,u2,e2,rfl,r2,λ h2=>?_,λ h2=>q2 h1 h2⟩;refine⟨_,rfl,u3,e3,1,20,rfl,r3,λ h3=>?_,λ h3=>q3 h1 h2 h3⟩;obtain⟨n,rfl,n1,Ŧ⟩:=fm h1;obtain⟨a,b,rfl⟩:=jE h2;obtain⟨k,rfl,M0,Vj⟩:=fm h3;cases r1;cases r3;refine⟨_,rfl,_,rfl,x,C 2,dx,[],rfl,hx,Z.cls 2 (by decide),Z.no 2 (by decide) _ (by decide +kernel),by decide,?_⟩
 have k1:Kept H (ae H x (.ins (C 2) dx (bO "coin" u2 []))) x:=br _;have MY:=r2.kept hx k1;have ŗ:ae H x (.ins (C 2) dx (bO "coin" u2 [])) x=some (.ins (C 2) dx [("coin",u2)]):=aL;generalize ae H x (.ins (C 2) dx (bO "coin" u2 []))=H1 at k1 MY ŗ ⊢;refine⟨_,rfl,_,rfl,x,C 2,dx,[("coin",u2)],rfl,ŗ,Z.cls 2 (by decide),Z.no 2 (by decide) _ (by decide +kernel),(by show 1<1000;decide),?_⟩
 have ef:bO "far" (.int k) [(("coin" : Str),u2)]=[(("coin" : Str),u2),(("far" : Str),.int k)]:=by
  show(if("coin" : Str) = "far" then _ else _)=_
  rw [if_neg (by decide +kernel)]
  rfl
 rw [ef];have kf:Kept H1 (ae H1 x (.ins (C 2) dx [("coin",u2),("far",.int k)])) x:=br _;have M3:=MY.kept ŗ kf;have M4:ae H1 x (.ins (C 2) dx [("coin",u2),("far",.int k)]) x=some (.ins (C 2) dx [("coin",u2),("far",.int k)]):=aL;generalize ae H1 x (.ins (C 2) dx [("coin",u2),("far",.int k)])=PF at kf M3 M4 ⊢;refine⟨_,rfl,_,rfl,_,rfl,_,rfl,_,rfl,by show 4<=sizeLine;decide,λ m hm=>⟨_,rfl,n,rfl,by omega,Ŧ,λ l H2 x2 rl=>?_⟩⟩
 have xm:=Ext.new (o:=.tup [.str "coins",.int n,u2,.int k]) hm;have ç:=xm.trans x2;have LO:=x2 _ _ (show ae PF m (.tup [.str "coins",.int n,u2,.int k]) m=_ from aL);have ž:=ç _ _ M4;have MZ:=M3.mono ç;refine⟨x,_,_,_,_,2,dx,[("coin",u2),("far",.int k)],rfl,by decide,ž,(by show 2<=5;decide),q n a b k rfl rfl rfl ⟨n1,Ŧ,h2,M0,Vj⟩ _ (((k1.trans kf).trans (ç.kept x)).trans (br _)) ?_⟩
 have kk:Kept H2 (ae H2 x (.ins (C 2) dx (fK (.int n) (.int 0) (.ref m) (.ref l) [("coin",u2),("far",.int k)]))) x:=br _;refine gN aL (.int _) ((Ð.tup LO (.cons (.str _) (.cons (.int _) (.cons MZ (.cons (.int _) .nil))))).kept ž kk) (rl.kept ž kk) (λ n hn=>?_) ⟨⟨u2,?_,MZ.kept ž kk⟩,?_⟩
 ·have e:n = "coin" \/ n = "far" := by simpa using hn
  rcases e with e | e <;> rw [e] <;> decide +kernel
 ·rw [cY (by decide +kernel)]
  rfl
 ·rw [cY (by decide +kernel)]
  rfl
end
theorem w6 {H:Hp}{p:Addr}{o:HO}:Ext (wo H p) (wo (ae H p o) p):=λ b u e=>by
 have n:=fF e;exact aK n (by rw [ag n];exact ai H p _ _ e)
theorem Ext.kp {G H H':Hp}{x:Addr}(e:Ext G H)(n:G x=none)(k:Kept H H' x):Ext G H':=λ b o h=>k b o (e b o h) λ z=>by rw [z,n] at h;cases h
section
variable {X:Cx}
def sF:List V->Hp->VK->Prop:=λ vs H Q=>∃ i j:Int,vs=[.int i,.int j]/\∀ r,H r=none->Q (.ref r) (ae H r (.ę i j))
theorem gi:cV X (.type "range") sF:=by
 intro pins s σ H xs us Q I r h;obtain⟨i,j,rfl,q⟩:=h;obtain⟨u,v,rfl,⟨t,rfl⟩,t',rfl⟩:=jC r;refine call_range_2 ⟨.ref s.heap.objs.size,_,I.laid (t':=s.toks+1) (o:=.ę i j) (λ b o e=>Heap.get?_push_of_some _ e) (Nat.le_refl _) ?_,rfl,q _ (I.É.fresh (Nat.le_refl _))⟩;exact⟨_,_,_,Heap.get?_push_size _ rfl⟩
variable {pins:List (Addr × Obj)}{σ:St}{H:Hp}{s:Shared}{A:Around}{Q:Value->Shared->Prop}{E:Value->Shared->Prop}{b:Bool}{tp:Addr}{dd:Option Addr}{its:List Value}{n:Nat}{sl:Array (Option Value)}
theorem nZ {x:V}{u t:Value}(I:Inv X pins σ H s)(rx:RelV x u)(ty:ë X.K H x t)(ź:s.heap.get? tp=some ⟨.type "tuple",dd,.seq its.toArray n,sl⟩)(e:PySem.W.kitAny X.K t its=some b)(h:∀ tk,Q (.bool b) { s with toks:=tk }) :
  wpAny (model X.prog X.w) A (call (.builtin "isinstance") [u,.ref tp]) Q E s:=by
 cases ty with
 | Æ=>cases (show u=Value.none from rx);exact PySem.W.kia_tup PySem.W.kitx_none I.Ý True.intro ź e (λ z=>nomatch z) h
 | bl y=>cases (show u=Value.bool y from rx);exact PySem.W.kia_tup PySem.W.kitx_bool I.Ý True.intro ź e (λ z=>nomatch z) h
 | int i=>obtain⟨t,q⟩:=(show ∃ t,u=Value.int i t from rx);cases q;exact PySem.W.kia_tup PySem.W.kitx_int I.Ý True.intro ź e (λ z=>nomatch z) h
 | str y=>obtain⟨t,q⟩:=(show ∃ t,u=Value.str y t from rx);cases q;exact PySem.W.kia_tup PySem.W.kitx_str I.Ý True.intro ź e (λ z=>nomatch z) h
 | JY y=>obtain⟨t,q⟩:=(show ∃ t,u=Value.float y t from rx);cases q;exact PySem.W.kia_tup PySem.W.kitx_float I.Ý True.intro ź e (λ z=>nomatch z) h
 | @lst a xs ea =>
  cases (show u=Value.ref a from rx);obtain⟨_,_,n,_,h1⟩:=(show Å X.prog X.w H s.heap a (.lst xs) from I.É a _ ea);exact PySem.W.kia_tup PySem.W.kitx_list I.Ý ⟨_,h1,rfl⟩ ź e (λ z=>nomatch z) h
 | @ŉ a ob xs ea =>
  cases (show u=Value.ref a from rx);obtain⟨_,_,_,n,_,h1⟩:=(show Å X.prog X.w H s.heap a (.ŉ ob (.lst xs)) from I.É a _ ea);exact PySem.W.kia_tup PySem.W.kitx_list I.Ý ⟨_,h1,rfl⟩ ź e (λ z=>nomatch z) h
 | @tup a xs ea =>
  cases (show u=Value.ref a from rx);obtain⟨_,_,_,p⟩:=(show Å X.prog X.w H s.heap a (.tup xs) from I.É a _ ea);obtain⟨o,h1,h2,_⟩:=p;exact PySem.W.kia_tup PySem.W.kitx_tuple I.Ý ⟨o,h1,h2⟩ ź e (λ z=>nomatch z) h
 | @dK a kvs ea =>
  cases (show u=Value.ref a from rx);obtain⟨_,_,vs,_,p⟩:=(show Å X.prog X.w H s.heap a (.dK kvs) from I.É a _ ea);obtain⟨o,es,ep,h1,h2,_⟩:=p;exact PySem.W.kia_tup PySem.W.kitx_dict I.Ý ⟨o,h1,h2.1⟩ ź e (λ z=>nomatch z) h
 | @dT a kvs ea =>
  cases (show u=Value.ref a from rx);obtain⟨_,_,xs,_,o,es,ep,h1,h2,_⟩:=(show Å X.prog X.w H s.heap a (.dT kvs) from I.É a _ ea);exact PySem.W.kia_tup PySem.W.kitx_dict I.Ý ⟨o,h1,h2.1⟩ ź e (λ z=>nomatch z) h
 | @ins a C dx fs ea cl ha hn Ŗ hm =>
  cases (show u=Value.ref a from rx);obtain⟨mA,O,_⟩:=gT I.É ea;obtain⟨od,J,_⟩:=O.look;exact PySem.W.kia_tup (PySem.W.kitx_own (cl.get _) cl.hd ha hn Ŗ hm) I.Ý J ź e (λ z=>nomatch z) h
def Do (K:Frag):List V->Hp->VK->Prop:=λ vs H Q=>∃(x:V)(p:Addr)(cs:List Addr)(t:Value)(b:Bool),vs=[x,.ref p]/\ë K H x t/\H p=some (.tup (cs.map V.ref))/\kitAny K t (cs.map Value.ref)=some b/\Q (.bl b) H
theorem qB:cV X (.builtin "isinstance") (Do X.K):=by
 intro pins s σ H xs us Q I r h;obtain⟨x,p,cs,t,b,rfl,ty,hp,e,q⟩:=h;obtain⟨u,u',rfl,ru,J5⟩:=jC r;cases (show u'=Value.ref p from J5);obtain⟨_,its,rv,⟨o,h1,h2,n,h3⟩⟩:=(show Å X.prog X.w H s.heap p (.tup (cs.map V.ref)) from I.É p _ hp);have ei:=j4 rv;subst ei;obtain⟨c0,d0,Vk,sl0⟩:=o;have Vl:c0=.type "tuple" := h2;have Vm:Vk=.seq (cs.map Value.ref).toArray n:=h3;subst Vl;subst Vm;exact nZ I ru ty h1 e λ tk=>⟨.bl b,H,I.tok _,rfl,q⟩
end
def ſ (K:Frag)(C:Nat->Addr)(H:Hp)(v:V)(b:Bool):Prop:=∃ t,ë K H v t/\kitAny K t [.ref (C 0),.ref (C 1),.ref (C 2)]=some b
theorem ſ.ext {K:Frag}{C:Nat->Addr}{H H':Hp}{v:V}{b:Bool}(h:ſ K C H v b)(x:Ext H H'):ſ K C H' v b:=by
 obtain⟨t,k,e⟩:=h;exact⟨t,My.ë.ext k x,e⟩
theorem vO {K:Frag}{t a b c:Value}{x y z:Bool}(h1:kitOne K t a=some x)(h2:kitOne K t b=some y)(h3:kitOne K t c=some z):kitAny K t [a,b,c]=some (x||(y||z)):=by
 cases x <;> cases y <;> cases z <;> simp [kitAny,h1,h2,h3]
theorem Ob.ty {K:Frag}{C:Nat->Addr}{CR:Addr}{H:Hp}{i:Nat}{v:V}{fk:Int}{bg tl pt:PyData}{X:List (Str × V)->Prop}(Z:KR K C CR)(hi:i<5)(h:Ob (C i) H v fk bg tl pt X):ë K H v (.ref (C i)):=by
 obtain⟨a,dx,fs,rfl,ha,_⟩:=h.ex;exact .ins ha (Z.cls i hi) (Z.ha i hi) Z.hn Z.Ŗ (Z.hm i hi)
theorem rQ {K:Frag}{C:Nat->Addr}{CR:Addr}{H:Hp}{t:Rl}{v:V}(Z:KR K C CR)(h:Ru C H t v):ſ K C H v (t.kind==0||(t.kind==1||t.kind==2)) :=
 ⟨_,h.ob.ty Z t.Ñ,vO (Z.kk _ 0 t.Ñ (by decide)) (Z.kk _ 1 t.Ñ (by decide)) (Z.kk _ 2 t.Ñ (by decide))⟩
theorem HZ {J:It}{tt:TT}{cap:St}{D:Addr}{H1:Hp}{Q:Hp->Prop}{xs:List V}(p:V->Bool)(hz:xs.length<sizeLine)(hD:H1 D=none)(go:∀ i H,Ext H1 H->i<xs.length->J.go i H)(st:∀ H,Ext H1 H->J.stop xs.length H)(yl:∀ i H x H',Ext H1 H->J.Ŋ i H x H'->H'=H/\xs[i]?=some x)
  (hs:∀(i:Nat) x H,xs[i]?=some x->Ext H1 H->∀ R:Bool->Hp->Prop,(∀ H',Ext H H'->R (p x) H')->tt (some x::cap) H R)(hd:∀ H,Ext H1 H->H D=some (.lst (xs.filter p))->Q H) :
  ∃ W:Nat->Nat->List V->Hp->Prop,(∃ m,W 0 m [] (ae H1 D (.lst []))) /\
   ∀ i m ys H2,W i m ys H2->H2 D=some (.lst ys)/\((J.stop i H2/\Q H2)\/(J.go i H2/\ys.length<sizeLine /\
    ∀ x H3,J.Ŋ i H2 x H3->∀ os:St,os.length=1->aW 0 x (os++cap) H3 λ Ù H0=>(∃ ß:St,ß.length=1/\Ù = ß ++ cap)/\tt Ù H0 λ b H5=>(b=false->∃ m',m'<m/\W (i+1) m' ys H5) /\
     (b=true->af 0 Ù H5 λ y H4=>H4 D=some (.lst ys)/\∃ m',m'<m/\W (i+1) m' (ys ++ [y]) (ae H4 D (.lst (ys ++ [y])))))):=by
 refine⟨λ i m ys H=>m=xs.length-i/\i<=xs.length/\H D=some (.lst ys)/\ys=(xs.take i).filter p/\Ext H1 H,⟨xs.length,by simp,Nat.zero_le _,aL,rfl,Ext.new hD⟩,?_⟩
 rintro i m ys H ⟨rfl,hi,Ř,rfl,x1⟩;refine⟨Ř,?_⟩;by_cases þ:i<xs.length
 ·refine .inr ⟨go i H x1 þ,?_,λ x H' Vn os á=>?_⟩
  ·have:=List.length_filter_le p (xs.take i);rw [List.length_take] at this;omega
  obtain⟨rfl,hx⟩:=yl i H x H' x1 Vn;obtain⟨o0,rfl⟩:∃ o0,os=[o0]:=by
   match os,á with
   | [o0],_=>exact⟨o0,rfl⟩
  refine⟨⟨[some x],rfl,rfl⟩,hs i x H' hx x1 _ λ H5 x5=>⟨λ e=>?_,λ e=>?_⟩⟩
  ·refine⟨xs.length-(i+1),by omega,rfl,þ,x5 _ _ Ř,?_,x1.trans x5⟩
   rw [aA hx,List.filter_append,List.filter_cons_of_neg (by rw [e];decide),List.filter_nil,List.append_nil]
  ·refine⟨x,rfl,x5 _ _ Ř,xs.length-(i+1),by omega,rfl,þ,aL,?_,aP _ (x1.trans x5) hD⟩
   rw [aA hx,List.filter_append,List.filter_cons_of_pos e,List.filter_nil]
 ·have e:i=xs.length:=by omega
  subst e;refine .inl ⟨st H x1,hd H x1 ?_⟩;rw [List.take_length] at Ř;exact Ř
theorem dS (p:Int->Bool)(pv:V->Bool)(h:∀ i,pv (.int i)=p i):∀ ns:List Int,(ns.map V.int).filter pv=(ns.filter p).map V.int
 | []=>rfl
 | n::ns=>by
  rw [List.map_cons];cases e:p n with
  | true=>rw [List.filter_cons_of_pos (by rw [h];exact e),List.filter_cons_of_pos e,dS p pv h ns];rfl
  | false=>rw [List.filter_cons_of_neg (by rw [h,e];decide),List.filter_cons_of_neg (by rw [e];decide),dS p pv h ns]
theorem Á.filter {G:Hp}{α:Type}{f:α->PyData}{p:α->Bool}{pv:V->Bool}:∀{ys:List V}{qs:List α},Á G ys (qs.map f)->(∀(i:Nat) y q,ys[i]?=some y->qs[i]?=some q->pv y=p q)->Á G (ys.filter pv) ((qs.filter p).map f)
 | [],[],_,_=>.nil
 | [],_::_,h,_=>by cases h
 | _::_,[],h,_=>by cases h
 | y::ys,q::qs,h,k=>by
  cases h with
  | cons r t =>
   have e0:=k 0 y q rfl rfl;have ih:=Á.filter t λ i y' q' a b=>k (i+1) y' q' a b;cases e:p q with
   | true=>rw [List.filter_cons_of_pos (by rw [e0];exact e),List.filter_cons_of_pos e];exact .cons r ih
   | false=>rw [List.filter_cons_of_neg (by rw [e0,e];decide),List.filter_cons_of_neg (by rw [e];decide)];exact ih
def Sm (ps:List (List Int)):Prop:=ps.length<=20/\∀ p∈ps,p.length<=20
theorem dL:∀(ns:List Int)(s:Int),(bF s ns).length=ns.length
 | [],_=>rfl
 | n::ns,s=>by show(bF (s+n) ns).length+1=_;rw [dL ns];rfl
theorem jw:∀(ns:List Int)(s:Int),(∀ n∈ns,n<=20)->∀ p∈bF s ns,p.length<=20
 | [],_,_,_,h=>by cases h
 | n::ns,s,hn,p,h=>by
  rcases List.mem_cons.mp h with rfl | h
  ·have:=hn n (List.mem_cons_self ..);unfold bR;simp only [List.length_map,List.length_range];omega
  ·exact jw ns _ (λ m hm=>hn m (List.mem_cons_of_mem _ hm)) p h
theorem Sm.cut {ps:List (List Int)}(m:Int)(h:Sm ps):Sm (fO m ps):=by
 unfold fO;refine⟨Nat.le_trans (List.length_filter_le _ _) (by rw [List.length_map];exact h.1),λ p hp=>?_⟩
 obtain⟨q,hq,rfl⟩:=List.mem_map.mp (List.mem_filter.mp hp).1;exact Nat.le_trans (List.length_filter_le _ _) (h.2 q hq)
theorem Rl.sm:∀{t:Rl},t.ok->Sm t.parts
 | .one r,h=>by
  have:=R0.È h;refine⟨by show 1<=20;decide,λ p hp=>?_⟩
  rw [List.mem_singleton.mp hp];unfold bR;simp only [List.length_map,List.length_range];omega
 | .blocks rs,h=>by
  obtain⟨h1,h6,ok,SM⟩:=h;refine⟨by show(bF 0 (rs.map R0.À)).length<=20;rw [dL,List.length_map];omega,jw _ _ λ n hn=>?_⟩
  obtain⟨r,hr,rfl⟩:=List.mem_map.mp hn;exact(R0.È (ok r hr)).2
 | .first t m,h=>(Rl.sm h.1).cut m
theorem iZ (n:Int):∀(ns:List Int)(s:Int),bF s (ns ++ [n])=bF s ns ++ [bR (s+ns.sum) n.toNat]
 | [],s=>by simp [bF]
 | m::ns,s=>by
  show bR s m.toNat::bF (s+m) (ns ++ [n])=_;rw [iZ n ns (s+m),List.sum_cons,Int.add_assoc];rfl
structure Ms (P:Program)(w:World)(K:Frag)(mg:Str->Option Value)(base:Heap)(C:Nat->Addr):Prop where
 À:bJ P w K mg base av 1 "folk" ["self"] (qu C) (λ _=>la C)
 begin:bJ P w K mg base av 1 "begin" ["self"] (qu C) (λ _=>iN C)
 told:bJ P w K mg base av 1 "told" ["self"] (qu C) (λ _=>jq C)
 blocks:bJ P w K mg base av 1 "blocks" ["self"] (qu C) (λ _=>rO C)
section
variable {P:Program}{w:World}{K:Frag}{mg:Str->Option Value}{base:Heap}{C:Nat->Addr}{CR:Addr}
abbrev vz:Stmt:=bX 39
def sJ (K:Frag)(C:Nat->Addr):Sp:=λ vs H Q _=>∃ v b,vs=[v]/\ſ K C H v b/\∀ H',Ext H H'->Q (.bl b) H'
theorem Ej:ad ["thing"] ["thing"] (aa vz):=aM
theorem Bm {f:Addr}{fd:FuncData}(F:Ö K "may_be_block" "may_be_block" vz f fd)(m0:mg "Split" = some (.ref (C 0)))(m1:mg "Pairs" = some (.ref (C 1)))(m2:mg "Coins" = some (.ref (C 2)))(mi:mg "isinstance" = none):Â P w K mg base av 1 f fd ["thing"] (sJ K C):=by
 refine F.ok Ej (λ vs H Q E h=>?_) (λ cdv A outer s H vs Q E hr h=>?_)
 ·obtain⟨_,_,rfl,_⟩:=h;rfl
 obtain⟨v,b,rfl,bk,q⟩:=h;refine⟨_,aY (cZ (am qB rfl mi PyProof.Rows.boot_isinstance (ac (pv 0) (ac (aI (ac (bT (v:=.ref (C 0)) rfl m0 rfl) (ac (bT (v:=.ref (C 1)) rfl m1 rfl) (ac (bT (v:=.ref (C 2)) rfl m2 rfl) ak)))) ak)))),?_⟩;refine⟨_,rfl,by show 3<=sizeLine;decide,λ p hp=>?_⟩
 have x1:=Ext.new (o:=.tup [.ref (C 0),.ref (C 1),.ref (C 2)]) hp;obtain⟨t,ty,ka⟩:=bk.ext x1;exact⟨v,p,[C 0,C 1,C 2],t,b,rfl,ty,aL,ka,q _ x1⟩
abbrev Fj:Stmt:=bX 40
def pf (K:Frag)(C:Nat->Addr)(H:Hp)(xs:List V)(bs:List Bool):Prop:=xs.length=bs.length/\∀(i:Nat) x b,xs[i]?=some x->bs[i]?=some b->ſ K C H x b
def Ch (n:Nat)(bs:List Bool):Bool:=(decide (1<=n)&&decide (n<=6))&&bs.all id
def B5 (K:Frag)(C:Nat->Addr):Sp:=λ vs H Q _=>∃ v,vs=[v]/\((K1 K H v "list" /\ ∀ H',Ext H H'->Q (.bl false) H')\/∃ a xs bs,v=.ref a/\H a=some (.lst xs)/\xs.length<1000/\pf K C H xs bs/\∀ H',Ext H H'->Q (.bl (Ch xs.length bs)) H')
theorem HC:ad ["thing"] ["thing"] (aa Fj):=aM
abbrev Eb:Scope:={ kind:=.function,names:=[(".0",.local),("rule",.local),("may_be_block",.globalImplicit)],isGenerator:=false,isCoroutine:=false }
theorem yr {X:Cx}:bu X Eb [] ["rule"] [] []:=by
 refine⟨rfl,rfl,by decide +kernel,by decide +kernel,by decide +kernel,(λ z c h=>nomatch h),(λ z h=>?_),by decide +kernel,(λ k z h=>by simp at h),rfl⟩
 exfalso;have h':List.lookup z [((".0" : Str),NameKind.local),(("rule" : Str),NameKind.local),(("may_be_block" : Str),NameKind.globalImplicit)]=some .cell\/List.lookup z [((".0" : Str),NameKind.local),(("rule" : Str),NameKind.local),(("may_be_block" : Str),NameKind.globalImplicit)]=some .free:=h;simp only [List.lookup_cons,List.lookup_nil] at h'
 repeat' (split at h')
 all_goals simp at h'
theorem yi:((["rule"]:List Str)++([]:List Str)).Nodup:=by decide +kernel
theorem Ea {f a1 a2:Addr}{fd d1 d2:FuncData}{t:Tok}(N:qG K)(F:Ö K "are_block_rules" "are_block_rules" Fj f fd)(A1:Df P w K mg base av 1 "may_be_block" ["thing"] (sJ K C) a1 d1)(A2:Df P w K mg base av 2 "is_whole" ["thing","low","high"] (ie K) a2 d2)(mR:mg "MOST_RULES" = some (.int 6 t))
  (mi:mg "isinstance" = none)(ml:mg "list" = none)(mn:mg "len" = none)(ma:mg "all" = none):Â P w K mg base av 3 f fd ["thing"] (B5 K C):=by
 refine F.ok HC (λ vs H Q E h=>?_) (λ cdv A outer s H vs Q E hr h=>?_)
 ·obtain⟨_,rfl,_⟩:=h;rfl
 obtain⟨v,rfl,h⟩:=h;have Û:Ä 1 _:=hr.mono (by decide)
 refine⟨_,cw (bo (PW.pt (fD (cu (bI (am (cg N) rfl mi PyProof.Rows.boot_isinstance (ac (pv 0) (ac (fX rfl ml PyProof.Rows.boot_list) ak))))) (fc (cu (bI (bU A2.G hr rfl A2.m A2.kp A2.b .nil aj (ac (am aG rfl mn PySem.boot_len (ac (pv 0) ak)) (ac ay (ac (bT (v:=.int 6) rfl mR ⟨_,rfl⟩) ak))))))))) (aY (cZ ug)) gG)
  (aY (cZ (am (uc rfl) rfl ma PyProof.Rows.boot_all (ac (cR (te:=gn (sJ K C) [] E0 (ah (af 0) aF)) (g:=aW 0) rfl yr (aR (pv 0)) (λ s H C fp=>by exact bV (i:=0) yi rfl (.inl rfl)) (λ s H C fp=>by exact bU A1.G Û rfl A1.m A1.kp A1.b .nil aj (ac (pv 0) ak))) ak)))),?_⟩
 rcases h with⟨⟨t,kd,kt⟩,q⟩ | ⟨a,xs,bs,rfl,ha,SN,⟨lb,bk⟩,q⟩
 ·exact⟨_,rfl,_,_,_,_,rfl,kd,kt,_,rfl,cq (cq (q H (Ext.refl _)))⟩
 refine⟨_,rfl,_,_,_,_,rfl,.inl (.lst ha),rfl,_,rfl,bY ?_⟩;refine⟨_,rfl,a,xs,rfl,.inl (Ã.of ha),_,1,6,rfl,.inl ⟨_,rfl⟩,_,rfl,?_⟩;have ei:Jh 1 6 (.int (xs.length:Nat))=(decide (1<=xs.length)&&decide (xs.length<=6)):=by
  show(decide ((1:Int)<=(xs.length:Nat))&&decide (((xs.length:Nat):Int)<=6))=_
  congr 1 <;> exact decide_eq_decide.mpr (by omega)
 rw [ei];unfold Ch at q;cases e:decide (1<=xs.length)&&decide (xs.length<=6) with
 | false =>
  rw [e,Bool.false_and] at q;exact cq (q H (Ext.refl _))
 | true =>
  rw [e,Bool.true_and] at q;refine bY ⟨_,rfl,a,rfl,⟨_,Ã.of ha⟩,λ D hD=>?_⟩;refine bQ (a:=a) (xs:=xs) (λ i ys H'=>Ext H H'/\ys=(bs.take i).map V.bl) (by rw [sizeLine_eq];omega) ⟨Ext.new hD,rfl⟩ (λ i ys H' pv=>Ã.of (pv.1 _ _ ha)) ?_ ?_
  ·rintro i x ys H' ex ly Ô ⟨x',rfl⟩ os á R k;obtain⟨o0,rfl⟩:∃ o0,os=[o0]:=by
    match os,á with
    | [o0],_=>exact⟨o0,rfl⟩
   have hi:i<bs.length:=by have:=(List.getElem?_eq_some_iff.mp ex).1;omega
   refine⟨⟨[some x],rfl,rfl⟩,_,rfl,x,_,rfl,(bk i x _ ex (List.getElem?_eq_getElem hi)).ext x',λ H4 x4=>k _ H4 (x4 _ _ Ô) ⟨aP _ (x'.trans x4) hD,?_⟩⟩;rw [aA (List.getElem?_eq_getElem hi),List.map_append];rfl
  ·rintro ys H' ly Ô ⟨x',rfl⟩;rw [lb,List.take_length] at Ô;exact⟨D,bs,rfl,Ã.of Ô,q H' x'⟩
abbrev Fo:Stmt:=bX 32
def Ex (C:Nat->Addr):Sp:=λ vs H Q _=>∃(a:Addr)(xs:List V)(rs:List R0),vs=[.ref a]/\H a=some (.lst xs)/\Ą C H rs xs/\rs.length<=6/\(∀ r∈rs,r.ok)/\∀ l H',Ext H H'->Ð H' (.ref l) (fz (bF 0 (rs.map R0.À)))->Q (.ref l) H'
abbrev Iy:List Str:=["rules","parts","start","rule","behind"]
theorem M5:ad Iy ["rules"] (aa Fo):=aM
theorem tU {ns:List Int}{i:Nat}{n:Int}(h:ns[i]?=some n):(ns.take (i+1)).sum=(ns.take i).sum+n:=by
 rw [aA h,List.sum_append];simp
theorem oW {rs:List R0}(h6:rs.length<=6)(ok:∀ r∈rs,r.ok):∀ i,0<=(((rs.take i).map R0.À).sum)/\((rs.take i).map R0.À).sum<=120:=by
 have gen:∀(l:List R0),(∀ r∈l,r.ok)->0<=(l.map R0.À).sum/\(l.map R0.À).sum<=20*(l.length:Int):=by
  intro l
  induction l with
  | nil=>intro _;simp
  | cons r l ih =>
   intro h;have h1:=R0.È (h r (List.mem_cons_self ..));have h2:=ih λ x hx=>h x (List.mem_cons_of_mem _ hx);simp only [List.map_cons,List.sum_cons,List.length_cons];omega
 intro i;have:=gen (rs.take i) λ r hr=>ok r (List.mem_of_mem_take hr);have l:(rs.take i).length<=6:=by rw [List.length_take];omega
 omega
theorem EN {f:Addr}{fd:FuncData}(F:Ö K "parts_of" "parts_of" Fo f fd)(M:Ms P w K mg base C)(mt:mg "tuple" = none)(mr:mg "range" = none):Â P w K mg base av 2 f fd ["rules"] (Ex C):=by
 refine F.ok M5 (λ vs H Q E h=>?_) (λ cdv A outer s H vs Q E hr h=>?_)
 ·obtain⟨_,_,_,rfl,_⟩:=h;rfl
 obtain⟨a,xs,rs,rfl,ha,al,l6,ok,q⟩:=h;have nd:=M5.nd;refine⟨_,cw (iI (i:=1) nd rfl (Or.inl rfl) (cj ak)) (cw (iI (i:=2) nd rfl (Or.inl rfl) ay)
  (cw (bZ PassesOwn.never rfl (aR (pv 0)) (bV (i:=3) nd rfl (Or.inl rfl)) (cw (iI (i:=4) nd rfl (Or.inl rfl) (ax bt (pv 2) (bB (pv 3) M.À hr aj)))
   (cw (aq (dF PySem.F.plainAttrs_list PySem.F.slot_list_append PySem.F.type_list_append bh (pv 1) (ac (aO (kq rfl) rfl mt PyProof.Rows.boot_tuple (ac (aO gi rfl mr PyProof.Rows.boot_range (ac (pv 2) (ac (pv 4) ak))) ak)) ak)))
   (aY (iI (i:=2) nd rfl (Or.inl rfl) (pv 4))))))
  (aY (cZ (aO cz rfl mt PyProof.Rows.boot_tuple (ac (pv 1) ak)))))),?_⟩
 refine⟨by show 0<=sizeLine;decide,λ p hp=>?_⟩
 have x1:=Ext.new (o:=.lst []) hp;have f1:ae H p (.lst []) p=some (.lst []):=aL;generalize ae H p (.lst [])=H1 at x1 f1 ⊢;have ap:a≠p:=λ e=>by rw [<- e,ha] at hp;cases hp
 refine⟨_,rfl,a,rfl,⟨_,Ã.of (x1 _ _ ha)⟩,cL (xs:=xs) (λ i σ H'=>Ext H H'/\(∃ qs,H' p=some (.lst qs)/\Á (wo H' p) qs ((bF 0 ((rs.take i).map R0.À)).map lG))/\∃ o3 o4,σ=[some (.ref a),some (.ref p),some (.int ((rs.take i).map R0.À).sum),o3,o4]) ⟨x1,⟨[],f1,.nil⟩,_,_,rfl⟩ ?_ ?_ ?_⟩
 ·rintro i σ H' _ ⟨x',_⟩;exact Ã.of (x' _ _ ha)
 ·rintro i v σ H' ev ⟨x',⟨qs,hq,rq⟩,o3,o4,rfl⟩;have hi:i<rs.length:=by have:=(List.getElem?_eq_some_iff.mp ev).1;rw [al.1];exact this
  have er:=List.getElem?_eq_getElem hi;have ru:=(al.2 i _ v er ev).ext x';have em:(rs.map R0.À)[i]?=some rs[i].À:=by rw [List.getElem?_map,er];rfl
  have st:((rs.take (i+1)).map R0.À).sum=((rs.take i).map R0.À).sum+rs[i].À:=by
   rw [List.map_take,List.map_take];exact tU em
  have b1:=oW l6 ok i;have b2:=R0.È (ok _ (List.getElem_mem hi));have lq:qs.length<=6:=by
   have:=rq.length;rw [List.length_map] at this;have sl:∀(ns:List Int)(s:Int),(bF s ns).length=ns.length:=by
    intro ns
    induction ns with
    | nil=>intro s;rfl
    | cons n ns ih=>intro s;show(bF (s+n) ns).length+1=_;rw [ih];rfl
   rw [sl,List.length_map,List.length_take] at this;omega
  refine⟨_,rfl,cA (t:=.one rs[i]) (by decide +kernel) ru (λ R r=>⟨_,rfl,r⟩) ⟨v,.one rs[i],rfl,ru,_,_,rfl,rfl,?_⟩⟩
  refine⟨_,rfl,.inl ⟨rfl,_,Ã.of hq⟩,_,rfl,_,rfl,_,_,rfl,λ r hr=>⟨r,_,_,rfl,aL,⟨by show -(2^62)<=_;omega,by omega,by show -(2^62)<=_+R0.À _;omega,by show _+R0.À _<_;omega⟩,by show(_+R0.À _-_).toNat<=_;omega,λ l hl=>?_⟩⟩
  have xr:=Ext.new (o:=.ę ((rs.take i).map R0.À).sum (((rs.take i).map R0.À).sum+rs[i].À)) hr;have ed:(((rs.take i).map R0.À).sum+rs[i].À - ((rs.take i).map R0.À).sum).toNat=rs[i].À.toNat:=by congr 1;omega
  have Vo:(((rs.take i).map R0.À).sum+(Rl.one rs[i]).À - ((rs.take i).map R0.À).sum).toNat=rs[i].À.toNat:=ed;rw [Vo,lc];have J7:ae H' r (.ę ((rs.take i).map R0.À).sum (((rs.take i).map R0.À).sum+rs[i].À)) l=none:=hl;have xl:=Ext.new (o:=.tup ((bR ((rs.take i).map R0.À).sum rs[i].À.toNat).map V.int)) J7;have x2:=xr.trans xl;have Ji:=x2 _ _ hq;have np:l≠p:=λ e=>by rw [e,xr _ _ hq] at J7;cases J7
  have J4:ae (ae H' r (.ę ((rs.take i).map R0.À).sum (((rs.take i).map R0.À).sum+rs[i].À))) l (.tup ((bR ((rs.take i).map R0.À).sum rs[i].À.toNat).map V.int)) l=some (.tup ((bR ((rs.take i).map R0.À).sum rs[i].À.toNat).map V.int)):=aL;refine⟨p,qs,.ref l,rfl,rfl,Ji,by rw [sizeLine_eq];omega,?_⟩
  show cH (af 4) (aW 2) _ [some (.ref a),some (.ref p),some (.int ((rs.take i).map R0.À).sum),some v,some (.int (((rs.take i).map R0.À).sum+rs[i].À))] (ae (ae (ae H' r (.ę ((rs.take i).map R0.À).sum (((rs.take i).map R0.À).sum+rs[i].À))) l (.tup ((bR ((rs.take i).map R0.À).sum rs[i].À.toNat).map V.int))) p (.lst (qs ++ [.ref l])));generalize ae (ae H' r (.ę ((rs.take i).map R0.À).sum (((rs.take i).map R0.À).sum+rs[i].À))) l (.tup ((bR ((rs.take i).map R0.À).sum rs[i].À.toNat).map V.int))=H2 at x2 Ji J4 ⊢;refine⟨_,rfl,aP _ (x'.trans x2) hp,⟨_,aL,?_⟩,_,_,by rw [st];rfl⟩
  have e1:(bF 0 ((rs.take (i+1)).map R0.À)).map lG=(bF 0 ((rs.take i).map R0.À)).map lG ++ [lG (bR ((rs.take i).map R0.À).sum rs[i].À.toNat)]:=by
   rw [aA er,List.map_append,List.map_cons,List.map_nil,iZ,List.map_append,Int.zero_add];rfl
  rw [e1];refine((Á.mono (ba x2 p) rq).append (.cons (.tup (aK np J4) (dH _ _)) .nil) |> Á.mono w6)
 ·rintro σ H' ⟨x',⟨qs,hq,rq⟩,o3,o4,rfl⟩;have lr:xs.length=rs.length:=al.1.symm;rw [lr,List.take_length] at rq;refine⟨_,rfl,p,qs,rfl,.inl ⟨Ã.of hq,λ l hl=>?_⟩⟩;have xl:=Ext.new (o:=.tup qs) hl;exact q l _ (x'.trans xl) (.tup aL (Á.mono ((ai H' p).trans xl) rq))
variable {prog:Program}{A:Around}{E:Value->Shared->Prop}{s:Shared}
theorem pJ {it t:Addr}{i:Nat} {items}{x:Value}{Q:Value->Shared->Prop}(hit:s.heap.IsTupleIter it t i)(ht:s.heap.IsTuple t items)(hx:items[i]?=some x)
  (hQ:∀ h',h'.IsTupleIter it t (i+1)->Heap.SameBut it s.heap h'->Q x { s with heap:=h' }):wpAny (model prog w) A (Builtin.SmallTypes.nextOf (.ref it)) Q E s:=by
 obtain⟨⟨o,ho,hc,hd⟩,⟨ol,PH,_,nl,PJ⟩⟩:=And.intro (id hit) ht;unfold Builtin.SmallTypes.nextOf;refine wpAny_bind (wpAny_callSpecial?_slot (name:=Str.ofString "__next__") hit.typeIs F.slot_tuple_iterator_next (wpAny_call_entry F.slot_tuple_iterator_next hit.typeIs F.entry_tuple_iterator_next ?_ (F.args_tuple_iterator_next_1 _)));show wpAny _ _ (field (.ref it) 0>>=_) _ _ s;refine wpAny_bind (wpAny_field ho hd (x:=.ref t) rfl ?_);show wpAny _ _ (if(Value.ref t==Value.none)=true then _ else _) _ _ s;rw [if_neg (show ¬ ((Value.ref t==Value.none)=true) from Bool.false_ne_true)]
 show wpAny _ _ (field (.ref it) 1>>=_) _ _ s;refine wpAny_bind (wpAny_field ho hd (x:=.int i 0) rfl ?_);show wpAny _ _ (seqItems? (.ref t)>>=_) _ _ s;refine wpAny_bind (wpAny_seqItems PH PJ ?_);simp only [Int.toNat_natCast,hx];refine wpAny_bind (wpAny_setField ho hd (by simp) (wpAny_pure ⟨x,rfl,wpAny_pure (hQ _ ⟨_,Heap.get?_update_self _ ho (Obj.isFreed_of_fields (Obj.data_mapFields hd _)),(Obj.cls_mapFields ..).trans hc,?_⟩ (Heap.SameBut.update ..))⟩))
 rw [Obj.data_mapFields hd];simp [rawInt]
theorem rC {it t:Addr}{i:Nat} {items}{Q:Value->Shared->Prop}(hh:A.handled=none)(hit:s.heap.IsTupleIter it t i)(ht:s.heap.IsTuple t items)(hx:items[i]?=none)
  (hE:∀ h' e,Heap.ExtBut it s.heap h'->(∃ o,h'.get? e=some o/\o.cls=.type "StopIteration")->E (.ref e) { s with heap:=h' }):wpAny (model prog w) A (Builtin.SmallTypes.nextOf (.ref it)) Q E s:=by
 obtain⟨⟨o,ho,hc,hd⟩,⟨ol,PH,_,nl,PJ⟩⟩:=And.intro (id hit) ht;unfold Builtin.SmallTypes.nextOf;refine wpAny_bind (wpAny_callSpecial?_slot (name:=Str.ofString "__next__") hit.typeIs F.slot_tuple_iterator_next (wpAny_call_entry F.slot_tuple_iterator_next hit.typeIs F.entry_tuple_iterator_next ?_ (F.args_tuple_iterator_next_1 _)));show wpAny _ _ (field (.ref it) 0>>=_) _ _ s;refine wpAny_bind (wpAny_field ho hd (x:=.ref t) rfl ?_);show wpAny _ _ (if(Value.ref t==Value.none)=true then _ else _) _ _ s;rw [if_neg (show ¬ ((Value.ref t==Value.none)=true) from Bool.false_ne_true)]
 show wpAny _ _ (field (.ref it) 1>>=_) _ _ s;refine wpAny_bind (wpAny_field ho hd (x:=.int i 0) rfl ?_);show wpAny _ _ (seqItems? (.ref t)>>=_) _ _ s;refine wpAny_bind (wpAny_seqItems PH PJ ?_);simp only [Int.toNat_natCast,hx];refine wpAny_bind (wpAny_rule (wpAny_bind (wpAny_setField ho hd (by simp) ?_)));show wpAny _ _ (newExc (.type "StopIteration") []>>=_) _ _ _
 refine wpAny_bind ?_;simp only [newExc,newTuple];refine wpAny_bind (wpAny_newObj_type ?_ (by size_fits))
 refine wpAny_bind (m:=firstArgMember _ _) (wpAny_of_eq (a:=Value.none) (by first | rfl | (simp only [firstArgMember];rfl)) (wpAny_newObj_type ?_ (by size_fits)))
 simp only [raiseNew];refine wpAny_bind (wpAny_handled ?_)
 first | rw [show A.in1.handled=none from hh] | rw [hh]
 exact wpAny_bind (wpAny_pure (wpAny_throw (hE _ _ (((Heap.SameBut.update ..).extBut.push _).push _) ⟨_,Heap.get?_push_size _ rfl,rfl⟩)))
abbrev jH (h:Heap)(z TI TO:Addr)(f0 f1:Value):Prop:=h.get? z=some { cls:=.type "zip",dict:=none,data:=.fields #[f0,f1,.bool false,.ref TI,.ref TO],slots:=#[] }
def HI (f0:Value):Prop:=f0=.none\/∃ a:Int,f0=rawInt a
theorem uO {a:Addr}{Q:Option Obj->Shared->Prop}(h:Q (s.heap.get? a) s):wpAny (model prog w) A (loadIfAlive a) Q E s:=λ _ _ _=>by
 unfold loadIfAlive;rw [Sem.wp_loadIfAlive];exact h
theorem pY {z TI TO:Addr}{f0:Value}{b:Bool}{Q:Bool->Shared->Prop}(hz:jH s.heap z TI TO f0 (.bool b))(ow:HI f0)(h1:Q true s)
  (h2:∀ h',jH h' z TI TO f0 (.bool true)->Heap.SameBut z s.heap h'->Q false { s with heap:=h' }):wpAny (model prog w) A (Builtin.SmallTypes.ownedTupleIsFree (.ref z)) Q E s:=by
 unfold Builtin.SmallTypes.ownedTupleIsFree;refine wpAny_bind (wpAny_field hz rfl (x:=f0) rfl ?_);rcases ow with rfl | ⟨a,rfl⟩
 ·exact wpAny_pure h1
 ·show wpAny _ _ (loadIfAlive a.toNat>>=_) _ _ s;refine wpAny_bind (uO ?_);cases s.heap.get? a.toNat with
  | none=>exact wpAny_pure h1
  | some o =>
   show wpAny _ _ (field (.ref z) 1>>=_) _ _ s;refine wpAny_bind (wpAny_field hz rfl (x:=.bool b) rfl ?_);cases b with
   | true =>
    refine wpAny_pure ?_;have e:=h2 s.heap hz ⟨rfl,λ _ _=>rfl⟩;exact e
   | false =>
    show wpAny _ _ (setField (.ref z) 1 (.bool true)>>=_) _ _ s;exact wpAny_bind (wpAny_setField_rec hz (by simp) λ h' Oi JG=>wpAny_pure (h2 h' Oi JG))
structure va (z TI TO i1 i2 l1 l2:Addr):Prop where
 a1:TI≠z
 a2:TO≠z
 a3:i1≠z
 a4:i2≠z
 a5:TI≠TO
 a6:TI≠i1
 a7:TI≠i2
 a8:TO≠i1
 a9:TO≠i2
 b1:i1≠i2
 b2:l1≠z
 b3:l1≠TO
 b4:l1≠i1
 b5:l1≠i2
 b6:l2≠z
 b7:l2≠TO
 b8:l2≠i1
 b9:l2≠i2
structure ř (h:Heap)(z TI TO i1 i2 l1 l2:Addr)(k:Nat):Prop where
 zo:∃ f0 b,jH h z TI TO f0 (.bool b)/\HI f0
 ti:IsPair h TI (.ref i1) (.ref i2)
 to:∃ a b,IsPair h TO a b
 j1:h.IsListIter i1 l1 k
 j2:h.IsTupleIter i2 l2 k
def iD (h h':Heap)(z TO i1 i2:Addr):Prop:=∀ c o,c≠z->c≠TO->c≠i1->c≠i2->h.get? c=some o->h'.get? c=some o
theorem vV {z TI TO i1 i2 l1 l2:Addr}{k:Nat}{xs ys:Array Value}{x y:Value}{Q:Value->Shared->Prop}(D:va z TI TO i1 i2 l1 l2)(hz:ř s.heap z TI TO i1 i2 l1 l2 k)(g1:s.heap.IsList l1 xs)(g2:s.heap.IsTuple l2 ys)(hx:xs[k]?=some x)(hy:ys[k]?=some y)
  (hQ:∀ h',ř h' z TI TO i1 i2 l1 l2 (k+1)->IsPair h' s.heap.objs.size x y->h'.objs.size=s.heap.objs.size+1->iD s.heap h' z TO i1 i2->Q (.ref s.heap.objs.size) { s with heap:=h' }) :
  wpAny (model prog w) A (Builtin.«zip.__next__» ⟨[.ref z],[]⟩) (λ fin s'=>∃ v,fin=.done (.ret v)/\Q v s') E s:=by
 obtain⟨⟨f0,b,zo,ow⟩,ti,⟨ta,tb,to⟩,j1,j2⟩:=hz;show wpAny _ _ (field (.ref z) 2>>=_) _ _ _;refine wpAny_bind (wpAny_field zo rfl (x:=.bool false) rfl ?_);show wpAny _ _ (field (.ref z) 3>>=_) _ _ _;refine wpAny_bind (wpAny_field zo rfl (x:=.ref TI) rfl (wpAny_bind (wpAny_seqItems ti rfl ?_)));show wpAny _ _ (Builtin.SmallTypes.ownedTupleIsFree (.ref z)>>=_) _ _ _;refine wpAny_bind (pY zo ow ?_ λ h1 JH s1=>?_)
 ·simp only [if_true];refine wpAny_bind (wpAny_rule (wpAny_bind (wpAny_field zo rfl (x:=.ref TO) rfl (wpAny_bind (wpAny_setField_rec zo (by simp) λ h1 JH s1=>?_)))))
  have JH:jH h1 z TI TO .ellipsis (.bool b):=JH;have Kq:=j1.extBut s1.extBut D.a3;have LP:=j2.extBut s1.extBut D.a4;have Kr:=g1.extBut s1.extBut D.b2;have LQ:=g2.extBut s1.extBut D.b6;have PK:IsPair h1 TO ta tb:=s1.extBut _ _ D.a2 to;refine wpAny_bind ?_;simp only [List.zipIdx_cons,List.zipIdx_nil,List.forIn_cons,List.forIn_nil];refine wpAny_bind (wpAny_bind (wpAny_onRaise ?_));show wpAny _ _ (Builtin.SmallTypes.nextOf (.ref i1)>>=_) _ _ _;refine wpAny_bind (wpAny_nextOf_list_item Kq Kr hx λ h2 M6 s2=>wpAny_pure ?_);have s2:Heap.SameBut i1 h1 h2:=s2;have to2:IsPair h2 TO ta tb:=s2.extBut _ _ D.a8 PK;refine wpAny_bind (wpAny_seqItems to2 rfl (wpAny_bind (wpAny_updateSeq_pair to2 λ h3 to3 s3=>wpAny_bind (wpAny_letGo (wpAny_pure ?_)))));have s3:Heap.SameBut TO h2 h3:=s3;have to3:IsPair h3 TO x tb:=to3;have LR:=(LP.extBut s2.extBut D.b1.symm).extBut s3.extBut D.a9.symm;have LS:=(LQ.extBut s2.extBut D.b8).extBut s3.extBut D.b7;refine wpAny_bind (wpAny_bind (wpAny_onRaise ?_));show wpAny _ _ (Builtin.SmallTypes.nextOf (.ref i2)>>=_) _ _ _;refine wpAny_bind (pJ LR LS hy λ h4 PL s4=>wpAny_pure ?_);have s4:Heap.SameBut i2 h3 h4:=s4;have SO:IsPair h4 TO x tb:=s4.extBut _ _ D.a9 to3;refine wpAny_bind (wpAny_seqItems SO rfl (wpAny_bind (wpAny_updateSeq_pair SO λ h5 Ol s5=>wpAny_bind (wpAny_letGo (wpAny_pure (wpAny_pure ?_))))));have s5:Heap.SameBut TO h4 h5:=s5;have Ol:IsPair h5 TO x y:=Ol;have sz:h5.objs.size=s.heap.objs.size:=by rw [s5.1,s4.1,s3.1,s2.1,s1.1]
  have up:iD s.heap h5 z TO i1 i2:=λ c o c1 c2 c3 c4 e=>s5.extBut _ _ c2 (s4.extBut _ _ c4 (s3.extBut _ _ c2 (s2.extBut _ _ c3 (s1.extBut _ _ c1 e))));have SQ:jH h5 z TI TO .ellipsis (.bool b):=s5.extBut _ _ D.a2.symm (s4.extBut _ _ D.a4.symm (s3.extBut _ _ D.a2.symm (s2.extBut _ _ D.a3.symm JH)));have Vp:=((M6.extBut s3.extBut D.a8.symm).extBut s4.extBut D.b1).extBut s5.extBut D.a8.symm;have Vq:=PL.extBut s5.extBut D.a9.symm;refine wpAny_bind (wpAny_seqItems Ol rfl (wpAny_bind (wpAny_newTuple ?_)));show wpAny _ _ (Builtin.SmallTypes.ownedTupleHandOut (.ref z) (.ref h5.objs.size)>>=_) _ _ _;have Vr:jH (h5.push { cls:=.type "tuple",data:=.seq #[x,y] }) z TI TO .ellipsis (.bool b):=Heap.get?_push_of_some _ SQ;refine wpAny_bind ?_;unfold Builtin.SmallTypes.ownedTupleHandOut;refine wpAny_bind (wpAny_setField_rec Vr (by simp) λ h7 PM s7=>?_)
  have PM:jH h7 z TI TO (rawInt h5.objs.size) (.bool b):=PM;refine wpAny_setField_rec PM (by simp) λ h8 PN s8=>wpAny_pure ⟨_,rfl,?_⟩
  have PN:jH h8 z TI TO (rawInt h5.objs.size) (.bool false):=PN;have M7:∀ c o,c≠z->h5.get? c=some o->h8.get? c=some o:=λ c o c1 e=>s8.extBut _ _ c1 (s7.extBut _ _ c1 (Heap.get?_push_of_some _ e));show Q (.ref h5.objs.size) _;have nz:s.heap.objs.size≠z:=by rw [<- sz];exact Nat.ne_of_gt (Heap.lt_size SQ)
  rw [sz];refine hQ _ ⟨⟨_,false,PN,.inr ⟨_,rfl⟩⟩,M7 _ _ D.a1 (up _ _ D.a1 D.a5 D.a6 D.a7 ti),⟨x,y,M7 _ _ D.a2 Ol⟩,Vp.at λ o e=>M7 _ o D.a3 e,Vq.at λ o e=>M7 _ o D.a4 e⟩ ?_ (by rw [s8.1,s7.1,Heap.size_push,sz]) λ c o c1 c2 c3 c4 e=>M7 c o c1 (up c o c1 c2 c3 c4 e)
  exact s8.extBut _ _ nz (s7.extBut _ _ nz (by rw [<- sz];exact Heap.get?_push_size _ rfl))
 ·simp only [Bool.false_eq_true,if_false];have Kq:=j1.extBut s1.extBut D.a3;have LP:=j2.extBut s1.extBut D.a4;have Kr:=g1.extBut s1.extBut D.b2;have LQ:=g2.extBut s1.extBut D.b6;refine wpAny_bind ?_;rw [<- Array.forIn_toList];simp only [List.forIn_cons,List.forIn_nil];refine wpAny_bind (wpAny_bind (wpAny_holding ?_));show wpAny _ _ (Builtin.SmallTypes.nextOf (.ref i1)>>=_) _ _ _;refine wpAny_bind (wpAny_nextOf_list_item Kq Kr hx λ h2 M6 s2=>wpAny_pure (wpAny_pure ?_));have LR:=LP.extBut s2.extBut D.b1.symm;have LS:=LQ.extBut s2.extBut D.b8;refine wpAny_bind (wpAny_bind (wpAny_holding ?_));show wpAny _ _ (Builtin.SmallTypes.nextOf (.ref i2)>>=_) _ _ _;refine wpAny_bind (pJ LR LS hy λ h3 PL s3=>wpAny_pure (wpAny_pure (wpAny_pure ?_)));show wpAny _ _ (newTuple [x,y]>>=_) _ _ _;have s2:Heap.SameBut i1 h1 h2:=s2;have s3:Heap.SameBut i2 h2 h3:=s3;have sz:h3.objs.size=s.heap.objs.size:=by rw [s3.1,s2.1,s1.1]
  have up:iD s.heap h3 z TO i1 i2:=λ c o c1 c2 c3 c4 e=>s3.extBut _ _ c4 (s2.extBut _ _ c3 (s1.extBut _ _ c1 e));refine wpAny_bind (wpAny_newTuple (wpAny_pure ⟨_,rfl,?_⟩));show Q (.ref h3.objs.size) _;rw [sz];refine hQ _ ⟨⟨f0,true,Heap.get?_push_of_some _ (s3.extBut _ _ D.a4.symm (s2.extBut _ _ D.a3.symm JH)),ow⟩,Heap.get?_push_of_some _ (up _ _ D.a1 D.a5 D.a6 D.a7 ti),⟨ta,tb,Heap.get?_push_of_some _ (s3.extBut _ _ D.a9 (s2.extBut _ _ D.a8 (s1.extBut _ _ D.a2 to)))⟩,(M6.extBut s3.extBut D.b1).at λ o e=>Heap.get?_push_of_some _ e,PL.at λ o e=>Heap.get?_push_of_some _ e⟩ ?_ (by rw [Heap.size_push,sz]) λ c o c1 c2 c3 c4 e=>Heap.get?_push_of_some _ (up c o c1 c2 c3 c4 e)
  rw [<- sz];exact Heap.get?_push_size _ rfl
theorem xU {z TI TO i1 i2 l1 l2:Addr}{k:Nat}{xs ys:Array Value}{Q:Fin->Shared->Prop}(hh:A.handled=none)(D:va z TI TO i1 i2 l1 l2)(hz:ř s.heap z TI TO i1 i2 l1 l2 k)(g1:s.heap.IsList l1 xs)(g2:s.heap.IsTuple l2 ys)(hn:xs[k]?=none\/ys[k]?=none)
  (hE:∀ h' e,iD s.heap h' z TO i1 i2->(∃ o,h'.get? e=some o/\o.cls=.type "StopIteration")->E (.ref e) { s with heap:=h' }) :
  wpAny (model prog w) A (Builtin.«zip.__next__» ⟨[.ref z],[]⟩) Q E s:=by
 obtain⟨⟨f0,b,zo,ow⟩,ti,⟨ta,tb,to⟩,j1,j2⟩:=hz;show wpAny _ _ (field (.ref z) 2>>=_) _ _ _;refine wpAny_bind (wpAny_field zo rfl (x:=.bool false) rfl ?_);show wpAny _ _ (field (.ref z) 3>>=_) _ _ _;refine wpAny_bind (wpAny_field zo rfl (x:=.ref TI) rfl (wpAny_bind (wpAny_seqItems ti rfl ?_)));show wpAny _ _ (Builtin.SmallTypes.ownedTupleIsFree (.ref z)>>=_) _ _ _;refine wpAny_bind (pY zo ow ?_ λ h1 JH s1=>?_)
 ·simp only [if_true];refine wpAny_bind (wpAny_rule (wpAny_bind (wpAny_field zo rfl (x:=.ref TO) rfl (wpAny_bind (wpAny_setField_rec zo (by simp) λ h1 JH s1=>?_)))))
  have JH:jH h1 z TI TO .ellipsis (.bool b):=JH;have Kq:=j1.extBut s1.extBut D.a3;have LP:=j2.extBut s1.extBut D.a4;have Kr:=g1.extBut s1.extBut D.b2;have LQ:=g2.extBut s1.extBut D.b6;have PK:IsPair h1 TO ta tb:=s1.extBut _ _ D.a2 to;have leave:∀(h2:Heap)(e:Addr),jH h2 z TI TO .ellipsis (.bool b)->iD s.heap h2 z TO i1 i2->(∃ o,h2.get? e=some o/\o.cls=.type "StopIteration")->wpAny (model prog w) A (setField (.ref z) 0 .none) (λ _ s'=>E (.ref e) s') E { s with heap:=h2 }:=λ h2 e z2 u2 he=>by
   obtain⟨oe,PO,SR⟩:=he;have Vs:e≠z:=λ q=>by subst q;rw [z2] at PO;cases PO;simp at SR
   exact wpAny_setField_rec z2 (by simp) λ h3 _ s3=>hE h3 e (λ c o c1 c2 c3 c4 q=>s3.extBut _ _ c1 (u2 c o c1 c2 c3 c4 q)) ⟨oe,s3.extBut _ _ Vs PO,SR⟩
  refine wpAny_bind ?_;simp only [List.zipIdx_cons,List.zipIdx_nil,List.forIn_cons,List.forIn_nil];refine wpAny_bind (wpAny_bind (wpAny_onRaise ?_));show wpAny _ _ (Builtin.SmallTypes.nextOf (.ref i1)>>=_) _ _ _;cases hx:xs[k]? with
  | none =>
   refine wpAny_bind (wpAny_nextOf_list_end hh Kq Kr hx λ h2 e s2 he=>?_);have s2:Heap.ExtBut i1 h1 h2:=s2;exact leave h2 e (s2 _ _ D.a3.symm JH) (λ c o c1 c2 c3 c4 q=>s2 _ _ c3 (s1.extBut _ _ c1 q)) he
  | some x =>
   have hy:ys[k]?=none:=hn.resolve_left (by rw [hx];simp)
   refine wpAny_bind (wpAny_nextOf_list_item Kq Kr hx λ h2 M6 s2=>wpAny_pure ?_);have s2:Heap.SameBut i1 h1 h2:=s2;have to2:IsPair h2 TO ta tb:=s2.extBut _ _ D.a8 PK;refine wpAny_bind (wpAny_seqItems to2 rfl (wpAny_bind (wpAny_updateSeq_pair to2 λ h3 to3 s3=>wpAny_bind (wpAny_letGo (wpAny_pure ?_)))));have s3:Heap.SameBut TO h2 h3:=s3;have LR:=(LP.extBut s2.extBut D.b1.symm).extBut s3.extBut D.a9.symm;have LS:=(LQ.extBut s2.extBut D.b8).extBut s3.extBut D.b7;refine wpAny_bind (wpAny_bind (wpAny_onRaise ?_));show wpAny _ _ (Builtin.SmallTypes.nextOf (.ref i2)>>=_) _ _ _;refine wpAny_bind (rC hh LR LS hy λ h4 e s4 he=>?_);have s4:Heap.ExtBut i2 h3 h4:=s4;exact leave h4 e (s4 _ _ D.a4.symm (s3.extBut _ _ D.a2.symm (s2.extBut _ _ D.a3.symm JH))) (λ c o c1 c2 c3 c4 q=>s4 _ _ c4 (s3.extBut _ _ c2 (s2.extBut _ _ c3 (s1.extBut _ _ c1 q)))) he
 ·simp only [Bool.false_eq_true,if_false];have Kq:=j1.extBut s1.extBut D.a3;have LP:=j2.extBut s1.extBut D.a4;have Kr:=g1.extBut s1.extBut D.b2;have LQ:=g2.extBut s1.extBut D.b6;refine wpAny_bind ?_;rw [<- Array.forIn_toList];simp only [List.forIn_cons,List.forIn_nil];refine wpAny_bind (wpAny_bind (wpAny_holding ?_));show wpAny _ _ (Builtin.SmallTypes.nextOf (.ref i1)>>=_) _ _ _;cases hx:xs[k]? with
  | none =>
   refine wpAny_bind (wpAny_nextOf_list_end hh Kq Kr hx λ h2 e s2 he=>?_);have s2:Heap.ExtBut i1 h1 h2:=s2;exact hE h2 e (λ c o c1 c2 c3 c4 q=>s2 _ _ c3 (s1.extBut _ _ c1 q)) he
  | some x =>
   have hy:ys[k]?=none:=hn.resolve_left (by rw [hx];simp)
   refine wpAny_bind (wpAny_nextOf_list_item Kq Kr hx λ h2 M6 s2=>wpAny_pure (wpAny_pure ?_));have s2:Heap.SameBut i1 h1 h2:=s2;have LR:=LP.extBut s2.extBut D.b1.symm;have LS:=LQ.extBut s2.extBut D.b8;refine wpAny_bind (wpAny_bind (wpAny_holding ?_));show wpAny _ _ (Builtin.SmallTypes.nextOf (.ref i2)>>=_) _ _ _;refine wpAny_bind (rC hh LR LS hy λ h3 e s3 he=>?_);have s3:Heap.ExtBut i2 h2 h3:=s3;exact hE h3 e (λ c o c1 c2 c3 c4 q=>s3 _ _ c4 (s2.extBut _ _ c3 (s1.extBut _ _ c1 q))) he
end
theorem ř.keep {h h':Heap}{z TI TO i1 i2 l1 l2:Addr}{k:Nat}(a:ř h z TI TO i1 i2 l1 l2 k)(u:∀ b ∈ [z,TI,TO,i1,i2],∀ o,h.get? b=some o->h'.get? b=some o):ř h' z TI TO i1 i2 l1 l2 k:=by
 obtain⟨⟨f0,b,zo,ow⟩,ti,⟨ta,tb,to⟩,j1,j2⟩:=a;exact⟨⟨f0,b,u z (by simp) _ zo,ow⟩,u TI (by simp) _ ti,⟨ta,tb,u TO (by simp) _ to⟩,j1.at λ o e=>u i1 (by simp) o e,j2.at λ o e=>u i2 (by simp) o e⟩
section
variable {prog:Program}{w:World}{A:Around}{E:Value->Shared->Prop}{s:Shared}
theorem ř.ty {z TI TO i1 i2 l1 l2:Addr}{k:Nat}(a:ř s.heap z TI TO i1 i2 l1 l2 k):s.TypeIs (.ref z) "zip" := by
 obtain⟨⟨f0,b,zo,ow⟩,_⟩:=a;exact⟨_,zo,rfl⟩
theorem B3 {z TI TO i1 i2 l1 l2:Addr}{k:Nat}{xs ys:Array Value}{x y:Value}{Q:Value->Shared->Prop}(D:va z TI TO i1 i2 l1 l2)(hz:ř s.heap z TI TO i1 i2 l1 l2 k)(g1:s.heap.IsList l1 xs)(g2:s.heap.IsTuple l2 ys)(hx:xs[k]?=some x)(hy:ys[k]?=some y)
  (hQ:∀ h',ř h' z TI TO i1 i2 l1 l2 (k+1)->IsPair h' s.heap.objs.size x y->h'.objs.size=s.heap.objs.size+1->iD s.heap h' z TO i1 i2->Q (.ref s.heap.objs.size) { s with heap:=h' }) :
  wpAny (model prog w) A (Builtin.SmallTypes.nextOf (.ref z)) Q E s:=by
 unfold Builtin.SmallTypes.nextOf;exact wpAny_bind (wpAny_callSpecial?_slot (name:=Str.ofString "__next__") hz.ty F.slot_zip_next (wpAny_call_entry F.slot_zip_next hz.ty F.entry_zip_next (vV D hz g1 g2 hx hy λ h' a b c d=>wpAny_pure (hQ h' a b c d)) (F.args_zip_next_1 _)))
theorem EU {z TI TO i1 i2 l1 l2:Addr}{k:Nat}{xs ys:Array Value}{Q:Value->Shared->Prop}(hh:A.handled=none)(D:va z TI TO i1 i2 l1 l2)(hz:ř s.heap z TI TO i1 i2 l1 l2 k)(g1:s.heap.IsList l1 xs)(g2:s.heap.IsTuple l2 ys)(hn:xs[k]?=none\/ys[k]?=none)
  (hE:∀ h' e,iD s.heap h' z TO i1 i2->(∃ o,h'.get? e=some o/\o.cls=.type "StopIteration")->E (.ref e) { s with heap:=h' }):wpAny (model prog w) A (Builtin.SmallTypes.nextOf (.ref z)) Q E s:=by
 unfold Builtin.SmallTypes.nextOf;exact wpAny_bind (wpAny_callSpecial?_slot (name:=Str.ofString "__next__") hz.ty F.slot_zip_next (wpAny_call_entry F.slot_zip_next hz.ty F.entry_zip_next (xU hh D hz g1 g2 hn hE) (F.args_zip_next_1 _)))
theorem Cp {e z TI TO i1 i2 l1 l2:Addr}{k:Nat}{xs ys:Array Value}{x y old:Value}{Q:Option Value->Shared->Prop}(D:va z TI TO i1 i2 l1 l2)(he:IsEnum s.heap e z k old)(hz:ř s.heap z TI TO i1 i2 l1 l2 k)(g1:s.heap.IsList l1 xs)(g2:s.heap.IsTuple l2 ys)(hx:xs[k]?=some x)(hy:ys[k]?=some y)
  (ne:∀ b ∈ [z,TI,TO,i1,i2],b≠e)
  (hQ:∀ h',IsEnumOut h' e z ((k:Int)+1) (.ref s.heap.objs.size) (s.heap.objs.size+1)->ř h' z TI TO i1 i2 l1 l2 (k+1)->IsPair h' s.heap.objs.size x y->h'.get? (s.heap.objs.size+1)=some { cls:=.type "tuple",data:=.seq #[.int k s.toks,.ref s.heap.objs.size] } ->
   (∀ c o,c≠e->c≠z->c≠TO->c≠i1->c≠i2->s.heap.get? c=some o->h'.get? c=some o)->Q (some (.ref (s.heap.objs.size+1))) { s with heap:=h',toks:=s.toks+1 }) :
  wpAny (model prog w) A (pyNext (.ref e)) Q E s:=by
 have hT:s.TypeIs (.ref e) "enumerate" :=⟨_,he,rfl⟩;have el:=Heap.lt_size he;have nz:e≠z:=(ne z (by simp)).symm
 have Vt:e≠TO:=(ne TO (by simp)).symm
 have n1:e≠i1:=(ne i1 (by simp)).symm
 have n2:e≠i2:=(ne i2 (by simp)).symm
 unfold pyNext;refine wpAny_bind (wpAny_attempt (wpAny_callSpecial?_slot (name:=Str.ofString "__next__") hT F.slot_enumerate_next (wpAny_call_entry F.slot_enumerate_next hT F.entry_enumerate_next ?_ (F.args_enumerate_next_1 _))));show wpAny _ _ (field (.ref e) 2>>=_) _ _ _;refine wpAny_bind (wpAny_field he rfl (x:=.ref z) rfl (wpAny_bind (B3 D hz g1 g2 hx hy λ h1 za pr Vu kz=>?_)));have PQ:IsEnum h1 e z k old:=kz _ _ nz Vt n1 n2 he;show wpAny _ _ (field (.ref e) 3>>=_) _ _ _;refine wpAny_bind (wpAny_field PQ rfl (x:=rawInt k) rfl ?_);show wpAny _ _ (field (.ref e) 4>>=_) _ _ _;refine wpAny_bind (wpAny_field PQ rfl (x:=.none) rfl ?_);show wpAny _ _ (mkInt k>>=_) _ _ _;refine wpAny_bind (wpAny_mkInt ?_);show wpAny _ _ (setField (.ref e) 3 (rawInt ((k:Int)+1))>>=_) _ _ _;refine wpAny_bind (wpAny_setField_rec PQ (by simp) λ h2 KY s2=>wpAny_bind (wpAny_setField_rec (show IsEnum h2 e z ((k:Int)+1) old from KY) (by simp) λ h3 PR s3=>?_))
 have s2:Heap.SameBut e h1 h2:=s2;have s3:Heap.SameBut e h2 h3:=s3;have PR:IsEnum h3 e z ((k:Int)+1) old:=PR;have M8:h3.objs.size=s.heap.objs.size+1:=by rw [s3.1,s2.1,Vu]
 show wpAny _ _ (newTuple [.int k s.toks,.ref s.heap.objs.size]>>=_) _ _ _;refine wpAny_bind (wpAny_newTuple ?_);have Om:IsEnum (h3.push { cls:=.type "tuple",data:=.seq #[.int k s.toks,.ref s.heap.objs.size] }) e z ((k:Int)+1) old:=Heap.get?_push_of_some _ PR;have t4:(h3.push { cls:=.type "tuple",data:=.seq #[.int k s.toks,.ref s.heap.objs.size] }).get? (s.heap.objs.size+1)=some { cls:=.type "tuple",data:=.seq #[.int k s.toks,.ref s.heap.objs.size] }:=by rw [<- M8];exact Heap.get?_push_size _ rfl
 have u4:∀ c o,c≠e->h1.get? c=some o->(h3.push { cls:=.type "tuple",data:=.seq #[.int k s.toks,.ref s.heap.objs.size] }).get? c=some o:=λ c o ce q=>Heap.get?_push_of_some _ (s3.extBut _ _ ce (s2.extBut _ _ ce q));show wpAny _ _ (Builtin.SmallTypes.ownedTupleIsFree (.ref e)>>=_) _ _ _;rw [M8];generalize (h3.push { cls:=.type "tuple",data:=.seq #[.int k s.toks,.ref s.heap.objs.size] })=h4 at Om t4 u4;refine wpAny_bind ?_;unfold Builtin.SmallTypes.ownedTupleIsFree;refine wpAny_bind (wpAny_field Om rfl (x:=.none) rfl (wpAny_pure ?_));simp only [if_true];refine wpAny_bind (wpAny_rule (wpAny_bind (wpAny_field Om rfl (x:=old) rfl (wpAny_bind (wpAny_setField_rec Om (by simp) λ h5 PU s5=>?_)))))
 have s5:Heap.SameBut e h4 h5:=s5;have PU:IsEnum h5 e z ((k:Int)+1) (.ref s.heap.objs.size):=PU;show wpAny _ _ (Builtin.SmallTypes.ownedTupleHandOut (.ref e) (.ref (s.heap.objs.size+1))>>=_) _ _ _;refine wpAny_bind ?_;unfold Builtin.SmallTypes.ownedTupleHandOut;refine wpAny_bind (wpAny_setField_rec PU (by simp) λ h6 PV s6=>?_)
 have PV:IsEnumOut h6 e z ((k:Int)+1) (.ref s.heap.objs.size) (s.heap.objs.size+1):=PV;refine wpAny_setField_rec PV (by simp) λ h7 Vv s7=>wpAny_bind (wpAny_letGo (wpAny_pure ⟨_,rfl,wpAny_pure ?_⟩))
 have s6:Heap.SameBut e h5 h6:=s6;have s7:Heap.SameBut e h6 h7:=s7;have u7:∀ c o,c≠e->h4.get? c=some o->h7.get? c=some o:=λ c o ce q=>s7.extBut _ _ ce (s6.extBut _ _ ce (s5.extBut _ _ ce q));have na:s.heap.objs.size≠e:=Nat.ne_of_gt el;have nb:s.heap.objs.size+1≠e:=Nat.ne_of_gt (Nat.lt_succ_of_lt el);exact hQ h7 Vv (za.keep λ b hb o q=>u7 b o (ne b hb) (u4 b o (ne b hb) q)) (u7 _ _ na (u4 _ _ na pr)) (u7 _ _ nb t4) λ c o ce c1 c2 c3 c4 q=>u7 c o ce (u4 c o ce (kz c o c1 c2 c3 c4 q))
theorem rH {e z TI TO i1 i2 l1 l2:Addr}{k:Nat}{i:Int}{xs ys:Array Value}{old:Value}{Q:Option Value->Shared->Prop}(hh:A.handled=none)(D:va z TI TO i1 i2 l1 l2)(he:IsEnum s.heap e z i old)(hz:ř s.heap z TI TO i1 i2 l1 l2 k)(g1:s.heap.IsList l1 xs)(g2:s.heap.IsTuple l2 ys)(hn:xs[k]?=none\/ys[k]?=none)
  (hQ:∀ h',iD s.heap h' z TO i1 i2->Q none { s with heap:=h' }):wpAny (model prog w) A (pyNext (.ref e)) Q E s:=by
 have hT:s.TypeIs (.ref e) "enumerate" :=⟨_,he,rfl⟩;unfold pyNext;refine wpAny_bind (wpAny_attempt (wpAny_callSpecial?_slot (name:=Str.ofString "__next__") hT F.slot_enumerate_next (wpAny_call_entry F.slot_enumerate_next hT F.entry_enumerate_next ?_ (F.args_enumerate_next_1 _))));show wpAny _ _ (field (.ref e) 2>>=_) _ _ _;refine wpAny_bind (wpAny_field he rfl (x:=.ref z) rfl (wpAny_bind (EU hh D hz g1 g2 hn λ h' x kz Jo=>?_)));obtain⟨o,ho,hc⟩:=Jo;exact wpAny_bind (wpAny_isInstance (T:="StopIteration") (b:=true) ⟨o,ho,hc⟩ isSubtype_stop (wpAny_pure (hQ _ kz)))
end
end My
namespace My
open PySem PySem.W L2
open PyProof.Rows (Call_ boot_enumerate)
open AutoSeq1 (wpAny_loadPart')
def BT (h:Heap)(l1:Addr):Heap:=h.push { cls:=.type "list_iterator",data:=.fields #[.ref l1,.int 0 0] }
def zF (h:Heap)(l1 l2:Addr):Heap:=(BT h l1).push { cls:=.type "tuple_iterator",data:=.fields #[.ref l2,.int 0 0] }
def zq (h:Heap)(l1 l2:Addr):Heap:=(zF h l1 l2).push { cls:=.type "tuple",data:=.seq #[.ref h.objs.size,.ref (BT h l1).objs.size] }
def AF (h:Heap)(l1 l2:Addr):Heap:=(zq h l1 l2).push { cls:=.type "tuple",data:=.seq #[.none,.none] }
def v9 (h:Heap)(l1 l2:Addr):Heap:=(AF h l1 l2).push { cls:=.type "zip",data:=.fields #[.none,.bool false,.bool false,.ref (zF h l1 l2).objs.size,.ref (zq h l1 l2).objs.size] }
theorem vN (l1 l2:Addr)(xs ys:Array Value):Meets (Builtin.«zip.__new__» ⟨[.type "zip",.ref l1,.ref l2],[]⟩) (λ _ R s=>s.heap.IsList l1 xs/\s.heap.IsTuple l2 ys/\R (.ok (.ret (.ref (AF s.heap l1 l2).objs.size))) { s with heap:=v9 s.heap l1 l2 }) :=
 .of_wp λ prog w A R s h=>by
  obtain⟨hp,g,d,tk,os⟩:=s;obtain⟨PY,J4,h⟩:=h;have MU:=sub_zip;have k1:Heap.IsList (Shared.heap ⟨hp,g,d,tk,os⟩) l1 xs:=PY;have k2:Heap.IsTuple (Shared.heap ⟨hp.push { cls:=.type "list_iterator",data:=.fields #[.ref l1,.int 0 0] },g,d,tk,os⟩) l2 ys:=by
   obtain⟨o,ho,r⟩:=J4;exact⟨o,Heap.get?_push_of_some _ ho,r⟩
  wp_walk using wpAny_pyIter_list k1,wpAny_pyIter_tuple k2
  exact⟨_,rfl,h⟩
theorem qp (z:Addr)(TI TO:Addr):Meets (Builtin.«enumerate.__new__» ⟨[.type "enumerate",.ref z],[]⟩) (λ _ R s=>IsZip s.heap z TI TO .none /\
   R (.ok (.ret (.ref s.heap.objs.size))) { s with heap:=s.heap.push { cls:=.type "enumerate",data:=.fields #[.none,.bool false,.ref z,rawInt 0,.none,.none] } }) :=
 .of_wp λ prog w A R s h=>by
  obtain⟨hp,g,d,tk,os⟩:=s;obtain⟨hl,h⟩:=h;have MU:=sub_enumerate;have hL:IsZip (Shared.heap ⟨hp,g,d,tk,os⟩) z TI TO .none:=hl
  wp_walk using wpAny_loadPart' hl
  refine wpAny_stack_any λ st=>wpAny_pure ?_;split
  ·rename_i c _ _ _ _ _
   cases (c==Value.type "enumerate") <;>(wp_walk using wpAny_loadPart' hl,wpAny_pyIter_zip hL) <;> exact⟨_,rfl,h⟩
  ·wp_walk using wpAny_loadPart' hl,wpAny_pyIter_zip hL
   exact⟨_,rfl,h⟩
section
variable {prog:Program}{w:World}{A:Around}{E:Value->Shared->Prop}{s:Shared}
theorem qd {z TI TO:Addr}{Q:Value->Shared->Prop}(hz:IsZip s.heap z TI TO .none)
  (h:∀ h',IsEnum h' s.heap.objs.size z 0 .none->h'.objs.size=s.heap.objs.size+1->(∀ b o,s.heap.get? b=some o->h'.get? b=some o)->Q (.ref s.heap.objs.size) { s with heap:=h' }) :
  wpAny (model prog w) A (call (.type "enumerate") [.ref z]) Q E s:=by
 refine callType_new F.called_enumerate (by decide) (F.typeCall_enumerate_1 _) (F.newCall_enumerate_1 _) (λ obj=>F.args_object_init_2 obj _) F.entry_enumerate_new (qp z TI TO) ⟨hz,?_⟩
 have g:=Heap.get?_push_size s.heap (o:={ cls:=.type "enumerate",data:=.fields #[.none,.bool false,.ref z,rawInt 0,.none,.none] }) rfl;exact⟨⟨_,g,rfl⟩,h _ g (Heap.size_push ..) λ b o q=>Heap.get?_push_of_some _ q⟩
theorem wD {l1 l2:Addr}{xs ys:Array Value}{Q:Value->Shared->Prop}(PY:s.heap.IsList l1 xs)(J4:s.heap.IsTuple l2 ys)
  (h:∀ h',IsZip h' (s.heap.objs.size+4) (s.heap.objs.size+2) (s.heap.objs.size+3) .none->ř h' (s.heap.objs.size+4) (s.heap.objs.size+2) (s.heap.objs.size+3) s.heap.objs.size (s.heap.objs.size+1) l1 l2 0->h'.objs.size=s.heap.objs.size+5 ->
   (∀ c o,s.heap.get? c=some o->h'.get? c=some o)->Q (.ref (s.heap.objs.size+4)) { s with heap:=h' }):wpAny (model prog w) A (call (.type "zip") [.ref l1,.ref l2]) Q E s:=by
 refine callType_new F.called_zip (by decide) (F.typeCall_zip_2 _ _) (F.newCall_zip_2 _ _) (λ obj=>F.args_object_init_3 obj _ _) F.entry_zip_new (vN l1 l2 xs ys) ⟨PY,J4,?_⟩
 have z1:(BT s.heap l1).objs.size=s.heap.objs.size+1:=Heap.size_push ..;have z2:(zF s.heap l1 l2).objs.size=s.heap.objs.size+2:=by unfold zF;rw [Heap.size_push,z1]
 have z3:(zq s.heap l1 l2).objs.size=s.heap.objs.size+3:=by unfold zq;rw [Heap.size_push,z2]
 have z4:(AF s.heap l1 l2).objs.size=s.heap.objs.size+4:=by unfold AF;rw [Heap.size_push,z3]
 have z5:(v9 s.heap l1 l2).objs.size=s.heap.objs.size+5:=by unfold v9;rw [Heap.size_push,z4]
 have u5:∀ c o,(AF s.heap l1 l2).get? c=some o->(v9 s.heap l1 l2).get? c=some o:=λ c o q=>Heap.get?_push_of_some _ q;have u4:∀ c o,(zq s.heap l1 l2).get? c=some o->(v9 s.heap l1 l2).get? c=some o:=λ c o q=>u5 c o (Heap.get?_push_of_some _ q);have u3:∀ c o,(zF s.heap l1 l2).get? c=some o->(v9 s.heap l1 l2).get? c=some o:=λ c o q=>u4 c o (Heap.get?_push_of_some _ q);have u2:∀ c o,(BT s.heap l1).get? c=some o->(v9 s.heap l1 l2).get? c=some o:=λ c o q=>u3 c o (Heap.get?_push_of_some _ q);have u1:∀ c o,s.heap.get? c=some o->(v9 s.heap l1 l2).get? c=some o:=λ c o q=>u2 c o (Heap.get?_push_of_some _ q);have g5:(v9 s.heap l1 l2).get? (AF s.heap l1 l2).objs.size=some _:=Heap.get?_push_size _ rfl;have g4:=u5 _ _ (show(AF s.heap l1 l2).get? (zq s.heap l1 l2).objs.size=some _ from Heap.get?_push_size _ rfl);have g3:=u4 _ _ (show(zq s.heap l1 l2).get? (zF s.heap l1 l2).objs.size=some _ from Heap.get?_push_size _ rfl);have g2:=u3 _ _ (show(zF s.heap l1 l2).get? (BT s.heap l1).objs.size=some _ from Heap.get?_push_size _ rfl);have g1:=u2 _ _ (show(BT s.heap l1).get? s.heap.objs.size=some _ from Heap.get?_push_size _ rfl);show _/\_;rw [z2,z3,z4] at g5;rw [z1,z2] at g3;rw [z3] at g4;rw [z1] at g2;rw [z4];exact⟨⟨_,g5,rfl⟩,h _ g5 ⟨⟨_,_,g5,.inl rfl⟩,g3,⟨_,_,g4⟩,⟨_,g1,rfl,rfl⟩,⟨_,g2,rfl,rfl⟩⟩ z5 u1⟩
end
end My
namespace My
open PySem PySem.W L2
open PyProof.Rows (Call_ boot_enumerate)
section
variable {X:Cx}{pins:List (Addr × Obj)}{σ:St}{H:Hp}{s:Shared}{h':Heap}
theorem vT {t':Nat}{ch:List Addr}{xs ys:List V}(I:Inv X pins σ H s)(F:∀ b∈ch,dh X pins H b)(k:∀ b o,b ∉ ch->s.heap.get? b=some o->h'.get? b=some o)
  (o1:Å X.prog X.w (ae (ae H s.heap.objs.size (.tup xs)) (s.heap.objs.size+1) (.tup ys)) h' s.heap.objs.size (.tup xs))(o2:Å X.prog X.w (ae (ae H s.heap.objs.size (.tup xs)) (s.heap.objs.size+1) (.tup ys)) h' (s.heap.objs.size+1) (.tup ys)) :
  Inv X pins σ (ae (ae H s.heap.objs.size (.tup xs)) (s.heap.objs.size+1) (.tup ys)) { s with heap:=h',toks:=t' }:=by
 have f1:H s.heap.objs.size=none:=I.É.fresh (Nat.le_refl _);have f2:H (s.heap.objs.size+1)=none:=I.É.fresh (Nat.le_succ _);have up:∀ b u,H b=some u->ae (ae H s.heap.objs.size (.tup xs)) (s.heap.objs.size+1) (.tup ys) b=some u:=λ b u e=>by
  rw [ag (λ z=>by rw [z,f2] at e;cases e),ag (λ z=>by rw [z,f1] at e;cases e)]
  exact e
 have dn:∀ b,b<s.heap.objs.size->ae (ae H s.heap.objs.size (.tup xs)) (s.heap.objs.size+1) (.tup ys) b=H b:=λ b l=>by
  rw [ag (Nat.ne_of_lt (Nat.lt_succ_of_lt l)),ag (Nat.ne_of_lt l)]
 have Jn:∀ b u,H b=some u->b ∉ ch:=λ b u e z=>by
  have:=(F b z).1;rw [this] at e;cases e
 refine I.step (g':=s.gens) (d':=s.drawn) (ch:=ch) (λ b hb=>?_) (λ b o _ _ hc e _=>k b o hc e) (λ b o _ _ hc e _=>⟨o.slots,k b o hc e⟩) (λ b o _ e n=>by rw [dn b (Heap.lt_size e)];exact n)
  (λ b o hc e=>⟨o,k b o hc e⟩) (λ b _ e=>up _ _ e) (λ _ _ _ e=>up _ _ e) (λ b ps e=>⟨#[],by rw [up _ _ e];simp⟩) (λ q=>?_) (λ m hm=>?_) (λ b u e=>?_) I.bare
 ·obtain⟨_,a,_,b',c,d⟩:=F b hb;exact⟨b',a,c,d⟩
 ·rw [dn _ (Nat.lt_trans (by decide:sysModules<mainGlobals) (I.mod.glob.keeps I.bk).lt)]
  exact q
 ·obtain⟨o,es,ep,ho,r⟩:=hm;exact⟨o,es,ep,k _ o (λ z=>(F _ z).2.1 rfl) ho,r⟩
 ·by_cases z2:b=s.heap.objs.size+1
  ·subst z2;rw [aL] at e;cases e;exact o2
  ·by_cases z1:b=s.heap.objs.size
   ·subst z1;rw [ag z2,aL] at e;cases e;exact o1
   ·rw [ag z2,ag z1] at e;refine(I.É b u e).ē (λ c v hc q=>k c v ?_ q) (λ c q=>up _ _ q) λ c zs q=>up _ _ q;rcases hc with z | z
    ·rw [z];exact Jn _ _ e
    ·exact Jn _ _ z
theorem vn {t':Nat}{ch:List Addr}(I:Inv X pins σ H s)(F:∀ b∈ch,dh X pins H b)(k:∀ b o,b ∉ ch->s.heap.get? b=some o->h'.get? b=some o):Inv X pins σ H { s with heap:=h',toks:=t' }:=by
 have Jn:∀ b u,H b=some u->b ∉ ch:=λ b u e z=>by
  have:=(F b z).1;rw [this] at e;cases e
 refine I.step (g':=s.gens) (d':=s.drawn) (ch:=ch) (λ b hb=>?_) (λ b o _ _ hc e _=>k b o hc e) (λ b o _ _ hc e _=>⟨o.slots,k b o hc e⟩) (λ _ _ _ _ n=>n)
  (λ b o hc e=>⟨o,k b o hc e⟩) (λ _ _ e=>e) (λ _ _ _ e=>e) (λ b ps e=>⟨#[],by rw [e];simp⟩) (λ q=>q) (λ m hm=>?_) (λ b u e=>?_) I.bare
 ·obtain⟨_,a,_,b',c,d⟩:=F b hb;exact⟨b',a,c,d⟩
 ·obtain⟨o,es,ep,ho,r⟩:=hm;exact⟨o,es,ep,k _ o (λ z=>(F _ z).2.1 rfl) ho,r⟩
 ·refine(I.É b u e).ē (λ c v hc q=>k c v ?_ q) (λ _ q=>q) λ _ _ q=>q;rcases hc with z | z
  ·rw [z];exact Jn _ _ e
  ·exact Jn _ _ z
end
def EK (K:Frag)(a b:Addr):It :=
 ⟨λ i H=>∃ xs ys x y,Ã K H a xs/\Ì K H b ys/\xs[i]?=some x/\ys[i]?=some y,
   λ i H v H'=>∃ q p x y,v=.ref p/\H q=none/\H p=none/\p≠q/\H'=ae (ae H q (.tup [x,y])) p (.tup [.int i,.ref q])/\∀ xs ys,Ã K H a xs->Ì K H b ys->xs[i]?=some x/\ys[i]?=some y,
   λ i H=>∃ xs ys,Ã K H a xs/\Ì K H b ys/\(xs.length<=i\/ys.length<=i)⟩
theorem sH {P:Program}{w:World}{K:Frag}{elts:List Expr} {x1}{pos:Pos}(a b e z TI TO i1 i2:Addr)(D:va z TI TO i1 i2 a b)(ne:∀ c ∈ [z,TI,TO,i1,i2],c≠e) :
  qP P w K (.Tuple elts x1 pos) (EK K a b) [e,z,TI,TO,i1,i2] e (λ i h=>(∃ old,IsEnum h e z i old)/\ř h z TI TO i1 i2 a b i) where
 mem:=by simp
 obj:=λ i h st c hc=>by
  obtain⟨⟨old,h1⟩,⟨f0,bb,zo,ow⟩,ti,⟨ta,tb,to⟩,⟨oa,ha,ca,da⟩,⟨ob,hb,cb,db⟩⟩:=st;simp only [List.mem_cons,List.not_mem_nil,or_false] at hc;rcases hc with rfl | rfl | rfl | rfl | rfl | rfl
  ·exact⟨_,h1,λ v q=>by cases q⟩
  ·exact⟨_,zo,λ v q=>by cases q⟩
  ·exact⟨_,ti,λ v q=>by cases q⟩
  ·exact⟨_,to,λ v q=>by cases q⟩
  ·exact⟨oa,ha,λ v q=>by rw [da] at q;cases q⟩
  ·exact⟨ob,hb,λ v q=>by rw [db] at q;cases q⟩
 keep:=λ i h h' st k=>⟨⟨_,k e (by simp) _ st.1.choose_spec⟩,st.2.keep λ c hc o q=>k c (List.mem_cons_of_mem _ hc) o q⟩
 item:=by
  intro X hP hw hK hc i pins s σ H E I hf st hg;subst hP hw hK;obtain⟨xs,ys,x,y,hq,Ji,hx,hy⟩:=hg;obtain⟨its,rv,p,hz⟩:=I.list hq;obtain⟨ø,Oo,p2,SS⟩:=I.tuple Ji;obtain⟨u,hu,ru⟩:=rv.get hx;obtain⟨v,hv,Vw⟩:=Oo.get hy;obtain⟨⟨old,he⟩,za⟩:=st;have M9:s.heap.IsTuple b ø.toArray:=by
   obtain⟨o,q,c,n,d⟩:=p2;exact⟨o,q,c,n,d⟩
  refine Cp D he za p.isList M9 (x:=u) (y:=v) (by simpa using hu) (by simpa using hv) ne λ h1 eo LU pr tu kk=>?_
  refine⟨_,rfl,wpAny_letOwnedTupleGo_enum (s:={ s with heap:=h1,toks:=s.toks+1 }) eo λ h2 KY sb=>?_⟩
  have KZ:Heap.SameBut e h1 h2:=sb;have el:=Heap.lt_size he;have na:s.heap.objs.size≠e:=Nat.ne_of_gt el;have nb:s.heap.objs.size+1≠e:=Nat.ne_of_gt (Nat.lt_succ_of_lt el);have Vx:IsPair h2 s.heap.objs.size u v:=(KZ.2 _ na).trans pr;have Vy:=(KZ.2 _ nb).trans tu;have f1:H s.heap.objs.size=none:=I.É.fresh (Nat.le_refl _);have f2:H (s.heap.objs.size+1)=none:=I.É.fresh (Nat.le_succ _);refine⟨.ref (s.heap.objs.size+1),ae (ae H s.heap.objs.size (.tup [x,y])) (s.heap.objs.size+1) (.tup [.int i,.ref s.heap.objs.size]),?_,rfl,⟨_,_,x,y,rfl,f1,f2,Nat.succ_ne_self _,rfl,λ xs' ŋ g1 g2=>⟨by rw [I.ğ g1 hq];exact hx,by rw [I.ĵ g2 Ji];exact hy⟩⟩,⟨⟨_,KY⟩,LU.keep λ c hc o q=>(KZ.2 c (ne c hc)).trans q⟩,λ c hc=>?_⟩
  ·refine vT (t':=s.toks+1) (ch:=[e,z,TI,TO,i1,i2]) I hf (λ c o hc q=>?_) ?_ ?_
   ·simp only [List.mem_cons,List.not_mem_nil,or_false,not_or] at hc;exact(KZ.2 c hc.1).trans (kk c o hc.1 hc.2.1 hc.2.2.2.1 hc.2.2.2.2.1 hc.2.2.2.2.2 q)
   ·exact⟨by show 2<=sizeLine;decide,[u,v],.cons ru (.cons Vw .nil),⟨_,Vx,rfl,_,rfl⟩⟩
   ·exact⟨by show 2<=sizeLine;decide,[.int i s.toks,.ref s.heap.objs.size],.cons ⟨_,rfl⟩ (.cons rfl .nil),⟨_,Vy,rfl,_,rfl⟩⟩
  ·have q:=hf c hc;have Jg:c<s.heap.objs.size:=by
    obtain⟨⟨f0,bb,zo,ow⟩,ti,⟨ta,tb,to⟩,⟨oa,ha,_,_⟩,⟨ob,hb,_,_⟩⟩:=za;simp only [List.mem_cons,List.not_mem_nil,or_false] at hc;rcases hc with rfl | rfl | rfl | rfl | rfl | rfl
    ·exact el
    ·exact Heap.lt_size zo
    ·exact Heap.lt_size ti
    ·exact Heap.lt_size to
    ·exact Heap.lt_size ha
    ·exact Heap.lt_size hb
   rw [ag (Nat.ne_of_lt (Nat.lt_succ_of_lt Jg)),ag (Nat.ne_of_lt Jg)];exact q.1
 done:=by
  intro X hP hw hK hc i pins s σ H E I hf st hg;subst hP hw hK;obtain⟨xs,ys,hq,Ji,hn⟩:=hg;obtain⟨its,rv,p,hz⟩:=I.list hq;obtain⟨ø,Oo,p2,SS⟩:=I.tuple Ji;obtain⟨⟨old,he⟩,za⟩:=st;have M9:s.heap.IsTuple b ø.toArray:=by
   obtain⟨o,q,c,n,d⟩:=p2;exact⟨o,q,c,n,d⟩
  have l1:=rv.length;have l2:=Oo.length;refine rH (I.ok.hd hc) D he za p.isList M9 ?_ λ h1 kk=>⟨rfl,vn (t':=s.toks) (ch:=[e,z,TI,TO,i1,i2]) I hf λ c o ŝ q=>?_⟩
  ·rcases hn with h | h
   ·exact .inl (by simp;omega)
   ·exact .inr (by simp;omega)
  ·simp only [List.mem_cons,List.not_mem_nil,or_false,not_or] at ŝ;exact kk c o ŝ.2.1 ŝ.2.2.2.1 ŝ.2.2.2.2.1 ŝ.2.2.2.2.2 q
 self:=λ _ _ _ _ _ st h=>wpAny_pyIter_enum st.1.choose_spec h
end My
namespace My
open PySem PySem.W L2
open PyProof.Rows (Call_ boot_enumerate)
theorem u9 {n l t:Nat}(h1:l<n)(h2:t<n):va (n+4) (n+2) (n+3) n (n+1) l t:=by
 constructor <;>(show(_:Nat)≠(_:Nat)) <;> omega
theorem v6 {c m n:Nat}(hm:m=n+5)(hc:c ∈ [n+4,n+2,n+3,n,n+1]):c≠m:=by
 simp only [List.mem_cons,List.not_mem_nil,or_false] at hc;omega
theorem wg {c m n:Nat}(hm:m=n+5)(hc:c ∈ [m,n+4,n+2,n+3,n,n+1]):n<=c:=by
 simp only [List.mem_cons,List.not_mem_nil,or_false] at hc;omega
section
variable {X:Cx}
def IC (K:Frag)(ta:TA):TI:=λ σ H R=>ta σ H λ vs H1=>∃ l t,vs=[.ref l,.ref t]/\(∃ xs,Ã K H1 l xs)/\(∃ ys,Ì K H1 t ys)/\R (EK K l t) H1
theorem Cu {elts:List Expr} {x1}{pt:Pos}{a b:Expr}{ta:TA}{p p2 pos IS:Pos}(hg:Gl X "enumerate")(hm:X.mg "enumerate" = none)(Vz:Gl X "zip")(LO:X.mg "zip" = none)(ha:PA X [a,b] ta)
  (hs:starEach [.Call (.Name "zip" p2) [a,b] [] IS] X.env=[(false,eval (.Call (.Name "zip" p2) [a,b] [] IS) X.env)]:=by rfl)(he:starEach (a :: [b]) X.env=(false,eval a X.env)::starEach [b] X.env:=by rfl)(ó:(backTo IS (starEach [b] X.env)).any (·.1)=false:=by rfl) :
  PI X (.Tuple elts x1 pt) (.Call (.Name "enumerate" p) [.Call (.Name "zip" p2) [a,b] [] IS] [] pos) (IC X.K ta):=by
 intro pins s σ H R I h;refine Call_ (gB I hg hm boot_enumerate (PyProof.Rows.callWith_type1 ?_ hs rfl));rw [hs];show wpAny _ _ (spliced ((false,eval (.Call (.Name "zip" p2) [a,b] [] IS) X.env) :: [])) _ _ s;refine Calls.spliced_cons (wpAny_Call_Name_kw (gB I Vz LO PyProof.Rows.boot_zip (PyProof.Rows.callWith_type1 (aT (ha IS pins s σ H _ I h) λ us s1 ⟨vs,H1,I1,r1,q1⟩=>?_) he ó)));obtain⟨l,t,rfl,⟨xs,hq⟩,⟨ys,Ji⟩,q⟩:=q1;cases r1 with
 | cons r rr =>
  cases r;cases rr with
  | cons r' VA =>
   cases r';cases VA;obtain⟨its,rv,pl,hz⟩:=I1.list hq;obtain⟨ø,Oo,M9,SS⟩:=I1.tuple Ji;have ht:s1.heap.IsTuple t ø.toArray:=by
    obtain⟨o,q,c,n,d⟩:=M9;exact⟨o,q,c,n,d⟩
   have VB:l<s1.heap.objs.size:=by
    obtain⟨o,q,_⟩:=pl.isList;exact Heap.lt_size q
   have Oh:t<s1.heap.objs.size:=by
    obtain⟨o,q,_⟩:=ht;exact Heap.lt_size q
   refine wD pl.isList ht λ h2 iz za SU k2=>Calls.spliced_nil ?_;refine qd (s:={ s1 with heap:=h2 }) iz λ h3 en M8 k3=>?_
   have M8:h3.objs.size=h2.objs.size+1:=M8;have en:IsEnum h3 h2.objs.size (s1.heap.objs.size+4) 0 .none:=en;have k3:∀ b o,h2.get? b=some o->h3.get? b=some o:=k3;refine wpAny_pyIter_enum en ?_;have D:va (s1.heap.objs.size+4) (s1.heap.objs.size+2) (s1.heap.objs.size+3) s1.heap.objs.size (s1.heap.objs.size+1) l t:=u9 VB Oh;refine⟨h2.objs.size,[h2.objs.size,s1.heap.objs.size+4,s1.heap.objs.size+2,s1.heap.objs.size+3,s1.heap.objs.size,s1.heap.objs.size+1],_,_,H1,rfl,I1.kept (t':=s1.toks) (λ c o e=>k3 _ _ (k2 _ _ e)),sH l t _ _ _ _ _ _ D (λ c hc=>?_),⟨⟨_,en⟩,za.keep λ c _ o e=>k3 c o e⟩,λ c hc=>?_,q⟩
   ·exact v6 (show h2.objs.size=s1.heap.objs.size+5 from SU) hc
   ·have le:s1.heap.objs.size<=c:=wg (show h2.objs.size=s1.heap.objs.size+5 from SU) hc;exact I1.Jq le (I1.É.fresh le)
end
theorem BL {K:Frag}{a b:Addr}{xs ys:List V}{g:TG}{tb:TS}{D:bA}{σ:St}{H:Hp}(Pv:Nat->St->Hp->Prop)(h0:Pv 0 σ H)(hl:∀ i σ H,i<=min xs.length ys.length->Pv i σ H->Ã K H a xs/\Ì K H b ys)
  (hs:∀ i x y σ H q p,xs[i]?=some x->ys[i]?=some y->Pv i σ H->H q=none->H p=none->p≠q->g (.ref p) σ (ae (ae H q (.tup [x,y])) p (.tup [.int i,.ref q])) λ Ù H2=>tb { D with nx:=Pv (i+1),ct:=Pv (i+1),bk:=D.nx } Ù H2)(hd:∀ σ H,Pv (min xs.length ys.length) σ H->D.nx σ H) :
  ∃ W:Nat->Nat->St->Hp->Prop,(∃ m,W 0 m σ H)/\∀ i m σ H,W i m σ H ->
   ((EK K a b).stop i H/\D.nx σ H)\/((EK K a b).go i H/\∃ N:St->Hp->Prop,(∀ Ï H',N Ï H'->∃ m',m'<m/\W (i+1) m' Ï H')/\∀ x H',(EK K a b).Ŋ i H x H'->g x σ H' λ Ù H2=>tb { D with nx:=N,ct:=N,bk:=D.nx } Ù H2):=by
 refine⟨λ i m σ H=>m=min xs.length ys.length-i/\i<=min xs.length ys.length/\Pv i σ H,⟨min xs.length ys.length,by omega,Nat.zero_le _,h0⟩,?_⟩
 rintro i m σ H ⟨rfl,hi,pv⟩;obtain⟨q1,q2⟩:=hl i σ H hi pv;by_cases þ:i<min xs.length ys.length
 ·have l1:i<xs.length:=by omega
  have l2:i<ys.length:=by omega
  refine .inr ⟨⟨xs,ys,xs[i],ys[i],q1,q2,List.getElem?_eq_getElem l1,List.getElem?_eq_getElem l2⟩,Pv (i+1),λ Ï H' n=>⟨min xs.length ys.length-(i+1),by omega,rfl,þ,n⟩,λ v H' yl=>?_⟩
  obtain⟨q,p,x,y,rfl,hq,hp,ne,rfl,at'⟩:=yl;obtain⟨e1,e2⟩:=at' xs ys q1 q2;exact hs i x y σ H q p e1 e2 pv hq hp ne
 ·have e:i=min xs.length ys.length:=by omega
  subst e;exact .inl ⟨⟨xs,ys,q1,q2,by omega⟩,hd σ H pv⟩
end My
namespace My
open PySem PySem.W L2
def R0.word:R0->Str
 | .split _ _ => "split"
 | .pairs _ _ _ => "pairs"
 | .æ _ _ _ _ => "coins"
theorem R0.ű (r:R0):r.word ≠ "first" /\ r.word ≠ "blocks" := by
 cases r with
 | split n k=>exact⟨(by decide +kernel:(("split" : String):Str)≠(("first" : String):Str)),(by decide +kernel:(("split" : String):Str)≠(("blocks" : String):Str))⟩
 | pairs n x y=>exact⟨(by decide +kernel:(("pairs" : String):Str)≠(("first" : String):Str)),(by decide +kernel:(("pairs" : String):Str)≠(("blocks" : String):Str))⟩
 | æ n x y f=>exact⟨(by decide +kernel:(("coins" : String):Str)≠(("first" : String):Str)),(by decide +kernel:(("coins" : String):Str)≠(("blocks" : String):Str))⟩
def R0.K5:R0->Bool
 | .pairs _ _ _=>true
 | _=>false
theorem R0.JJ (r:R0):decide (V.str r.word=V.str "pairs")=r.K5:=by
 cases r with
 | split n k=>exact decide_eq_false λ z=>absurd (V.str.inj z) (by decide +kernel:(("split" : String):Str)≠(("pairs" : String):Str))
 | pairs n x y=>exact decide_eq_true rfl
 | æ n x y f=>exact decide_eq_false λ z=>absurd (V.str.inj z) (by decide +kernel:(("coins" : String):Str)≠(("pairs" : String):Str))
def Rl.base:Rl->List R0
 | .one r=>[r]
 | .blocks rs=>rs
 | .first t _=>t.base
def Rl.high:Rl->Nat
 | .first t _=>t.high+1
 | _=>0
theorem kU {H:Hp}{v:V}{ds:List PyData}(r:Ð H v (.tuple ds)):∃ a xs,v=.ref a/\H a=some (.tup xs)/\Á H xs ds:=by
 cases r with
 | tup ha rs=>exact⟨_,_,rfl,ha,rs⟩
theorem gM {H:Hp}{v:V}{z:Str}{ds:List PyData}(r:Ð H v (.tuple (.str z::ds))):∃ a xs,v=.ref a/\H a=some (.tup (.str z::xs))/\Á H xs ds:=by
 obtain⟨a,xs,rfl,ha,rs⟩:=kU r;cases rs with
 | cons r1 rs=>cases r1;exact⟨a,_,rfl,ha,rs⟩
theorem R0.mark {H:Hp}{v:V}{r:R0}(h:Ð H v r.told):∃ a xs,v=.ref a/\H a=some (.tup (.str r.word::xs)):=by
 cases r with
 | split n k=>obtain⟨a,xs,e,ha,_⟩:=gM h;exact⟨a,xs,e,ha⟩
 | pairs n x y=>obtain⟨a,xs,e,ha,_⟩:=gM h;exact⟨a,xs,e,ha⟩
 | æ n x y f=>obtain⟨a,xs,e,ha,_⟩:=gM h;exact⟨a,xs,e,ha⟩
theorem og {H:Hp}{v:V}{t:Rl}{m:Int}(h:Ð H v (Rl.first t m).told):∃ a u w,v=.ref a/\H a=some (.tup [.str "first",u,w])/\Ð H u t.told:=by
 obtain⟨a,xs,rfl,ha,rs⟩:=gM h;cases rs with | cons r2 rs=>cases rs with | cons r3 rs=>cases rs;exact⟨a,_,_,rfl,ha,r2⟩
theorem nt {H:Hp}{v:V}{SV:List R0}(h:Ð H v (Rl.blocks SV).told):∃ a b ys,v=.ref a/\H a=some (.tup [.str "blocks",.ref b])/\H b=some (.tup ys)/\Á H ys (SV.map R0.told):=by
 obtain⟨a,xs,rfl,ha,rs⟩:=gM h;cases rs with | cons r2 rs=>cases rs;obtain⟨b,ys,rfl,hb,ry⟩:=kU r2;exact⟨a,b,ys,rfl,ha,hb,ry⟩
section
variable {P:Program}{w:World}{K:Frag}{mg:Str->Option Value}{base:Heap}{C:Nat->Addr}{CR f a1:Addr}{fd d1:FuncData}
abbrev Fr:Stmt:=bX 54
def E5 (C:Nat->Addr):Sp:=λ vs H Q _=>∃ v t,vs=[v]/\Ru C H t v/\∀ p ms H',Ext H H'->H' p=some (.tup ms)->Á H' ms (t.base.map R0.told)->Q (.ref p) H'
theorem Na:ad ["rule","mark"] ["rule"] (aa Fr):=aM
theorem DI (F:Ö K "block_marks" "block_marks" Fr f fd)(M:Ms P w K mg base C):Â P w K mg base av 2 f fd ["rule"] (E5 C):=by
 refine F.ok Na (λ vs H Q E h=>?_) (λ cdv A outer s H vs Q E hr h=>?_)
 ·obtain⟨_,_,rfl,_⟩:=h;rfl
 obtain⟨v,t,rfl,ru,q⟩:=h;have nd:=Na.nd;refine⟨_,cw (iI (i:=1) nd rfl (Or.inl rfl) (bB (pv 0) M.told hr aj))
  (cw (jF PassesOwn.never (ao cr (cy gF (pv 1) ay) aw (ar _)) (aY (iI (i:=1) nd rfl (Or.inl rfl) (cy gF (pv 1) ay))))
  (aY (cZ (nv (ao cr (cy gF (pv 1) ay) aw (ar _)) (cy gF (pv 1) ay) (aI (ac (pv 1) ak)))))),?_⟩
 refine cA (t:=t) (by decide +kernel) ru (λ R r=>⟨_,rfl,r⟩) ⟨v,t,H,rfl,Ext.refl _,ru,λ b rb=>?_⟩
 refine⟨λ n σ H'=>H'=H/\∃(t':Rl)(b':V),t'.high=n/\t'.base=t.base/\Ð H b' t'.told/\σ=[some v,some b'],⟨t.high,rfl,t,b,rfl,rfl,rb,rfl⟩,?_⟩;rintro n σ H' ⟨rfl,t',b',hh,hb,Oq,rfl⟩;cases t' with
 | one r =>
  obtain⟨a,xs,rfl,ha⟩:=R0.mark Oq;refine⟨_,rfl,a,_,_,_,rfl,rfl,Ì.of ha,cX (j:=0) rfl,rfl,_,rfl,?_⟩;rw [decide_eq_false (λ z=>r.ű.1 (V.str.inj z))];refine bY ⟨_,rfl,a,_,_,_,rfl,rfl,Ì.of ha,cX (j:=0) rfl,rfl,_,rfl,?_⟩;rw [decide_eq_false (λ z=>r.ű.2 (V.str.inj z))];refine bY ⟨_,rfl,by show 1<=sizeLine;decide,λ p hp=>?_⟩
  have x:=Ext.new (o:=.tup [.ref a]) hp;refine q p _ _ x aL ?_;rw [<- hb];exact .cons (Oq.mono x) .nil
 | blocks rs =>
  obtain⟨a,c,ys,rfl,ha,hc,ry⟩:=nt Oq;refine⟨_,rfl,a,_,_,_,rfl,rfl,Ì.of ha,cX (j:=0) rfl,rfl,_,rfl,?_⟩;rw [decide_eq_false (by intro z;exact absurd (V.str.inj z) (by decide +kernel))]
  refine bY ⟨_,rfl,a,_,_,_,rfl,rfl,Ì.of ha,cX (j:=0) rfl,rfl,_,rfl,?_⟩;rw [decide_eq_true rfl];refine cq ⟨_,rfl,a,_,_,_,rfl,rfl,Ì.of ha,cX (j:=1) rfl,?_⟩;refine q c ys _ (Ext.refl _) hc ?_;rw [<- hb];exact ry
 | first t2 m =>
  obtain⟨a,u,w',rfl,ha,J5⟩:=og Oq;refine⟨_,rfl,a,_,_,_,rfl,rfl,Ì.of ha,cX (j:=0) rfl,rfl,_,rfl,?_⟩;rw [decide_eq_true rfl];refine cq ⟨λ Ï H2=>∃ m',m'<n/\H2=H'/\∃(t':Rl)(b':V),t'.high=m'/\t'.base=t.base/\Ð H' b' t'.told/\Ï=[some v,some b'],λ Ï H2 h=>?_,?_⟩
  ·obtain⟨m',lt,e,r⟩:=h;exact⟨m',lt,e,r⟩
  ·refine⟨_,rfl,a,_,_,_,rfl,rfl,Ì.of ha,cX (j:=1) rfl,?_⟩;exact⟨t2.high,by rw [<- hh];exact Nat.lt_succ_self _,rfl,t2,u,rfl,hb,J5,rfl⟩
def nN (t:Rl):List Bool:=List.zipWith (λ (p:List Int)(r:R0)=>r.K5&&decide (p.length%2=0)) t.parts t.base
abbrev Fk:Stmt:=bX 55
def B8 (C:Nat->Addr)(CN:Addr):Sp:=λ vs H Q E=>∃ v t,vs=[v]/\Ru C H t v/\t.parts.length<=20/\(∀ p∈t.parts,p.length<=20)/\((nN t).all id=true->∀ H',Ext H H'->Q .Æ H')/\∀ i,cG (nN t) i->∀ H',Ext H H'->cS CN "block" (.int (i:Nat)) H' E
theorem Nb:ad ["rule","number","block","mark"] ["rule"] (aa Fk):=aM
theorem CL {D CN fC:Addr}{Ž:FuncData}(F:Ö K "need_pairs" "need_pairs" Fk f fd)(M:Ms P w K mg base C)(B:Ò K D)(T:fH K mg D "NoPairs" "block" CN fC Ž)(A1:Df P w K mg base av 2 "block_marks" ["rule"] (E5 C) a1 d1)(me:mg "enumerate" = none)(mz:mg "zip" = none)(ml:mg "len" = none):Â P w K mg base (cK P w) 3 f fd ["rule"] (B8 C CN):=by
 refine mk F Nb (λ vs H Q E h=>?_) (λ cdv A outer s H vs Q E hr h=>?_)
 ·obtain⟨_,_,rfl,_⟩:=h;rfl
 obtain⟨v,t,rfl,ru,Ő,SK,qn,qe⟩:=h;have nd:=Nb.nd;have Û:Ä 1 _:=hr.mono (by decide)
 refine⟨_,aY (bZ PassesOwn.leaving rfl (Cu rfl me rfl mz (ac (bB (pv 0) M.blocks Û aj) (ac (bU A1.G hr rfl A1.m A1.kp A1.b .nil aj (ac (pv 0) ak)) ak)))
   (bq rfl (dq (bV (i:=1) nd rfl (Or.inl rfl)) (dq (bq rfl (dq (bV (i:=2) nd rfl (Or.inl rfl)) (dq (bV (i:=3) nd rfl (Or.inl rfl)) aU))) aU)))
   (aY (bo (PW.pt (fD (ao jr (cy gF (pv 3) ay) aw (ar _)) (fc (ao cr (ax dC (am aG rfl ml PySem.boot_len (ac (pv 2) ak)) ay) ay (ar _)))))
    (aY (cQ B T.cls (T.ok P w base) hr T.bi rfl T.Kp (pv 1))) gG))),?_⟩
 refine cA (t:=t) (by decide +kernel) ru (λ R r=>⟨_,rfl,r⟩) ⟨v,t,rfl,ru,Ő,SK,λ l bs H1 x1 nl hl lb fb Mi VC=>?_⟩
 refine⟨_,rfl,v,t,rfl,ru.ext x1,λ p ms H2 x2 hp rm=>?_⟩;have J4:=x2 _ _ hl;have lm:=rm.length;rw [List.length_map] at lm;have len:(nN t).length=min (bs.map V.ref).length ms.length:=by
  unfold nN;rw [List.length_zipWith,List.length_map,Mi,lm]
 refine⟨l,p,rfl,⟨_,Ã.of J4⟩,⟨_,Ì.of hp⟩,BL (xs:=bs.map V.ref) (ys:=ms) (λ i σ H'=>Ext H2 H'/\(∀(j:Nat) b,j<i->(nN t)[j]?=some b->b=true)/\∃ o1 o2 o3,σ=[some v,o1,o2,o3]) ⟨Ext.refl _,λ j d h=>absurd h (Nat.not_lt_zero _),_,_,_,rfl⟩ ?_ ?_ ?_⟩
 ·rintro i σ H' _ ⟨x',_⟩;exact⟨Ã.of (x' _ _ J4),Ì.of (x' _ _ hp)⟩
 ·rintro i x y σ H' q1 p1 ex ey ⟨x',good,o1,o2,o3,rfl⟩ hq VD ne;have xa:=Ext.new (o:=.tup [x,y]) hq;have PZ:ae H' q1 (.tup [x,y]) p1=none:=by rw [ag ne];exact VD
  have xb:=Ext.new (o:=.tup [.int (i:Nat),.ref q1]) PZ;have x3:=(x'.trans xa).trans xb;have gq:=xb _ _ (show ae H' q1 (.tup [x,y]) q1=some (.tup [x,y]) from aL);have gp:ae (ae H' q1 (.tup [x,y])) p1 (.tup [.int (i:Nat),.ref q1]) p1=some (.tup [.int (i:Nat),.ref q1]):=aL;generalize ae (ae H' q1 (.tup [x,y])) p1 (.tup [.int (i:Nat),.ref q1])=H3 at x3 gq gp ⊢;rw [List.getElem?_map] at ex;obtain⟨b,eb,rfl⟩:=Option.map_eq_some_iff.mp ex;obtain⟨d,ed,rd⟩:=rm.get ey;rw [List.getElem?_map] at ed;obtain⟨r,er,rfl⟩:=Option.map_eq_some_iff.mp ed;have li:i<t.parts.length:=by rw [<- Mi];exact(List.getElem?_eq_some_iff.mp eb).1
  have ep:=List.getElem?_eq_getElem li;have hb:=x3 _ _ (x2 _ _ (VC i b _ eb ep));obtain⟨m,zs,rfl,hm⟩:=R0.mark (rd.mono x3);have em:(nN t)[i]?=some (r.K5&&decide (t.parts[i].length%2=0)):=by
   unfold nN;rw [List.getElem?_zipWith,ep,er]
  refine⟨p1,_,rfl,Ì.of gp,rfl,_,_,rfl,_,_,rfl,q1,_,rfl,Ì.of gq,rfl,_,_,rfl,_,_,rfl,rfl,rfl,?_⟩;have bad:(r.K5&&decide (t.parts[i].length%2=0))=false->cS CN "block" (.int (i:Nat)) H3 E:=λ e=>qe i ⟨good,by rw [em,e]⟩ _ ((x1.trans x2).trans x3)
  have next:(r.K5&&decide (t.parts[i].length%2=0))=true->(Ext H2 H3/\(∀(j:Nat) b,j<i+1->(nN t)[j]?=some b->b=true)):=λ e=>⟨x3,λ j d' hj hd=>by
   rcases Nat.lt_or_ge j i with lt | ge
   ·exact good j d' lt hd
   ·have e0:j=i:=by omega
    subst e0;rw [em,e] at hd;cases hd;rfl⟩
  refine⟨_,rfl,m,_,_,_,rfl,rfl,Ì.of hm,cX (j:=0) rfl,rfl,_,rfl,?_⟩;rw [R0.JJ];cases hp:r.K5 with
  | false=>exact cq (cq ⟨_,rfl,λ e' dx h1 h2 nd=>fE nd (bad (by rw [hp];rfl) e' dx h1 h2 nd)⟩)
  | true =>
   refine bY ⟨_,rfl,b,_,rfl,.inl (Ã.of hb),_,_,rfl,rfl,(by show(0:Int)<2;decide),rfl,_,rfl,?_⟩
   rw [List.length_map];by_cases e:t.parts[i].length%2=0
   ·rw [decide_eq_false (λ z=>by have z':=V.int.inj z;omega)]
    obtain⟨xx,gg⟩:=next (by rw [hp,decide_eq_true e];rfl)
    exact bY ⟨xx,gg,_,_,_,rfl⟩
   ·have one:((t.parts[i].length:Nat):Int)%2=1:=by omega
    rw [decide_eq_true (show V.int (((t.parts[i].length:Nat):Int)%2)=V.int 1 from by rw [one])]
    exact cq ⟨_,rfl,λ e' dx h1 h2 nd=>fE nd (bad (by rw [hp,decide_eq_false e];rfl) e' dx h1 h2 nd)⟩
 ·rintro σ H' ⟨x',good,o1,o2,o3,rfl⟩;refine qn ?_ H' ((x1.trans x2).trans x');rw [List.all_eq_true];intro d hd;obtain⟨j,hj,e⟩:=List.getElem_of_mem hd;exact good j d (by rw [<- len];exact hj) (by rw [List.getElem?_eq_getElem hj,e])
def lQ (H:Hp)(ns:List Int)(Q:VK):Prop:=∀ l H',Ext H H'->H l=none->H' l=some (.lst (ns.map V.int))->Q (.ref l) H'
abbrev uN:Stmt:=az (bX 57) 2
def ux (sc:List (Int × Bool)->List Int):Sp:=λ vs H Q _=>∃ v a xs os,vs=[v,.ref a]/\H a=some (.lst xs)/\ė H xs os/\os.length<=20/\lQ H (sc os) Q
theorem EW:ad ["self","outcomes"] ["self","outcomes"] (aa uN):=aM
abbrev CK:Scope:={ kind:=.function,names:=[(".0",.local),("number",.local),("sure",.local)],isGenerator:=false,isCoroutine:=false }
theorem rh {X:Cx}:bu X CK [] ["number","sure"] [] []:=by
 refine⟨rfl,rfl,by decide +kernel,by decide +kernel,by decide +kernel,(λ z c h=>nomatch h),(λ z h=>?_),by decide +kernel,(λ k z h=>by simp at h),rfl⟩
 exfalso;have h':List.lookup z [((".0" : Str),NameKind.local),(("number" : Str),NameKind.local),(("sure" : Str),NameKind.local)]=some .cell\/List.lookup z [((".0" : Str),NameKind.local),(("number" : Str),NameKind.local),(("sure" : Str),NameKind.local)]=some .free:=h;simp only [List.lookup_cons,List.lookup_nil] at h'
 repeat' (split at h')
 all_goals simp at h'
theorem wA:((["number","sure"]:List Str)++([]:List Str)).Nodup:=by decide +kernel
def uT (K:Frag):TG:=ib K 2 (bE (aW 0) (bE (aW 1) gI))
theorem pZ {i:Nat}{σ:St}{H:Hp}{a:Addr}{xs:List V}{os:List (Int × Bool)}{Q:VK}(si:σ[i]?=some (some (.ref a)))(ha:H a=some (.lst xs))(oc:ė H xs os)(lo:os.length<=20)(q:lQ H (os.map (·.1)) Q):eG (bC K (af i)) 2 [] (uT K) (af 0) σ H Q:=by
 obtain⟨lx,oc⟩:=oc;refine⟨_,si,a,rfl,⟨_,Ã.of ha⟩,λ D hD=>?_⟩;refine bQ (a:=a) (xs:=xs) (λ i ys H'=>Ext H H'/\ys=((os.take i).map (·.1)).map V.int) (by rw [sizeLine_eq];omega) ⟨Ext.new hD,rfl⟩ (λ i ys H' pv=>Ã.of (pv.1 _ _ ha)) ?_ ?_
 ·rintro i x ys H' ex ly Ô ⟨x',ey⟩ Ĺ á R k;obtain⟨o0,o1,rfl⟩:∃ o0 o1,Ĺ=[o0,o1]:=by
   match Ĺ,á with
   | [o0,o1],_=>exact⟨o0,o1,rfl⟩
  have li:i<os.length:=by rw [<- lx];exact(List.getElem?_eq_some_iff.mp ex).1
  have eo:=List.getElem?_eq_getElem li;obtain⟨p,rfl,hp⟩:=oc i x _ ex eo;refine⟨p,_,rfl,Ì.of (x' _ _ hp),rfl,_,_,rfl,_,_,rfl,rfl,⟨[some (.int os[i].1),some (.bl os[i].2)],rfl,rfl⟩,_,rfl,?_⟩;refine k _ H' Ô ⟨aP _ x' hD,?_⟩;rw [aA eo,List.map_append,List.map_append,<- ey];rfl
 ·rintro ys H' ly Ô ⟨x',ey⟩;rw [lx,List.take_length] at ey;rw [ey] at Ô;exact q D H' x' hD Ô
theorem AS (F:Ö K "among" "Sum.among" uN f fd):Â P w K mg base av 1 f fd ["self","outcomes"] (ux λ os=>os.map (·.1)):=by
 refine F.ok EW (λ vs H Q E h=>?_) (λ cdv A outer s H vs Q E hr h=>?_)
 ·obtain⟨_,_,_,_,rfl,_⟩:=h;rfl
 obtain⟨v,a,xs,os,rfl,ha,oc,lo,q⟩:=h;refine⟨_,aY (cZ (cR (te:=af 0) (g:=uT K) rfl rh (aR (pv 1)) (λ s H C fp=>by exact bq rfl (dq (bV (i:=0) wA rfl (.inl rfl)) (dq (bV (i:=1) wA rfl (.inl rfl)) aU))) (λ s H C fp=>by exact pv 0))),?_⟩
 exact pZ rfl ha oc lo q
variable {X:Cx}
def jz (K:Frag):List V->Hp->VK->Prop:=λ xs H Q=>∃(p:Addr)(ns:List Int),xs=[.ref p]/\Ã K H p (ns.map V.int)/\ns.length<64/\∀(l:Addr)(â:List Int),H l=none->â.Perm ns->â.Pairwise (· <= ·)->Q (.ref l) (ae H l (.lst (â.map V.int)))
theorem iW:cV X (.builtin "sorted") (jz X.K):=by
 intro pins s σ H xs us Q I r h;obtain⟨p,ns,rfl,hq,hl,q⟩:=h;obtain⟨u,rfl,rx⟩:=dY r;cases rx;obtain⟨its,r',pl,hz⟩:=I.list hq;have hlen:=r'.length;rw [List.length_map] at hlen;refine PyProof.Rows.sorted_ints (vs:=its) pl.isList (iX r') (by omega) λ out â a1 a2 a3=>?_
 obtain⟨e,he⟩:=PyProof.Rows.sortedAll_at s.heap its out;refine⟨.ref (s.heap.objs.size+1),_,I.laid (t':=s.toks) (λ _ _=>PyProof.Rows.sortedAll_old) (Nat.le_succ _) (show Å X.prog X.w _ _ _ (.lst (â.map V.int)) from⟨?_,out.toList,e,hZ a1,?_⟩),rfl,q _ â (I.É.fresh (Nat.le_succ _)) a2 a3⟩
 ·rw [List.length_map,a2.length_eq,sizeLine_eq];omega
 ·exact he
def pE (K:Frag):V->List V->Hp->VK->Prop:=λ x vs H Q=>∃(l:Addr)(ns:List Int)(k:Int),x=.ref l/\vs=[.int k]/\Ã K H l (ns.map V.int)/\k∈ns/\Q (.int (ns.idxOf k:Nat)) H
theorem pG:Gd X "list.index" (pE X.K):=by
 intro pins s σ H x vs v us Q I rx rv h;obtain⟨l,ns,k,rfl,rfl,hl,hk,q⟩:=h;cases rx;obtain⟨u,rfl,ru⟩:=dY rv;obtain⟨t,e⟩:=(show ∃ t,u=Value.int k t from ru);subst e;obtain⟨its,r,pl,hz⟩:=I.list hl;have hi:=iX r;obtain⟨⟨cls,dd,data,sl⟩,ho,hc,n,hd⟩:=id pl.isList;simp only at hc hd;subst hc hd;have hlen:=hi.length;have hj:ns.idxOf k<ns.length:=List.idxOf_lt_length_iff.mpr hk;have Oi:ns.length<=16777216:=by rw [List.length_map,sizeLine_eq] at hz;exact hz
 refine call_meets PySem.F.slot_list_index ⟨_,ho,rfl⟩ PySem.F.entry_list_index (PySem.F.args_list_index_2 _ _)
  (SeqAt.list_indexAt l its.toArray n dd sl (.int k t) (PyProof.Rows.isInt k) (ns.idxOf k) (by simpa [hlen] using hj) (by omega) ?_ ?_) ⟨ho,λ y hy=>(PyProof.Rows.eq_isInt k t hi y (by simpa using hy)).at _ _,⟨.int _,H,I.tok _,⟨_,rfl⟩,q⟩⟩
 ·show PyProof.Rows.isInt k its[ns.idxOf k]=true;rw [PyProof.Rows.isInt_at k hi _ (by omega) hj]
  simpa using List.getElem_idxOf hj
 ·intro j hjs þ;have h1:j<ns.length:=by omega
  show PyProof.Rows.isInt k (its[j]'(by omega))=false
  rw [PyProof.Rows.isInt_at k hi _ (by omega) h1]
  have:=List.not_of_lt_findIdx þ
  simpa using this
end
end My
namespace My
open PySem L2
section
variable {prog:Program}{w:World}{A:Around}{R:Result->Shared->Prop}{s:Shared}
theorem oA {kx vx target iter:Expr}{scope:Scope}{pos:Pos}{it:Value}{D:Addr}{env:Env}(J:Nat->Shared->Prop)
  (turn:∀ n s,J n s->wpAny (model prog w) A (pyNext it) (λ r Ç=>match r with
   | none=>R (.ok .next) Ç
   | some v=>wpAny (model prog w) A (letOwnedTupleGo target it v) (λ _ ï=>wpAny (model prog w) A (assign target env v) (λ _ ď=>wpAny (model prog w) A (eval kx env)
     (λ kv Ŏ=>wpAny (model prog w) A (eval vx env) (λ vv ŏ=>wpAny (model prog w) A (dictSet D kv vv) (λ _ Nc=>∃ m,m<n/\J m Nc) (λ _ _=>False) ŏ) (λ _ _=>False) Ŏ) (λ _ _=>False) ď) (λ _ _=>False) ï) (λ _ _=>False) Ç) (λ _ _=>False) s)
  (n:Nat)(h:J n s):codeAny (model prog w) A (.compLoop (.DictComp kx vx [⟨target,iter,[],0⟩] scope pos) 0 it (.ref D) env) R s:=by
 refine codeAny_loop rfl J (λ n s hJ=>?_) n h;show wpAny _ _ (Sem.onRaise (compTurn (.DictComp kx vx [⟨target,iter,[],0⟩] scope pos) 0 it (.ref D) env) (λ x=>do noteFrame x env;theTreesLotGoes x)) _ _ s
 refine wpAny_noted ?_;rw [compTurn_dict];refine wpAny_bind (wpAny_standAt (wpAny_bind (wpAny_mono (turn n s hJ) (λ r Ç Ü=>?_) λ _ _ z=>z.elim)));cases r with
 | none=>exact wpAny_pure Ü
 | some v =>
  refine wpAny_bind (wpAny_mono Ü (λ _ ï ļ=>?_) λ _ _ z=>z.elim);refine wpAny_bind (wpAny_mono ļ (λ _ ď ţ=>?_) λ _ _ z=>z.elim);refine wpAny_bind (wpAny_pure ?_);exact wpAny_bind (wpAny_bind (wpAny_mono ţ (λ kv Ŏ JD=>wpAny_bind (wpAny_holding (wpAny_mono JD (λ vv ŏ JE=>wpAny_bind (wpAny_standAt (wpAny_holding (wpAny_mono JE (λ _ Nc P0=>wpAny_pure ⟨rfl,P0⟩) λ _ _ z=>z.elim)))) λ _ _ z=>z.elim))) λ _ _ z=>z.elim))
variable {X:Cx}
theorem yy {pins:List (Addr × Obj)}{σ:St}{H:Hp}{s:Shared}{a:Addr}{kvs:List (Key × V)}{k:Key}{v:V}{u r:Value}{A:Around}{E:Value->Shared->Prop}{Q:Unit->Shared->Prop}(I:Inv X pins σ H s)(e:H a=some (.dK kvs))(l:kvs.length<sizeLine)(ry:RelV (kV k) u)(rv:RelV v r)
  (h:∀ s',Inv X pins σ (ae H a (.dK (dQ kvs k v))) s'->Q () s'):wpAny (model X.prog X.w) A (dictSet a u r) Q E s:=by
 obtain⟨z,hd,vs,rel,dd⟩:=wT I.É e;refine wpAny_dictSet_pairs (pV ry) dd (λ h' Jw hs=>h _ ?_) (by rw [<- rel.length];exact z)
 have he:∃ q,h'.get? a=some q:=let ⟨q,_,_,hq,_⟩:=Jw;⟨q,hq⟩
 exact kP I (by rw [e];exact True.intro) hs he (tT (by have:=dk kvs k v;omega) hd (rel.put k rv) Jw)
end
def Dt (wi:TI)(k:Nat)(js:List Nat)(g:TG)(tk tv:TE):TE:=λ σ H Q=>wi σ H λ J H1=>∀ D,H1 D=none->∃ W:Nat->Nat->List (Key × V)->Hp->Prop,(∃ m,W 0 m [] (ae H1 D (.dK []))) /\
 ∀ i m ys H2,W i m ys H2->H2 D=some (.dK ys)/\((J.stop i H2/\Q (.ref D) H2)\/(J.go i H2/\ys.length<sizeLine /\
  ∀ x H3,J.Ŋ i H2 x H3->∀ os:St,os.length=k->g x (os++cJ js σ) H3 λ Ù H0=>(∃ ß:St,ß.length=k/\Ù = ß ++ cJ js σ)/\tk Ù H0 λ y H4=>tv Ù H4 λ v H5=>∃ key,y=kV key/\H5 D=some (.dK ys)/\∃ m',m'<m/\W (i+1) m' (dQ ys key v) (ae H5 D (.dK (dQ ys key v)))))
section
variable {X:Cx}{sc:Scope}{cl:List (Str × Addr)}{ts zs:List Str}{js:List Nat}{kx vx iter:Expr}{pos:Pos}{tg:Expr}{g:TG}{wi:TI}{tk tv:TE}
theorem zT (hc:X.calm=true)(S:bu X sc cl ts zs js)(hi:PI X tg iter wi)(hg:∀ s H C fp,PG (bv X sc cl (ts++zs) s H C fp) tg g)(hk:∀ s H C fp,PE (bv X sc cl (ts++zs) s H C fp) kx tk)(hv:∀ s H C fp,PE (bv X sc cl (ts++zs) s H C fp) vx tv)
  (hs:∀ v,foldedSetIterable iter X.env v=pure v:=by intro _;rfl):PE X (.DictComp kx vx [⟨tg,iter,[],0⟩] sc pos) (Dt wi ts.length js g tk tv):=by
 intro pins s σ H Q I h;rw [arm_eval_DictComp];refine wpAny_comprehension_free (use:=none) rfl hs S.Ď S.kind S.names (aT (hi pins s σ H _ I h) λ v s1 h1=>aT h1 λ LA s2 h2=>?_);obtain⟨it,fp,tn,J,H2,e,I2,T,Į,f2,body⟩:=h2;subst e;have Kl:H2 s2.heap.objs.size=none:=I2.fresh;obtain⟨W,⟨m0,w0⟩,turn⟩:=body _ Kl;refine wpAny_newObj_type ?_;have I3:Inv X pins σ (ae H2 s2.heap.objs.size (.dK [])) { s2 with heap:=s2.heap.push { cls:=.type "dict",data:=.dict #[] } }:=I2.laid (a:=s2.heap.objs.size) (o:=.dK []) (t':=s2.toks) (λ _ _ q=>Heap.get?_push_of_some _ q) (Nat.le_refl _) (nj s2.heap I2.big)
 refine wpAny_newFunctionEnv S.ľ (by intro y hy;simp at hy) (λ Ü hn Ű=>?_) S.kind
 generalize Ŀ:({ s2 with heap:=s2.heap.push { cls:=.type "dict",data:=.dict #[] } }:Shared)=s3 at I3 hn Ű ⊢
 have ě:∀ b∈fp,dh X pins (ae H2 s2.heap.objs.size (.dK [])) b/\b<s3.heap.objs.size:=λ b hb=>by
  obtain⟨o,ho,_⟩:=T.obj _ _ Į b hb;have hl:=Heap.lt_size ho;have Km:b≠s2.heap.objs.size:=Nat.ne_of_lt hl;obtain⟨z1,z2⟩:=f2 b hb;refine⟨⟨by rw [ag Km];exact z1,z2⟩,?_⟩
  rw [<- Ŀ];show b<(s2.heap.push _).objs.size;rw [Heap.size_push];exact Nat.lt_succ_of_lt hl
 have old:∀ b o,s3.heap.get? b=some o->Ü.get? b=some o:=λ b o e=>Ű.extBut b o (Nat.ne_of_lt (Heap.lt_size e)) (Heap.get?_push_of_some _ e);have loop:∀ sS:Shared,sS.heap = Ü->sS.os=s3.os->sS.gens=s3.gens->codeAny (model X.prog X.w) X.A (.compLoop (.DictComp kx vx [⟨tg,iter,[],0⟩] sc pos) 0 (.ref it) (.ref s2.heap.objs.size) (compEnvC sc cl s3.heap.objs.size X.env))
   (compPost (model X.prog X.w) X.A X.xe none (EP X pins σ Q) (.ref s2.heap.objs.size) s3.heap.objs.size) sS:=by
  intro sS eh eo eg;subst eh;have J0:Inv (bv X sc cl (ts++zs) s3 (ae H2 s2.heap.objs.size (.dK [])) s3.heap.objs.size fp) [] (List.replicate ts.length none++cJ js σ) (ae H2 s2.heap.objs.size (.dK [])) sS:=dW I3 S ě (Nat.le_refl _) eo eg old hn;generalize hX:bv X sc cl (ts++zs) s3 (ae H2 s2.heap.objs.size (.dK [])) s3.heap.objs.size fp=X' at J0;have ê:∀{H':Hp},(∀ b∈fp,H' b=none)->∀ b∈fp,dh X' [] H' b:=λ {H'} hn b hb=>by
   subst hX;obtain⟨⟨_,z1,z2,z3,z4,z5⟩,z6⟩:=ě b hb;refine⟨hn b hb,Nat.ne_of_lt z6,λ q=>?_,.inl hb,λ y c e=>z4 y c (S.sub _ _ e),λ p hp=>absurd (show p∈([]:List (Addr × Obj)) from hp) (by simp)⟩
   rcases List.mem_cons.mp (I3.î b q) with e | e
   ·exact z1 e
   ·exact z2 e
  have Je:tn 0 sS.heap:=T.keep _ _ _ Į λ b hb o e=>old b o (by rw [<- Ŀ];exact Heap.get?_push_of_some _ e)
  refine oA (λ n s'=>∃ i ys os H',os.length=ts.length/\Inv X' [] (os++cJ js σ) H' s'/\tn i s'.heap/\(∀ b∈fp,H' b=none)/\W i n ys H') ?_ m0 ⟨0,[],_,_,List.length_replicate,J0,Je,λ b hb=>(ě b hb).1.1,w0⟩;rintro n s' ⟨i,ys,os,H',á,Iv,st,fr,w⟩;obtain⟨hD,alt⟩:=turn i n ys H' w;have eP:X'.prog=X.prog:=by subst hX;rfl
  have eW:X'.w=X.w:=by subst hX;rfl
  have eK:X'.K=X.K:=by subst hX;rfl
  have eC:X'.calm=true:=by subst hX;exact hc
  have eA:X'.A=X.A:=by subst hX;rfl
  have eE:X'.env=compEnvC sc cl s3.heap.objs.size X.env:=by subst hX;rfl
  have eX:X'.xe = λ _ _=>False:=by subst hX;rfl
  rcases alt with⟨stop,q⟩ | ⟨go,hlen,step⟩
  ·have d:=T.done X' eP eW eK eC i [] s' _ H' (λ _ _=>False) Iv (ê fr) st stop;rw [eA] at d;refine aT d λ r s4 ⟨hr,I4⟩=>?_;subst hr;obtain⟨m,hm,_⟩:=id I4.loc;rw [eE] at hm;subst hX;exact⟨m,hm,λ h' JG=>⟨.ref s2.heap.objs.size,H',gk I3 ě (Nat.le_refl _) I4 JG,rfl,q⟩⟩
  ·have d:=T.item X' eP eW eK eC i [] s' _ H' (λ _ _=>False) Iv (ê fr) st go;rw [eA] at d;refine aT d λ r s4 ⟨u,hr,h4⟩=>?_;subst hr;refine aT h4 λ _ s5 ⟨y,H5,I5,r5,y5,ĕ,Jr⟩=>?_;have Js:=I5.pinned (ê Jr) (T.obj _ _ ĕ);have Kn:PG X' tg g:=by subst hX;exact hg _ _ _ _
   have g6:=Kn _ s5 _ H5 y u _ Js r5 (step y H5 y5 os á);rw [eP,eW,eA,eE,eX] at g6;refine aT g6 λ _ s6 ⟨Mg,H6,I6,⟨ß,į,e6⟩,Ko⟩=>?_;subst e6;have Ou:PE X' kx tk:=by subst hX;exact hk _ _ _ _
   have g7:=Ou _ s6 _ H6 _ I6 Ko;rw [eP,eW,eA,eE,eX] at g7;refine aT g7 λ ku s7 ⟨k7,H7,I7,Qa,VE⟩=>?_;have KS:PE X' vx tv:=by subst hX;exact hv _ _ _ _
   have g8:=KS _ s7 _ H7 _ I7 VE;rw [eP,eW,eA,eE,eX] at g8;refine aT g8 λ uv s8 ⟨v8,VF,VG,r8,key,ek,VH,m',ť,w8⟩=>?_;subst ek;have g9:=yy (X:=X') (A:=X'.A) (E:=X'.xe) (Q:=λ _ s9=>Inv X' _ _ (ae VF s2.heap.objs.size (.dK (dQ ys key v8))) s9) VG VH hlen Qa r8 λ s9 I9=>I9;rw [eP,eW,eA,eX] at g9;refine aT g9 λ _ s9 I8=>?_;refine⟨m',ť,i+1,dQ ys key v8,ß,_,į,I8.à,T.keep _ _ _ ĕ λ b hb o e=>(I8.pin (b,o) (List.mem_append_right _ (List.mem_append_right _ (aZ hb e)))).1,λ b hb=>?_,w8⟩;obtain⟨o',e',_⟩:=T.obj _ _ ĕ b hb;exact(I8.pin (b,o') (List.mem_append_right _ (List.mem_append_right _ (aZ hb e')))).2.1
 have Jg:tn 0 Ü:=T.keep _ _ _ Į λ b hb o e=>old b o (by rw [<- Ŀ];exact Heap.get?_push_of_some _ e)
 exact codeAny_compStart_dict (loop _ rfl rfl rfl) (T.self _ 0 _ _ _ Jg (loop _ rfl rfl rfl))
end
end My
namespace My
open PySem PySem.W L2
theorem mT {n z:Str}{a c:Addr}(h:List.lookup z [(n,a)]=some c):z=n/\c=a:=by
 rw [List.lookup_cons] at h;cases e:z==n with
 | true=>rw [e] at h;exact⟨beq_iff_eq.mp e,(Option.some.inj h).symm⟩
 | false=>rw [e] at h;cases h
theorem oq {X:Cx}{sc:Scope}{ts:List Str}{z0:Str}{c0:Addr}{j:Nat}{L:List (Str × NameKind)}(Ď:closureFor sc X.env=pure [(z0,c0)])(kind:sc.kind=.function)(nc:∀ y∈sc.names,y.2 ≠ .cell)(nm:∀ y∈sc.names,y.2=.local->sc.names.lookup y.1=some .local)(var:∀ x∈ts,sc.names.lookup x=some .local)
  (hc:X.env.cells.lookup z0=some c0)(rl:(relabel sc X.env).names=L)(has:∀ y∈L,(y.2=.cell\/y.2=.free)->y.1=z0)(nd:(ts ++ [z0]).Nodup)(hj:X.N[j]?=some z0)(VI:w4 X.env.scope z0)(nl:X.env.kindOf z0≠some .local)(cf:L.lookup z0=some .cell\/L.lookup z0=some .free):bu X sc [(z0,c0)] ts [z0] [j]:=by
 refine⟨Ď,kind,nc,nm,var,λ z c h=>?_,λ z h=>?_,nd,λ k z h=>?_,rfl⟩
 ·obtain⟨rfl,rfl⟩:=mT h;exact hc
 ·rw [rl] at h;have:z=z0:=by
   rcases h with h | h
   ·exact has _ (PySem.mem_of_lookup h) (.inl rfl)
   ·exact has _ (PySem.mem_of_lookup h) (.inr rfl)
  subst this;exact⟨c0,by rw [List.lookup_cons,beq_self_eq_true]⟩
 ·match k,h with
  | 0,h =>
   have h:some z0=some z:=h;cases h;exact⟨j,rfl,hj,VI,nl,by rw [rl];exact cf⟩
  | k+1,h=>simp at h
theorem lL {X:Cx}{sc:Scope}{ts:List Str}{L:List (Str × NameKind)}(Ď:closureFor sc X.env=pure [])(kind:sc.kind=.function)(nc:∀ y∈sc.names,y.2 ≠ .cell)(nm:∀ y∈sc.names,y.2=.local->sc.names.lookup y.1=some .local)(var:∀ x∈ts,sc.names.lookup x=some .local)
  (rl:(relabel sc X.env).names=L)(has:∀ y∈L,¬(y.2=.cell\/y.2=.free))(nd:(ts ++ []).Nodup):bu X sc [] ts [] []:=by
 refine⟨Ď,kind,nc,nm,var,(λ z c h=>by cases h),λ z h=>?_,nd,(λ k z h=>by simp at h),rfl⟩
 rw [rl] at h;rcases h with h | h
 ·exact absurd (.inl rfl) (has _ (PySem.mem_of_lookup h))
 ·exact absurd (.inr rfl) (has _ (PySem.mem_of_lookup h))
theorem El {n m z:Str}{a b c:Addr}(h:List.lookup z [(n,a),(m,b)]=some c):(z=n/\c=a)\/(z=m/\c=b):=by
 rw [List.lookup_cons] at h;cases e:z==n with
 | true=>rw [e] at h;exact .inl ⟨beq_iff_eq.mp e,(Option.some.inj h).symm⟩
 | false =>
  rw [e] at h;have h:List.lookup z [(m,b)]=some c:=h;rw [List.lookup_cons] at h;cases e2:z==m with
  | true=>rw [e2] at h;exact .inr ⟨beq_iff_eq.mp e2,(Option.some.inj h).symm⟩
  | false=>rw [e2] at h;cases h
theorem Bo {X:Cx}{sc:Scope}{ts:List Str}{z1 z2 y1 y2:Str}{c1 c2:Addr}{j1 j2:Nat}{L:List (Str × NameKind)}(Ď:closureFor sc X.env=pure [(y1,c1),(y2,c2)])(kind:sc.kind=.function)(nc:∀ y∈sc.names,y.2 ≠ .cell)(nm:∀ y∈sc.names,y.2=.local->sc.names.lookup y.1=some .local)(var:∀ x∈ts,sc.names.lookup x=some .local)
  (h1:X.env.cells.lookup y1=some c1)(h2:X.env.cells.lookup y2=some c2)(rl:(relabel sc X.env).names=L)(has:∀ y∈L,(y.2=.cell\/y.2=.free)->y.1=y1\/y.1=y2)(ny:y1≠y2)(nd:(ts ++ [z1,z2]).Nodup)
  (g1:X.N[j1]?=some z1)(g2:X.N[j2]?=some z2)(v1:w4 X.env.scope z1)(v2:w4 X.env.scope z2)(n1:X.env.kindOf z1≠some .local)(n2:X.env.kindOf z2≠some .local)(f1:L.lookup z1=some .cell\/L.lookup z1=some .free)(f2:L.lookup z2=some .cell\/L.lookup z2=some .free):bu X sc [(y1,c1),(y2,c2)] ts [z1,z2] [j1,j2]:=by
 refine⟨Ď,kind,nc,nm,var,λ z c h=>?_,λ z h=>?_,nd,λ k z h=>?_,rfl⟩
 ·rcases El h with⟨rfl,rfl⟩ | ⟨rfl,rfl⟩
  ·exact h1
  ·exact h2
 ·rw [rl] at h;have e:z=y1\/z=y2:=by
   rcases h with h | h
   ·exact has _ (PySem.mem_of_lookup h) (.inl rfl)
   ·exact has _ (PySem.mem_of_lookup h) (.inr rfl)
  rcases e with rfl | rfl
  ·exact⟨c1,by rw [List.lookup_cons,beq_self_eq_true]⟩
  ·refine⟨c2,?_⟩;rw [List.lookup_cons,beq_eq_false_iff_ne.mpr ny.symm];show List.lookup z [(z,c2)]=_;rw [List.lookup_cons,beq_self_eq_true]
 ·match k,h with
  | 0,h =>
   have h:some z1=some z:=h;cases h;exact⟨j1,rfl,g1,v1,n1,by rw [rl];exact f1⟩
  | 1,h =>
   have h:some z2=some z:=h;cases h;exact⟨j2,rfl,g2,v2,n2,by rw [rl];exact f2⟩
  | k+2,h=>simp at h
section
variable {P:Program}{w:World}{K:Frag}{mg:Str->Option Value}{base:Heap}{C:Nat->Addr}{CR f a1:Addr}{fd d1:FuncData}
abbrev ir:Stmt:=az (bX 58) 2
abbrev Fq:List Str:=["self","outcomes","numbers","firsts"]
theorem K6:ad Fq ["self","outcomes"] (aa ir):=aM
abbrev Dv:Scope:={ kind:=.function,names:=[(".0",.local),("number",.local),("numbers",.free)],isGenerator:=false,isCoroutine:=false }
abbrev B1:Scope:={ kind:=.function,names:=[(".0",.local),("number",.local),("sure",.local),("firsts",.free),("numbers",.free)],isGenerator:=false,isCoroutine:=false }
section
variable {cdv:Value}{A:Around}{outer:List Env}{s:Shared}{H:Hp}{E:XK}
theorem vg:bu (aV av P w K mg base Fq "Ranks.among" (aa ir) f cdv A outer s H E).ä Dv [("numbers",s.heap.objs.size+1)] ["number"] ["numbers"] [2] :=
 oq (L:=[(".0",.local),("number",.local),("numbers",.cell)]) rfl rfl (by decide +kernel) (by decide +kernel) (by decide +kernel) rfl rfl (by decide +kernel) (by decide +kernel) rfl (.inr (.inl rfl)) (by show(aa ir).names.lookup ("numbers" : Str)≠some NameKind.local;decide +kernel) (.inl rfl)
theorem wF:bu (aV av P w K mg base Fq "Ranks.among" (aa ir) f cdv A outer s H E).ä B1 [("numbers",s.heap.objs.size+1),("firsts",s.heap.objs.size+2)] ["number","sure"] ["firsts","numbers"] [3,2] :=
 Bo (L:=[(".0",.local),("number",.local),("sure",.local),("firsts",.cell),("numbers",.cell)]) rfl rfl (by decide +kernel) (by decide +kernel) (by decide +kernel) rfl rfl rfl (by decide +kernel) (by decide +kernel) (by decide +kernel) rfl rfl (.inr (.inl rfl)) (.inr (.inl rfl)) (by show(aa ir).names.lookup ("firsts" : Str)≠some NameKind.local;decide +kernel) (by show(aa ir).names.lookup ("numbers" : Str)≠some NameKind.local;decide +kernel) (.inl rfl) (.inl rfl)
end
theorem EX:((["number"]:List Str)++(["numbers"]:List Str)).Nodup:=by decide +kernel
theorem xv:((["number","sure"]:List Str)++(["firsts","numbers"]:List Str)).Nodup:=by decide +kernel
def Hv (K:Frag):TS:=cH (gH (jz K) (ah (eG (bC K (af 1)) 2 [] (uT K) (af 0)) aF)) (aW 2)
def Cm (K:Frag):TE:=aJ (c8 λ i j=>.int (i+j)) (q8 K "list" (pE K) (af 1) (ah (af 0) aF)) (tC (.int 1))
def C6 (K:Frag):TS:=cH (Dt (bC K (af 2)) 1 [2] (aW 0) (af 0) (Cm K)) (aW 3)
def AA (K:Frag):TE:=aJ (c8 λ i j=>.int (i-j)) (aJ (c8 λ i j=>.int (i+j)) (aJ (rI ÿ λ i j=>.int (i*j)) (tC (.int 2)) (pH (af 2) (af 0))) (q8 K "list" (oX K) (af 3) (ah (af 0) aF))) (tC (.int 1))
def ye (K:Frag):TS:=bN (eG (bC K (af 1)) 2 [3,2] (uT K) (AA K))
section
variable {cdv:Value}{A:Around}{outer:List Env}{s:Shared}{H:Hp}{E:XK}
abbrev qI (k:Nat)(q:Str)(st:Stmt)(A:Around)(s:Shared)(f:Addr)(c:Value):Prop:=Ä k (A.deeper (PyProof.Rows.envOfC q (aa st) s.heap.objs.size f c))
theorem zn (ms:mg "sorted" = none)(hr:qI 0 "Ranks.among" ir A s f cdv):Bx (ü (aV av P w K mg base Fq "Ranks.among" (aa ir) f cdv A outer s H E).ä (au ir) (aH (Hv K) (aH (C6 K) (ye K)))):=by
 have nd:=K6.nd;have hu:(A.deeper (PyProof.Rows.envOfC "Ranks.among" (aa ir) s.heap.objs.size f cdv)).units+1<cLine:=by have:=hr.un;omega
 exact cI ⟨iI (i:=2) nd rfl (Or.inr rfl) (am iW rfl ms PyProof.Rows.boot_sorted (ac (cR (te:=af 0) (g:=uT K) rfl rh (aR (pv 1)) (λ s H C fp=>by exact bq rfl (dq (bV (i:=0) wA rfl (.inl rfl)) (dq (bV (i:=1) wA rfl (.inl rfl)) aU))) (λ s H C fp=>by exact pv 0)) ak))⟩
  (cI ⟨iI (i:=3) nd rfl (Or.inr rfl) (zT (tk:=af 0) (tv:=Cm K) (g:=aW 0) rfl vg (aR (pv 2)) (λ s H C fp=>by exact bV (i:=0) EX rfl (.inl rfl)) (λ s H C fp=>by exact pv 0) (λ s H C fp=>by exact ax bt (dF PySem.F.plainAttrs_list PySem.F.slot_list_index PySem.F.type_list_index pG (pv 1) (ac (pv 0) ak)) ay))⟩
  (be ⟨cZ (cR (te:=AA K) (g:=uT K) rfl wF (aR (pv 1)) (λ s H C fp=>by exact bq rfl (dq (bV (i:=0) xv rfl (.inl rfl)) (dq (bV (i:=1) xv rfl (.inl rfl)) aU))) (λ s H C fp=>by exact ax fR (ax bt (ax eI ay (pk hu (pv 2) (pv 0))) (dF PySem.F.plainAttrs_list PySem.F.slot_list_count PySem.F.type_list_count nq (pv 3) (ac (pv 0) ak))) ay))⟩))
end
theorem jx:∀{l:List Int},l.Pairwise (· <= ·)->∀{n:Int},n∈l->l.idxOf n=l.countP (λ m=>decide (m<n))
 | [],_,_,h=>nomatch h
 | a::l,p,n,h=>by
  obtain⟨pa,pl⟩:=List.pairwise_cons.mp p;rw [List.idxOf_cons,List.countP_cons];by_cases e:a=n
  ·subst e;have z:l.countP (λ m=>decide (m<a))=0:=List.countP_eq_zero.mpr λ m hm=>by have:=pa m hm;simp;omega
   rw [z];simp
  ·have hn:n∈l:=by
    rcases List.mem_cons.mp h with z | z
    ·exact absurd z.symm e
    ·exact z
   have lt:a<n:=by have:=pa n hn;omega
   rw [show(a==n)=false from beq_eq_false_iff_ne.mpr e,jx pl hn];simp [lt]
def rk (ns:List Int)(n:Int):Int:=2*((ns.countP λ m=>decide (m<n))+1:Nat)+(ns.countP λ m=>decide (m=n):Nat)-1
theorem mX (ns:List Int)(n:Int):((ns.map V.int).countP λ z=>oS z (.int n))=ns.countP λ m=>decide (m=n):=by
 rw [List.countP_map];refine List.countP_congr λ m _=>?_;show(m==n)=true ↔ _;simp
theorem zE {r:List V->Hp->VK->Prop}{te:TE}{σ:St}{H:Hp}{Q:VK}(h:te σ H λ x H1=>r [x] H1 Q):gH r (ah te aF) σ H Q:=h
theorem BF (F:Ö K "among" "Ranks.among" ir f fd)(ms:mg "sorted" = none):Â P w K mg base av 1 f fd ["self","outcomes"] (ux λ os=>os.map λ o=>rk (os.map (·.1)) o.1):=by
 refine F.ok K6 (λ vs H Q E h=>?_) (λ cdv A outer s H vs Q E hr h=>?_)
 ·obtain⟨_,_,_,_,rfl,_⟩:=h;rfl
 obtain⟨v,a,xs,os,rfl,ha,oc,lo,q⟩:=h;obtain⟨JK⟩:=zn ms hr (f:=f) (cdv:=cdv) (A:=A) (outer:=outer) (s:=s) (H:=H) (E:=E) (P:=P) (w:=w) (base:=base);refine⟨_,JK,?_⟩;have lx:=oc.1;have sz:=sizeLine_eq;refine aQ (te:=gH (jz K) (ah (eG (bC K (af 1)) 2 [] (uT K) (af 0)) aF)) (i:=2) (D:=⟨_,Q,_,_⟩) ?_;refine zE (pZ (σ:=[some v,some (.ref a),none,none]) (i:=1) rfl ha oc lo λ l0 H0 x0 n0 g0=>?_);refine⟨l0,os.map (·.1),rfl,Ã.of g0,by rw [List.length_map];omega,λ l â hl pm pw=>?_⟩
 have x1:=Ext.new (o:=.lst (â.map V.int)) hl;have g1:ae H0 l (.lst (â.map V.int)) l=some (.lst (â.map V.int)):=aL;have Nd:=x0.trans x1;show aH (C6 K) (ye K) _ [some v,some (.ref a),some (.ref l),none] (ae H0 l (.lst (â.map V.int)));generalize ae H0 l (.lst (â.map V.int))=H1 at x1 g1 Nd ⊢;have ln:â.length<=20:=by rw [pm.length_eq,List.length_map];exact lo
 refine⟨_,rfl,l,rfl,⟨_,Ã.of g1⟩,λ D hD=>?_⟩;refine⟨λ i m ys H'=>m = â.length-i/\i <= â.length/\H' D=some (.dK ys)/\Ext H1 H'/\ys.length<=i/\∀ n ∈ â.take i,dR ys (.inl n)=some (.int ((â.idxOf n:Nat)+1)),⟨â.length,by omega,Nat.zero_le _,aL,Ext.new hD,Nat.le_refl _,λ n hn=>by simp at hn⟩,?_⟩
 rintro i m ys H2 ⟨rfl,hi,h2,x2,ly,kv⟩;refine⟨h2,?_⟩;have g2:=x2 _ _ g1;by_cases lt:i < â.length
 ·refine .inr ⟨⟨_,.int â[i],Ã.of g2,by rw [List.getElem?_map,List.getElem?_eq_getElem lt];rfl⟩,by omega,λ x H3 yl ß á=>?_⟩
  obtain⟨e,yl⟩:=yl;subst e;have ex:=yl _ (Ã.of g2);rw [List.getElem?_map,List.getElem?_eq_getElem lt] at ex;cases ex;obtain⟨o0,rfl⟩:∃ o0,ß=[o0]:=by
   match ß,á with
   | [o0],_=>exact⟨o0,rfl⟩
  have mem:â[i] ∈ â:=List.getElem_mem lt;refine⟨⟨[some (.int â[i])],rfl,rfl⟩,_,rfl,?_⟩;refine⟨_,rfl,.inl ⟨rfl,_,Ã.of g2⟩,_,rfl,l,â,â[i],rfl,rfl,Ã.of g2,mem,_,_,rfl,rfl,.inl â[i],rfl,h2,â.length-(i+1),by omega,rfl,lt,aL,aP _ x2 hD,?_,λ n hn=>?_⟩
  ·refine Nat.le_trans (dk ys (Key.inl â[i]) _) ?_;omega
  ·rw [mv];by_cases e:n = â[i]
   ·subst e;rw [if_pos rfl]
   ·rw [if_neg (λ z=>e (Key.inl.inj z))];refine kv n ?_;rw [List.take_succ_eq_append_getElem lt] at hn;rcases List.mem_append.mp hn with z | z
    ·exact z
    ·exact absurd (List.mem_singleton.mp z) e
 ·have e:i = â.length:=by omega
  subst e;refine .inl ⟨⟨_,Ã.of g2,by rw [List.length_map];exact Nat.le_refl _⟩,?_⟩
  rw [List.take_length] at kv;show ye K _ [some v,some (.ref a),some (.ref l),some (.ref D)] H2;have SW:=x2 _ _ (Nd _ _ ha);have Qb:∀(i:Nat) x o,xs[i]?=some x->os[i]?=some o->Fu H2 x o:=λ i x o h1 h2=>by
   obtain⟨p,e,hp⟩:=oc.2 i x o h1 h2;exact⟨p,e,x2 _ _ (Nd _ _ hp)⟩
  refine⟨_,rfl,a,rfl,⟨_,Ã.of SW⟩,λ E0 hE=>?_⟩;refine bQ (a:=a) (xs:=xs) (λ i ys H'=>Ext H2 H'/\ys=((os.take i).map λ o=>rk (os.map (·.1)) o.1).map V.int) (by omega) ⟨Ext.new hE,rfl⟩ (λ i ys H' pv=>Ã.of (pv.1 _ _ SW)) ?_ ?_
  ·rintro i x ŋ H' ex VJ Ô ⟨x',ey⟩ Ĺ á R k;obtain⟨o0,o1,rfl⟩:∃ o0 o1,Ĺ=[o0,o1]:=by
    match Ĺ,á with
    | [o0,o1],_=>exact⟨o0,o1,rfl⟩
   have li:i<os.length:=by rw [<- lx];exact(List.getElem?_eq_some_iff.mp ex).1
   have eo:=List.getElem?_eq_getElem li;obtain⟨p,rfl,hp⟩:=Qb i x _ ex eo;have mem:os[i].1 ∈ â:=pm.mem_iff.mpr (List.mem_map.mpr ⟨os[i],List.getElem_mem li,rfl⟩);have kn:=kv _ mem;refine⟨p,_,rfl,Ì.of (x' _ _ hp),rfl,_,_,rfl,_,_,rfl,rfl,⟨[some (.int os[i].1),some (.bl os[i].2)],rfl,rfl⟩,?_⟩;show AA K [some (.int os[i].1),some (.bl os[i].2),some (.ref D),some (.ref l)] H' R;have dg:Ţ H' D (.int os[i].1) (some (.int ((â.idxOf os[i].1:Nat)+1))):=by
    have z:=Ţ.k (k:=Key.inl os[i].1) (x' _ _ h2);rw [kn] at z;exact z
   refine jp (jp (jp ⟨_,rfl,_,rfl,D,_,rfl,dg,_,_,rfl,rfl,?_,_,rfl,.inl ⟨rfl,_,Ã.of (x' _ _ g2)⟩,_,rfl,l,_,_,rfl,rfl,Ã.of (x' _ _ g2),?_,rfl,_,_,rfl,rfl,_,_,rfl,rfl,?_⟩))
   ·exact .inl ⟨by decide,by decide⟩
   ·rw [List.all_map,List.all_eq_true];intro n _;rfl
   ·refine k _ H' Ô ⟨aP _ x' hE,?_⟩;rw [aA eo,List.map_append,List.map_append,<- ey];show _ = ŋ ++ [V.int (rk (os.map (·.1)) os[i].1)];have e1:rk (os.map (·.1)) os[i].1=2*((â.idxOf os[i].1:Nat)+1)+((â.map V.int).countP λ z=>oS z (.int os[i].1):Nat)-1:=by
     unfold rk;rw [mX,jx pw mem,pm.countP_eq,pm.countP_eq];omega
    rw [e1]
  ·rintro ŋ H' VJ Ô ⟨x',ey⟩;rw [lx,List.take_length] at ey;rw [ey] at Ô;have x3:=(Nd.trans x2).trans x';refine q E0 H' x3 ?_ Ô;cases e:H E0 with
   | none=>rfl
   | some o=>rw [(Nd.trans x2) _ _ e] at hE;cases hE
end
def eL (i:Nat):Nat:=if i%2=0 then i+1 else i-1
theorem sW (i:Nat)(h:i<20):Builtin.bitXor (i:Int) 1=(eL i:Nat):=by
 have all:∀ j:Nat,j<20->Builtin.bitXor (j:Int) 1=(eL j:Nat):=by decide +kernel
 exact all i h
theorem pL {i n:Nat}(h:i<n)(e:n%2=0):eL i<n:=by
 unfold eL;split <;> omega
section
variable {P:Program}{w:World}{K:Frag}{mg:Str->Option Value}{base:Heap}{C:Nat->Addr}{CO CR f a1:Addr}{fd d1:FuncData}
def nO (o p:Int × Bool):Int:=xI o.1 o.2 p.1 p.2
def iu (os:List (Int × Bool)):List Int:=os.mapIdx λ i o=>nO o (os.getD (eL i) (0,false))
abbrev kQ:Stmt:=az (bX 60) 2
theorem EZ:ad ["self","outcomes"] ["self","outcomes"] (aa kQ):=aM
abbrev Et:Scope:={ kind:=.function,names:=[(".0",.local),("at",.local),("one",.local),("stands_to",.globalImplicit),("outcomes",.free)],isGenerator:=false,isCoroutine:=false }
theorem EQ:((["at","one"]:List Str)++(["outcomes"]:List Str)).Nodup:=by decide +kernel
def wZ (K:Frag):Sp:=λ vs H Q _=>∃ v a xs os,vs=[v,.ref a]/\H a=some (.lst xs)/\ė H xs os/\(∀ o∈os,-99<=o.1/\o.1<=99)/\os.length<=20/\os.length%2=0/\lQ H (iu os) Q
def C5 (K:Frag)(CO:Addr):TE:=gn (mf K CO) [] E0 (ah (af 1) (ah (aJ (cT K) (af 2) (aJ (c8 λ i j=>.int (Builtin.bitXor i j)) (af 0) (tC (.int 1)))) aF))
section
variable {cdv:Value}{A:Around}{outer:List Env}{s:Shared}{H:Hp}{E:XK}
theorem Ax:bu (aV av P w K mg base ["self","outcomes"] "Signs.among" (aa kQ) f cdv A outer s H E).ä Et [("outcomes",s.heap.objs.size+1)] ["at","one"] ["outcomes"] [1] :=
 oq (L:=[(".0",.local),("at",.local),("one",.local),("stands_to",.globalImplicit),("outcomes",.cell)]) rfl rfl (by decide +kernel) (by decide +kernel) (by decide +kernel) rfl rfl (by decide +kernel) (by decide +kernel) rfl (.inr (.inl rfl)) (by show(aa kQ).names.lookup ("outcomes" : Str)≠some NameKind.local;decide +kernel) (.inl rfl)
theorem zj (A1:Df P w K mg base (cK P w) 5 "stands_to" ["one","other"] (mf K CO) a1 d1)(me:mg "enumerate" = none)(hr:qI 5 "Signs.among" kQ A s f cdv):Bx (ü (aV av P w K mg base ["self","outcomes"] "Signs.among" (aa kQ) f cdv A outer s H E).ä (au kQ) (bN (eG (lV K (ah (af 1) aF)) 2 [1] (uT K) (C5 K CO)))) :=
 be ⟨cZ (cR (te:=C5 K CO) (g:=uT K) rfl Ax (f6 rfl me (ac (pv 1) ak)) (λ s H C fp=>by exact bq rfl (dq (bV (i:=0) EQ rfl (.inl rfl)) (dq (bV (i:=1) EQ rfl (.inl rfl)) aU))) (λ s H C fp=>by exact bU A1.G hr rfl A1.m A1.kp A1.b .nil gr (ac (pv 1) (ac (cy fL (pv 2) (ax An (pv 0) ay)) ak))))⟩
end
theorem AR (F:Ö K "among" "Signs.among" kQ f fd)(A1:Df P w K mg base (cK P w) 5 "stands_to" ["one","other"] (mf K CO) a1 d1)(me:mg "enumerate" = none):Â P w K mg base av 6 f fd ["self","outcomes"] (wZ K):=by
 refine F.ok EZ (λ vs H Q E h=>?_) (λ cdv A outer s H vs Q E hr h=>?_)
 ·obtain⟨_,_,_,_,rfl,_⟩:=h;rfl
 obtain⟨v,a,xs,os,rfl,ha,oc,bd,lo,ev,q⟩:=h;obtain⟨JK⟩:=zj A1 me hr (f:=f) (cdv:=cdv) (A:=A) (outer:=outer) (s:=s) (H:=H) (E:=E) (P:=P) (w:=w) (base:=base);refine⟨_,JK,?_⟩;obtain⟨lx,oc⟩:=oc;have sz:=sizeLine_eq;have ot:∀{H':Hp}{i:Nat}{b:Addr},Ext H H'->(hi:i<os.length)->H' b=some (.tup [.int os[i].1,.bl os[i].2])->Ot K H' (.ref b) true:=λ {H' i b} x' hi hb=>by
  have:=bd os[i] (List.getElem_mem hi);refine .inl ⟨.tuple [.int os[i].1,.bool os[i].2],.tup hb (.cons (.int _) (.cons (.bl _) .nil)),?_⟩;show true=((decide ((-99:Int)<=os[i].1)&&decide (os[i].1<=99))&&true);rw [decide_eq_true this.1,decide_eq_true this.2];rfl
 refine⟨_,rfl,a,rfl,⟨_,Ã.of ha⟩,λ D hD=>?_⟩;refine sO (a:=a) (xs:=xs) (λ i ys H'=>Ext H H'/\ys=((iu os).take i).map V.int) (by omega) ⟨Ext.new hD,rfl⟩ (λ i ys H' pv=>Ã.of (pv.1 _ _ ha)) ?_ ?_
 ·rintro i x ys H' p ex ly Ô ⟨x',ey⟩ hp Ĺ á R k;obtain⟨o0,o1,rfl⟩:∃ o0 o1,Ĺ=[o0,o1]:=by
   match Ĺ,á with
   | [o0,o1],_=>exact⟨o0,o1,rfl⟩
  have xp:=Ext.new (o:=.tup [.int (i:Nat),x]) hp;have gp:ae H' p (.tup [.int (i:Nat),x]) p=some (.tup [.int (i:Nat),x]):=aL;have ĥ:=xp _ _ Ô;have x2:=x'.trans xp;generalize ae H' p (.tup [.int (i:Nat),x])=H2 at xp gp ĥ x2 ⊢;have li:i<os.length:=by rw [<- lx];exact(List.getElem?_eq_some_iff.mp ex).1
  have lm:=pL li ev;have SX:eL i<xs.length:=by rw [lx];exact lm
  obtain⟨b,rfl,hb⟩:=oc i x _ ex (List.getElem?_eq_getElem li);obtain⟨b2,e2,ĺ⟩:=oc (eL i) xs[eL i] _ (List.getElem?_eq_getElem SX) (List.getElem?_eq_getElem lm);have em:uf xs (Builtin.bitXor (i:Int) 1)=some (.ref b2):=by
   rw [sW i (by omega),<- e2]
   exact cX (List.getElem?_eq_getElem SX)
  refine⟨p,_,rfl,Ì.of gp,rfl,_,_,rfl,_,_,rfl,rfl,⟨[some (.int (i:Nat)),some (.ref b)],rfl,rfl⟩,?_⟩;refine⟨_,rfl,_,rfl,_,rfl,_,_,rfl,rfl,a,_,_,_,rfl,rfl,Ã.of (x2 _ _ ha),em,.ref b,.ref b2,true,true,rfl,ot x2 li (x2 _ _ hb),ot x2 lm (x2 _ _ ĺ),(λ z=>by cases z),(λ _ z=>by cases z),λ a1 a2 n1 n2 s1 s2 q1 q2 t1 t2 _ _=>?_⟩
  cases q1;cases q2;rw [x2 _ _ hb] at t1;rw [x2 _ _ ĺ] at t2;cases t1;cases t2;refine k _ H2 ĥ ⟨aP _ x2 hD,?_⟩;have es:(iu os)[i]?=some (nO os[i] os[eL i]):=by
   unfold iu;rw [List.getElem?_mapIdx,List.getElem?_eq_getElem li];show some (nO os[i] (os.getD (eL i) (0,false)))=_;rw [List.getD_eq_getElem?_getD,List.getElem?_eq_getElem lm];rfl
  rw [aA es,List.map_append,<- ey];rfl
 ·rintro ys H' ly Ô ⟨x',ey⟩;have l2:(iu os).length=xs.length:=by unfold iu;rw [List.length_mapIdx,lx]
  rw [<- l2,List.take_length] at ey;rw [ey] at Ô;exact q D H' x' hD Ô
end
def aE:Nat->Str
 | 0 => "sum"
 | 1 => "ranks"
 | 2 => "wins"
 | _ => "signs"
def Me (MC:Nat->Addr)(H:Hp)(k:Nat)(v:V):Prop:=∃ a dx m,v=.ref a/\H a=some (.ins (MC k) dx [("mark",.ref m)])/\H m=some (.tup [.str (aE k)])
theorem Me.ext {MC:Nat->Addr}{H H':Hp}{k:Nat}{v:V}(h:Me MC H k v)(x:Ext H H'):Me MC H' k v:=by
 obtain⟨a,dx,m,e,ha,hm⟩:=h;exact⟨a,dx,m,e,x _ _ ha,x _ _ hm⟩
def j5 (MC:Nat->Addr)(c:Addr):Prop:=∃ i,i<4/\c=MC i
structure KM (K:Frag)(MC:Nat->Addr):Prop where
 cls:∀ i,i<4->Ķ K (MC i)
 no:∀ i,i<4->ö K (MC i) "mark"
section
variable {P:Program}{w:World}{K:Frag}{mg:Str->Option Value}{base:Heap}{C MC:Nat->Addr}{CO CR CF CU CN f a1 a2:Addr}{fd d1 d2:FuncData}
theorem eR {m:Str}{sp:Addr->Sp}{E:XK}{ta:TE}{t:TA}{σ:St}{H:Hp}{Q:VK}{k:Nat}{v:V}(hm:m ≠ "mark")(hk:k<4)(h:Me MC H k v)(ht:∀ R:VK,R v H->ta σ H R)(q:t σ H λ vs H2=>sp (MC k) (v::vs) H2 Q E):cE (j5 MC) m sp E ta t σ H Q:=by
 obtain⟨a,dx,m',rfl,ha,_⟩:=h;refine ht _ ⟨a,MC k,dx,_,rfl,⟨k,hk,rfl⟩,ha,?_,q⟩;show List.lookup m [(("mark" : Str),V.ref m')]=none;rw [List.lookup_cons,beq_eq_false_iff_ne.mpr hm];rfl
abbrev vF:Stmt:=az (bX 56) 1
def pj (MC:Nat->Addr):Sp:=λ vs H Q _=>∃ v k,vs=[v]/\k<4/\Me MC H k v/\Q (.str (aE k)) H
theorem EJ:ad ["self"] ["self"] (aa vF):=aM
theorem xH (Z:KM K MC)(F:Ö K "word" "Measure.word" vF f fd):Â P w K mg base av 1 f fd ["self"] (pj MC):=by
 refine F.ok EJ (λ vs H Q E h=>?_) (λ cdv A outer s H vs Q E hr h=>?_)
 ·obtain⟨_,_,rfl,_⟩:=h;rfl
 obtain⟨v,k,rfl,hk,⟨a,dx,m,rfl,ha,hm⟩,q⟩:=h;exact⟨_,aY (cZ (cy gF (ud (pv 0) rfl) ay)),_,rfl,a,_,dx,_,_,rfl,ha,Z.cls k hk,Z.no k hk,rfl,m,_,_,_,rfl,rfl,Ì.of hm,cX (j:=0) rfl,q⟩
abbrev wc:Stmt:=az (bX 56) 2
def p8 (MC:Nat->Addr):Sp:=λ vs H Q _=>∃ v k,vs=[v]/\k<4/\Me MC H k v/\∀ m,H m=some (.tup [.str (aE k)])->Q (.ref m) H
theorem EC:ad ["self"] ["self"] (aa wc):=aM
theorem AN (Z:KM K MC)(F:Ö K "told" "Measure.told" wc f fd):Â P w K mg base av 1 f fd ["self"] (p8 MC):=by
 refine F.ok EC (λ vs H Q E h=>?_) (λ cdv A outer s H vs Q E hr h=>?_)
 ·obtain⟨_,_,rfl,_⟩:=h;rfl
 obtain⟨v,k,rfl,hk,⟨a,dx,m,rfl,ha,hm⟩,q⟩:=h;exact⟨_,aY (cZ (ud (pv 0) rfl)),_,rfl,a,_,dx,_,_,rfl,ha,Z.cls k hk,Z.no k hk,rfl,q m hm⟩
abbrev uC:Stmt:=az (bX 57) 1
abbrev uW:Stmt:=az (bX 58) 1
abbrev uP:Stmt:=az (bX 60) 1
abbrev vh:Stmt:=az (bX 56) 4
theorem C7:ad ["self","rule","outcomes"] ["self","rule","outcomes"] (aa uC):=aM
theorem Ck:ad ["self","rule","outcomes"] ["self","rule","outcomes"] (aa uW):=aM
theorem BY:ad ["self","rule","outcomes"] ["self","rule","outcomes"] (aa uP):=aM
theorem DH:ad ["self","rule","outcomes"] ["self","rule","outcomes"] (aa vh):=aM
def vl (CU:Addr):Sp:=λ vs H Q E=>∃ v r a xs os,vs=[v,r,.ref a]/\H a=some (.lst xs)/\ė H xs os/\((os.map (·.2)).all id=true->∀ H',Ext H H'->Q .Æ H')/\∀ i,cG (os.map (·.2)) i->∀ H',Ext H H'->cS CU "place" (.int (i:Nat)) H' E
def Dy (C:Nat->Addr)(CN:Addr):Sp:=λ vs H Q E=>∃ v r o t,vs=[v,r,o]/\Ru C H t r/\t.parts.length<=20/\(∀ p∈t.parts,p.length<=20)/\((nN t).all id=true->∀ H',Ext H H'->Q .Æ H')/\∀ i,cG (nN t) i->∀ H',Ext H H'->cS CN "block" (.int (i:Nat)) H' E
def E7:Sp:=λ vs H Q _=>∃ v r o,vs=[v,r,o]/\Q .Æ H
theorem zt (F:Ö K "need_fit" "Sum.need_fit" uC f fd)(A1:Df P w K mg base (cK P w) 3 "need_sure" ["outcomes"] (sU CU) a1 d1):Â P w K mg base (cK P w) 4 f fd ["self","rule","outcomes"] (vl CU):=by
 refine mk F C7 (λ vs H Q E h=>?_) (λ cdv A outer s H vs Q E hr h=>?_)
 ·obtain⟨_,_,_,_,_,rfl,_⟩:=h;rfl
 obtain⟨v,r,a,xs,os,rfl,ha,oc,q1,q2⟩:=h;exact⟨_,aY (aq (bU A1.G hr rfl A1.m A1.kp A1.b .nil dm (ac (pv 2) ak))),_,rfl,a,xs,os,rfl,ha,oc,q1,q2⟩
theorem yC (F:Ö K "need_fit" "Ranks.need_fit" uW f fd)(A1:Df P w K mg base (cK P w) 3 "need_sure" ["outcomes"] (sU CU) a1 d1):Â P w K mg base (cK P w) 4 f fd ["self","rule","outcomes"] (vl CU):=by
 refine mk F Ck (λ vs H Q E h=>?_) (λ cdv A outer s H vs Q E hr h=>?_)
 ·obtain⟨_,_,_,_,_,rfl,_⟩:=h;rfl
 obtain⟨v,r,a,xs,os,rfl,ha,oc,q1,q2⟩:=h;exact⟨_,aY (aq (bU A1.G hr rfl A1.m A1.kp A1.b .nil dm (ac (pv 2) ak))),_,rfl,a,xs,os,rfl,ha,oc,q1,q2⟩
theorem yK (F:Ö K "need_fit" "Signs.need_fit" uP f fd)(A1:Df P w K mg base (cK P w) 3 "need_pairs" ["rule"] (B8 C CN) a1 d1):Â P w K mg base (cK P w) 4 f fd ["self","rule","outcomes"] (Dy C CN):=by
 refine mk F BY (λ vs H Q E h=>?_) (λ cdv A outer s H vs Q E hr h=>?_)
 ·obtain⟨_,_,_,_,rfl,_⟩:=h;rfl
 obtain⟨v,r,o,t,rfl,ru,l1,l2,q1,q2⟩:=h;exact⟨_,aY (aq (bU A1.G hr rfl A1.m A1.kp A1.b .nil dm (ac (pv 1) ak))),_,rfl,r,t,rfl,ru,l1,l2,q1,q2⟩
theorem Bw (F:Ö K "need_fit" "Measure.need_fit" vh f fd):Â P w K mg base av 1 f fd ["self","rule","outcomes"] E7:=by
 refine F.ok DH (λ vs H Q E h=>?_) (λ cdv A outer s H vs Q E hr h=>?_)
 ·obtain⟨_,_,_,rfl,_⟩:=h;rfl
 obtain⟨v,r,o,rfl,q⟩:=h;exact⟨_,aY vp,q⟩
end
def lK (os:List (Int × Bool)):List Int:=os.map λ o=>(os.map λ p=>nO o p).sum
def tw:Nat->List (Int × Bool)->List Int
 | 0,os=>os.map (·.1)
 | 1,os=>os.map λ o=>rk (os.map (·.1)) o.1
 | 2,os=>lK os
 | _,os=>iu os
def oR:Nat->Rl->List (Int × Bool)->List Bool
 | 0,_,os=>os.map (·.2)
 | 1,_,os=>os.map (·.2)
 | 2,_,_=>[]
 | _,t,_=>nN t
def oO (CU CN:Addr)(k:Nat):Addr:=if k=3 then CN else CU
def oI (k:Nat):Str:=if k=3 then "block" else "place"
section
variable {P:Program}{w:World}{K:Frag}{mg:Str->Option Value}{base:Heap}{C MC:Nat->Addr}{CO CR CF CU CN f a1 a2:Addr}{fd d1 d2:FuncData}
structure Go (H:Hp)(k:Nat)(a:Addr)(os:List (Int × Bool)):Prop where
 ex:∃ xs,H a=some (.lst xs)/\ė H xs os
 bd:∀ o∈os,-99<=o.1/\o.1<=99
 ln:os.length<=20
 ev:k=3->os.length%2=0
theorem Go.ext {H H':Hp}{k:Nat}{a:Addr}{os:List (Int × Bool)}(h:Go H k a os)(x:Ext H H'):Go H' k a os:=by
 obtain⟨⟨xs,ha,l,oc⟩,b,c,d⟩:=h;refine⟨⟨xs,x _ _ ha,l,λ i y o h1 h2=>?_⟩,b,c,d⟩;obtain⟨p,e,hp⟩:=oc i y o h1 h2;exact⟨p,e,x _ _ hp⟩
def jW (MC:Nat->Addr)(c:Addr):Sp:=λ vs H Q _=>∃ k v a os,k<4/\c=MC k/\vs=[v,.ref a]/\Go H k a os/\lQ H (tw k os) Q
def nH (MC:Nat->Addr)(c:Addr):Sp:=λ vs H Q _=>∃ k v r a os,k<4/\c=MC k/\vs=[v,r,.ref a]/\Me MC H k v/\Go H k a os/\lQ H (tw k os) Q
def jB (C MC:Nat->Addr)(CU CN c:Addr):Sp:=λ vs H Q E=>∃ k v r t a xs os,k<4/\c=MC k/\vs=[v,r,.ref a]/\Ru C H t r/\t.parts.length<=20/\(∀ p∈t.parts,p.length<=20)/\H a=some (.lst xs)/\ė H xs os/\((oR k t os).all id=true->∀ H',Ext H H'->Q .Æ H')/\∀ i,cG (oR k t os) i->∀ H',Ext H H'->cS (oO CU CN k) (oI k) (.int (i:Nat)) H' E
abbrev wG:Stmt:=az (bX 56) 5
theorem Ci:ad ["self","rule","outcomes"] ["self","rule","outcomes"] (aa wG):=aM
def tR (MC:Nat->Addr):Sp:=λ vs H Q E=>∃ c,nH MC c vs H Q E
theorem Av (F:Ö K "scored" "Measure.scored" wG f fd)(M:bJ P w K mg base av 7 "among" ["self","outcomes"] (j5 MC) (jW MC)):Â P w K mg base av 8 f fd ["self","rule","outcomes"] (tR MC):=by
 refine F.ok Ci (λ vs H Q E h=>?_) (λ cdv A outer s H vs Q E hr h=>?_)
 ·obtain⟨_,_,_,_,_,_,_,_,rfl,_⟩:=h;rfl
 obtain⟨c,k,v,r,a,os,hk,rfl,rfl,me,go,q⟩:=h;refine⟨_,aY (cZ (gR (pv 0) M hr aj (ac (pv 2) ak))),?_⟩;exact eR (by decide +kernel) hk me (λ R r=>⟨_,rfl,r⟩) ⟨_,rfl,k,v,a,os,hk,rfl,rfl,go,q⟩
abbrev ww:Stmt:=az (bX 56) 3
theorem Dc:ad ["self","rule","outcomes"] ["self","rule","outcomes"] (aa ww):=aM
def jZ (C MC:Nat->Addr)(CU CN:Addr):Sp:=λ vs H Q E=>∃ k v r t a xs os,k<4/\vs=[v,r,.ref a]/\Me MC H k v/\Ru C H t r/\t.parts.length<=20/\(∀ p∈t.parts,p.length<=20)/\H a=some (.lst xs)/\ė H xs os/\(∀ o∈os,-99<=o.1/\o.1<=99)/\os.length<=20/\t.À =(os.length:Nat)/\(k=3->(nN t).all id=true->os.length%2=0) /\
 ((oR k t os).all id=true->lQ H (tw k os) Q)/\∀ i,cG (oR k t os) i->∀ H',Ext H H'->cS (oO CU CN k) (oI k) (.int (i:Nat)) H' E
theorem Bn (F:Ö K "scores" "Measure.scores" ww f fd)(Mr:Ms P w K mg base C)(A1:Df P w K mg base (cK P w) 6 "need_outcomes_of" ["thing","folk"] (w5 K CF CO) a1 d1)(M1:bJ P w K mg base (cK P w) 5 "need_fit" ["self","rule","outcomes"] (j5 MC) (jB C MC CU CN))(M2:bJ P w K mg base av 8 "scored" ["self","rule","outcomes"] (j5 MC) (nH MC)) :
  Â P w K mg base (cK P w) 9 f fd ["self","rule","outcomes"] (jZ C MC CU CN):=by
 refine mk F Dc (λ vs H Q E h=>?_) (λ cdv A outer s H vs Q E hr h=>?_)
 ·obtain⟨_,_,_,_,_,_,_,_,rfl,_⟩:=h;rfl
 obtain⟨k,v,r,t,a,xs,os,hk,rfl,me,ru,l1,l2,ha,oc,bd,lo,fk,ev,q1,q2⟩:=h;have Û:Ä 1 _:=hr.mono (by decide)
 have JL:Ä 5 _:=hr.mono (by decide)
 have VL:Ä 6 _:=hr.mono (by decide)
 refine⟨_,cw (aq (bU A1.G VL rfl A1.m A1.kp A1.b .nil dm (ac (pv 2) (ac (bB (pv 1) Mr.À Û aj) ak))))
  (cw (aq (gR (pv 0) M1 JL dm (ac (pv 1) (ac (pv 2) ak))))
  (aY (cZ (gR (pv 0) M2 hr aj (ac (pv 1) (ac (pv 2) ak)))))),?_⟩
 have lx:=oc.1;have ot:sf K H xs (os.map λ _=>true):=by
  refine⟨by rw [List.length_map];exact lx,λ i x hx=>?_⟩
  have li:i<os.length:=by rw [<- lx];exact(List.getElem?_eq_some_iff.mp hx).1
  obtain⟨b,rfl,hb⟩:=oc.2 i x _ hx (List.getElem?_eq_getElem li);have z:=bd os[i] (List.getElem_mem li);refine⟨true,by rw [List.getElem?_map,List.getElem?_eq_getElem li];rfl,.inl ⟨.tuple [.int os[i].1,.bool os[i].2],.tup hb (.cons (.int _) (.cons (.bl _) .nil)),?_⟩⟩
  show true=((decide ((-99:Int)<=os[i].1)&&decide (os[i].1<=99))&&true);rw [decide_eq_true z.1,decide_eq_true z.2];rfl
 refine⟨_,rfl,cA (t:=t) (by decide +kernel) ru (λ R r=>⟨_,rfl,r⟩) ⟨r,t,rfl,ru,?_⟩⟩
 refine⟨.ref a,t.À,rfl,.inr ⟨a,xs,_,rfl,ha,ot,λ _ H1 x1=>?_,λ i fi=>?_⟩⟩
 ·rw [if_pos (by rw [fk,lx])]
  show cE (j5 MC) "need_fit" (jB C MC CU CN) _ (af 0) (ah (af 1) (ah (af 2) aF)) [some v,some r,some (.ref a)] H1 _;refine eR (by decide +kernel) hk (me.ext x1) (λ R r=>⟨_,rfl,r⟩) ⟨_,rfl,_,rfl,k,v,r,t,a,xs,os,hk,rfl,rfl,ru.ext x1,l1,l2,x1 _ _ ha,?_,λ al H2 x2=>?_,λ i fi H2 x2=>q2 i fi H2 (x1.trans x2)⟩
  ·refine⟨lx,λ i y o h1 h2=>?_⟩;obtain⟨p,e,hp⟩:=oc.2 i y o h1 h2;exact⟨p,e,x1 _ _ hp⟩
  ·have ç:=x1.trans x2;have go:Go H k a os:=⟨⟨xs,ha,oc⟩,bd,lo,λ e=>ev e (by subst e;exact al)⟩
   show cE (j5 MC) "scored" (nH MC) _ (af 0) (ah (af 1) (ah (af 2) aF)) [some v,some r,some (.ref a)] H2 _;refine eR (by decide +kernel) hk (me.ext ç) (λ R r=>⟨_,rfl,r⟩) ⟨_,rfl,_,rfl,k,v,r,a,os,hk,rfl,rfl,me.ext ç,go.ext ç,λ l H3 x3 nl hl=>?_⟩
   refine q1 al l H3 (ç.trans x3) ?_ hl;cases e:H l with
   | none=>rfl
   | some o=>rw [ç _ _ e] at nl;cases nl
 ·exfalso;have z:=fi.2;rw [List.getElem?_map] at z;obtain⟨_,_,z⟩:=Option.map_eq_some_iff.mp z;cases z
end
end My
namespace My
open PySem L2
structure pB (X:Cx)(sc:Scope)(cl:List (Str × Addr))(x:Str)(ts zs:List Str)(js:List Nat):Prop where
 Ď:closureFor sc X.env=pure cl
 kind:sc.kind=.function
 cells:∀ C:Nat,cellsFrom C sc.names cl=(x,C)::cl
 names:∀ y∈sc.names,y.2=.local->sc.names.lookup y.1=some .local
 VM:x∈ts
 sub:∀ z c,cl.lookup z=some c->X.env.cells.lookup z=some c
 has:∀ z,((relabel sc X.env).names.lookup z=some .cell\/(relabel sc X.env).names.lookup z=some .free)->z=x\/∃ c,cl.lookup z=some c
 nd:(ts++zs).Nodup
 cap:∀(k:Nat)(z:Str),zs[k]?=some z->∃ j:Nat,js[k]?=some j/\X.N[j]?=some z/\w4 X.env.scope z/\X.env.kindOf z≠some .local /\
  ((relabel sc X.env).names.lookup z=some .cell\/(relabel sc X.env).names.lookup z=some .free)
 len:js.length=zs.length
def dX (X:Cx)(sc:Scope)(cl:List (Str × Addr))(x:Str)(N:List Str)(s:Shared)(H:Hp)(C:Addr)(fp:List Addr):Cx where
 prog:=X.prog
 w:=X.w
 K:=X.K
 mg:=X.mg
 base:=X.base
 A:=X.A
 N:=N
 ã:=s
 ŵ:=H
 env:=compEnvC sc ((x,C+1)::cl) C X.env
 outer:=X.stack
 stack:=X.stack
 ex:=fp
 fn:=λ y=>y==x
 calm:=X.calm
 pn:=[]
 xe:=λ _ _=>False
theorem fu {z x:Str}{c d:Addr}{cl:List (Str × Addr)}(h:List.lookup z ((x,d)::cl)=some c):(z=x/\c=d)\/(z≠x/\cl.lookup z=some c):=by
 rw [List.lookup_cons] at h;cases e:z==x with
 | true=>rw [e] at h;exact .inl ⟨beq_iff_eq.mp e,(Option.some.inj h).symm⟩
 | false=>rw [e] at h;exact .inr ⟨beq_eq_false_iff_ne.mp e,h⟩
theorem kZ {z x:Str}{c d:Addr}{cl:List (Str × Addr)}(n:z≠x)(h:cl.lookup z=some c):List.lookup z ((x,d)::cl)=some c:=by
 rw [List.lookup_cons,beq_eq_false_iff_ne.mpr n];exact h
theorem iM {x:Str}{d:Addr}{cl:List (Str × Addr)}:List.lookup x ((x,d)::cl)=some d:=by
 rw [List.lookup_cons,beq_self_eq_true]
theorem qt {M:Model}{A:Around}{E:Value->Shared->Prop}{s:Shared}{scope:Scope}{globals:Addr}{cl:List (Str × Addr)}{qual:Str}{outer:Env}{Q:Env->Shared->Prop}
  (hQ:∀ h',h'.Ns s.heap.objs.size (λ _=>none)->(∀ b o,s.heap.get? b=some o->h'.get? b=some o)->(∀ n c,(n,c)∈cellsFrom (s.heap.objs.size+1) scope.names []->h'.IsCell c none) ->
   Q { scope:=scope,locals:=s.heap.objs.size,globals:=globals,cells:=cellsFrom (s.heap.objs.size+1) scope.names cl,qual:=qual,func:=none,code:=outer.code,frame:=outer.frame,builtins:=outer.builtins } { s with heap:=h' }) :
  wpAny M A (newFunctionEnv scope globals cl [] qual none .none (some outer)) Q E s:=by
 simp only [newFunctionEnv,Option.isSome_some,if_true];refine wpAny_bind (wpAny_alloc ?_);refine wpAny_bind (wpAny_layCells _ (λ name kind cells=>by cases VN:kind==NameKind.cell <;> simp [VN]) _ _ _ _ ?_)
 have ok:=cellsFrom_ok scope.names (s.heap.push { cls:=.type "dict",data:=.dict #[] }) (s.heap.objs.size+1) [] ⟨λ _ _ hm=>(nomatch hm),List.Pairwise.nil⟩ (by rw [Heap.size_push];exact Nat.le_refl _)
 rw [Heap.size_push] at ok;rw [show({ s with heap:=s.heap.push { cls:=.type "dict",data:=.dict #[] } }:Shared).heap.objs.size=s.heap.objs.size+1 from Heap.size_push ..]
 refine wpAny_bind ?_;rw [List.forIn_nil];exact wpAny_pure (wpAny_pure (hQ _ ((Heap.Ns.new s.heap (.type "dict")).keeps (pushCells_keeps _ _)) (λ b o e=>pushCells_keeps _ _ b o (Heap.get?_push_of_some _ e)) λ n c hm=>(ok.empty n c hm).1))
theorem c6:∀(names:List (Str × NameKind))(n:Nat)(acc:List (Str × Addr)),cellsFrom n names acc=cellsFrom n names []++acc
 | [],_,_=>rfl
 | (name,kind)::r,n,acc=>by
  unfold cellsFrom;split
  ·rw [c6 r (n+1) ((name,n)::acc),c6 r (n+1) [(name,n)],List.append_assoc];rfl
  ·exact c6 r n acc
section
variable {X:Cx}{pins:List (Addr × Obj)}{σ:St}{H:Hp}{s:Shared}{sc:Scope}{cl:List (Str × Addr)}{x:Str}{ts zs:List Str}{js:List Nat}{C:Addr}{fp:List Addr}
theorem t8 (I:Inv X pins σ H s)(S:pB X sc cl x ts zs js)(hf:∀ b∈fp,dh X pins H b/\b<s.heap.objs.size)(hC:s.heap.objs.size<=C):(dX X sc cl x (ts++zs) s H C fp).Ok:=by
 have nc:∀ z,X.env.cells.lookup z≠some (C+1):=λ z e=>by
  obtain⟨v,hv⟩:=I.cell z _ e;exact absurd hv.lt (Nat.not_lt.mpr (Nat.le_succ_of_le hC))
 refine⟨I.ok.mod,S.kind,I.ok.glob,I.ok.blt,hC,λ y z c h1 h2=>?_,λ z h=>?_,λ z c hx h=>?_,I.ok.hd,I.ok.frames,.inl rfl,λ b hb=>?_,I.bs,?_,λ b o e hb=>?_,λ b hb hs=>?_,I.stack,I.Ě⟩
 ·rcases fu h1 with⟨e1,e2⟩ | ⟨e1,e2⟩ <;> rcases fu h2 with⟨e3,e4⟩ | ⟨e3,e4⟩
  ·exact e1.trans e3.symm
  ·exact absurd (S.sub _ _ e4) (by rw [e2];exact nc z)
  ·exact absurd (S.sub _ _ e2) (by rw [e4];exact nc y)
  ·exact I.ok.inj y z c (S.sub _ _ e2) (S.sub _ _ e4)
 ·by_cases e:z=x
  ·subst e;exact⟨C+1,iM⟩
  ·rcases S.has z h with q | ⟨c,q⟩
   ·exact absurd q e
   ·exact⟨c,kZ e q⟩
 ·have ez:z=x:=beq_iff_eq.mp hx;subst ez;rcases fu h with⟨_,e2⟩ | ⟨e1,_⟩
  ·rw [e2];exact Nat.le_succ_of_le hC
  ·exact absurd rfl e1
 ·obtain⟨⟨_,h1,_,_,h4,_⟩,h6⟩:=hf b hb;refine⟨λ e=>absurd h6 (Nat.not_lt.mpr (by rw [show b=C from e];exact hC)),λ z c e=>?_⟩
  rcases fu e with⟨_,e2⟩ | ⟨_,e2⟩
  ·intro q;rw [<- q,e2] at h6;exact absurd h6 (Nat.not_lt.mpr (Nat.le_succ_of_le hC))
  ·exact h4 z c (S.sub _ _ e2)
 ·exact Nat.le_trans I.ok.Ŭ I.sz
 ·obtain⟨⟨_,_,_,h3,_⟩,_⟩:=hf b hb;rcases h3 with h | h
  ·exact I.ok.Ļ b o e h
  ·exact absurd (Heap.lt_size e) (Nat.not_lt.mpr (Nat.le_trans I.ok.Ŭ h))
 ·obtain⟨⟨_,h1,h2,_⟩,_⟩:=hf b hb;rcases List.mem_cons.mp (I.î b hs) with e | e
  ·exact h1 e
  ·exact h2 e
theorem l7 {s1:Shared}(I:Inv X pins σ H s)(S:pB X sc cl x ts zs js)(hf:∀ b∈fp,dh X pins H b/\b<s.heap.objs.size)(hC:s.heap.objs.size<=C)(ho:s1.os=s.os)(hg:s1.gens=s.gens)
  (hk:∀ b o,s.heap.get? b=some o->s1.heap.get? b=some o){m:Str->Option Value}(hn:s1.heap.Ns C m)(Ğ:s1.heap.IsCell (C+1) none):Inv (dX X sc cl x (ts++zs) s H C fp) [] (List.replicate ts.length none++cJ js σ) H s1:=by
 refine⟨t8 I S hf hC,ho,by rw [hg];exact I.bare,Un.kept hk,⟨m,hn,λ i y v h1 h2 h3=>?_⟩,λ z c e=>?_,I.É.fresh hC,λ z c e=>?_,λ p hp=>absurd (show p∈([]:List (Addr × Obj)) from hp) (by simp),I.É.kept hk,?_⟩
 ·rcases Nat.lt_or_ge i ts.length with lt | ge
  ·rw [List.getElem?_append_left (by rw [List.length_replicate];exact lt),List.getElem?_replicate,if_pos lt] at h2
   cases h2
  ·have h1':zs[i-ts.length]?=some y:=by
    have JF:(ts++zs)[i]?=some y:=h1;rw [List.getElem?_append_right ge] at JF;exact JF
   obtain⟨j,hj,hN,hv,nl,k'⟩:=S.cap _ y h1';have LK:(cJ js σ)[i-ts.length]?=some (some v):=by
    rw [List.getElem?_append_right (by rw [List.length_replicate];exact ge),List.length_replicate] at h2
    exact h2
   have h5:σ[j]?=some (some v):=by
    unfold cJ at LK;rw [List.getElem?_map,hj] at LK;have h6:(σ[j]?).join=some v:=Option.some.inj LK;cases e:σ[j]? with
    | none=>rw [e] at h6;cases h6
    | some o=>rw [e] at h6;exact congrArg some h6
   obtain⟨m0,U7,hl⟩:=I.loc;obtain⟨u,ru,lk⟩:=hl j y v hN h5 hv;refine⟨u,ru,?_⟩;rcases lk with⟨k1,_⟩ | ⟨_,c,ec,hc⟩
   ·exact absurd k1 nl
   ·have yx:y≠x:=λ e=>by
     subst e;have hz:=List.mem_of_getElem? h1';exact(List.nodup_append.mp S.nd).2.2 y S.VM y hz rfl
    rcases S.has y k' with q | ⟨c',MR⟩
    ·exact absurd q yx
    have e2:=S.sub _ _ MR;rw [ec] at e2;cases e2;exact .inr ⟨k',c,kZ yx MR,hc.keeps hk⟩
 ·rcases fu e with⟨_,e2⟩ | ⟨_,e2⟩
  ·rw [e2];exact⟨none,Ğ⟩
  ·obtain⟨v,hv⟩:=I.cell z c (S.sub _ _ e2);exact⟨v,hv.keeps hk⟩
 ·rcases fu e with⟨_,e2⟩ | ⟨_,e2⟩
  ·rw [e2];exact I.É.fresh (Nat.le_succ_of_le hC)
  ·exact I.è z c (S.sub _ _ e2)
 ·show(List.replicate ts.length none++cJ js σ:St).length=(ts++zs).length;unfold cJ;rw [List.length_append,List.length_append,List.length_map,List.length_replicate,S.len]
theorem qr {s1:Shared}{Ï:St}{H':Hp}{h':Heap}(I:Inv X pins σ H s)(hf:∀ b∈fp,dh X pins H b/\b<s.heap.objs.size)(hC:s.heap.objs.size<=C)(J:Inv (dX X sc cl x (ts++zs) s H C fp) [] Ï H' s1)
  (hs:Heap.SameBut C s1.heap h'):Inv X pins σ H' { s1 with heap:=h' }:=by
 have old:∀ b o,s1.heap.get? b=some o->b≠C->h'.get? b=some o:=λ b o e n=>(hs.2 b n).trans e;have lt:∀{b o},s.heap.get? b=some o->b≠C:=λ {b o} e z=>by
  have q:=Heap.lt_size e;rw [z] at q;exact absurd q (Nat.not_lt.mpr hC)
 have B:=J.base;refine I.Ů (s':={ s1 with heap:=h' }) (ch:=fp) J.os ⟨λ b o e n hb hx=>old b o (B.keep b o e n hb hx) (lt e),λ b o e n hb hx=>?_,B.free,λ b o e hx=>?_,B.Ĝ,B.Ĕ,B.ĝ,B.sys⟩ (λ b o e=>?_) J.bare λ b hb=>?_
 ·obtain⟨sl,q⟩:=B.slot b o e n hb hx;exact⟨sl,old _ _ q (lt e)⟩
 ·obtain⟨o',q⟩:=B.there b o e hx;exact⟨o',old _ _ q (lt e)⟩
 ·have nC:∀ c u,H' c=some u->c≠C:=λ c u q z=>by
   have f:H' C=none:=J.free;rw [z,f] at q;cases q
  refine(J.É b o e).ē (λ c v hc q=>old c v q ?_) (λ _ q=>q) λ _ _ q=>q;rcases hc with rfl | hc
  ·exact nC _ _ e
  ·exact nC _ _ hc
 ·obtain⟨⟨_,h1,_,h3,h4,h5⟩,_⟩:=hf b hb;exact⟨h3,h1,h4,h5⟩
variable {elt iter:Expr}{pos:Pos}{tg:Expr}{g:TG}{wi:TI}{te:TE}
theorem zw (hc:X.calm=true)(S:pB X sc cl x ts zs js)(hi:PI X tg iter wi)(hg:∀ s H C fp,PG (dX X sc cl x (ts++zs) s H C fp) tg g)(he:∀ s H C fp,PE (dX X sc cl x (ts++zs) s H C fp) elt te)
  (hs:∀ v,foldedSetIterable iter X.env v=pure v:=by intro _;rfl):PE X (.ListComp elt [⟨tg,iter,[],0⟩] sc pos) (eG wi ts.length js g te):=by
 intro pins s σ H Q I h;rw [eval_ListComp];refine wpAny_comprehension_free (use:=none) rfl hs S.Ď S.kind S.names (aT (hi pins s σ H _ I h) λ v s1 h1=>aT h1 λ LA s2 h2=>?_);obtain⟨it,fp,tn,J,H2,e,I2,T,Į,f2,body⟩:=h2;subst e;have Kl:H2 s2.heap.objs.size=none:=I2.fresh;obtain⟨W,⟨m0,w0⟩,turn⟩:=body _ Kl;refine wpAny_newObj_type ?_;have I3:Inv X pins σ (ae H2 s2.heap.objs.size (.lst [])) { s2 with heap:=s2.heap.push { cls:=.type "list",data:=.seq ([]:List Value).toArray } }:=I2.Kg (t':=s2.toks) (ys:=[]) (its:=[]) .nil (Nat.zero_le _)
 refine qt (λ Ü hn K7 Ğ=>?_);rw [S.cells];generalize Ŀ:({ s2 with heap:=s2.heap.push { cls:=.type "list",data:=.seq ([]:List Value).toArray } }:Shared)=s3 at I3 hn K7 Ğ ⊢
 have ě:∀ b∈fp,dh X pins (ae H2 s2.heap.objs.size (.lst [])) b/\b<s3.heap.objs.size:=λ b hb=>by
  obtain⟨o,ho,_⟩:=T.obj _ _ Į b hb;have hl:=Heap.lt_size ho;have Km:b≠s2.heap.objs.size:=Nat.ne_of_lt hl;obtain⟨z1,z2⟩:=f2 b hb;refine⟨⟨by rw [ag Km];exact z1,z2⟩,?_⟩
  rw [<- Ŀ];show b<(s2.heap.push _).objs.size;rw [Heap.size_push];exact Nat.lt_succ_of_lt hl
 have old:∀ b o,s3.heap.get? b=some o->Ü.get? b=some o:=K7;have LV:Ü.IsCell (s3.heap.objs.size+1) none:=by
  refine Ğ x _ ?_;have q:=S.cells (s3.heap.objs.size+1);rw [c6] at q;have q2:cellsFrom (s3.heap.objs.size+1) sc.names []=[(x,s3.heap.objs.size+1)]:=List.append_cancel_right (bs:=cl) q;rw [q2];exact List.mem_singleton.mpr rfl
 have loop:∀ sS:Shared,sS.heap = Ü->sS.os=s3.os->sS.gens=s3.gens->codeAny (model X.prog X.w) X.A (.compLoop (.ListComp elt [⟨tg,iter,[],0⟩] sc pos) 0 (.ref it) (.ref s2.heap.objs.size) (compEnvC sc ((x,s3.heap.objs.size+1)::cl) s3.heap.objs.size X.env))
   (compPost (model X.prog X.w) X.A X.xe none (EP X pins σ Q) (.ref s2.heap.objs.size) s3.heap.objs.size) sS:=by
  intro sS eh eo eg;subst eh;have J0:Inv (dX X sc cl x (ts++zs) s3 (ae H2 s2.heap.objs.size (.lst [])) s3.heap.objs.size fp) [] (List.replicate ts.length none++cJ js σ) (ae H2 s2.heap.objs.size (.lst [])) sS:=l7 I3 S ě (Nat.le_refl _) eo eg old hn LV;generalize hX:dX X sc cl x (ts++zs) s3 (ae H2 s2.heap.objs.size (.lst [])) s3.heap.objs.size fp=X' at J0;have ê:∀{H':Hp},(∀ b∈fp,H' b=none)->∀ b∈fp,dh X' [] H' b:=λ {H'} hn b hb=>by
   subst hX;obtain⟨⟨_,z1,z2,z3,z4,z5⟩,z6⟩:=ě b hb;refine⟨hn b hb,Nat.ne_of_lt z6,λ q=>?_,.inl hb,λ y c e=>?_,λ p hp=>absurd (show p∈([]:List (Addr × Obj)) from hp) (by simp)⟩
   ·rcases List.mem_cons.mp (I3.î b q) with e | e
    ·exact z1 e
    ·exact z2 e
   ·rcases fu e with⟨_,e2⟩ | ⟨_,e2⟩
    ·intro q;rw [<- q,e2] at z6;exact absurd z6 (Nat.not_lt.mpr (Nat.le_succ _))
    ·exact z4 y c (S.sub _ _ e2)
  have Je:tn 0 sS.heap:=T.keep _ _ _ Į λ b hb o e=>old b o (by rw [<- Ŀ];exact Heap.get?_push_of_some _ e)
  refine gZ (λ n s'=>∃ i ys os H',os.length=ts.length/\Inv X' [] (os++cJ js σ) H' s'/\tn i s'.heap/\(∀ b∈fp,H' b=none)/\W i n ys H') ?_ m0 ⟨0,[],_,_,List.length_replicate,J0,Je,λ b hb=>(ě b hb).1.1,w0⟩;rintro n s' ⟨i,ys,os,H',á,Iv,st,fr,w⟩;obtain⟨hD,alt⟩:=turn i n ys H' w;have eP:X'.prog=X.prog:=by subst hX;rfl
  have eW:X'.w=X.w:=by subst hX;rfl
  have eK:X'.K=X.K:=by subst hX;rfl
  have eC:X'.calm=true:=by subst hX;exact hc
  have eA:X'.A=X.A:=by subst hX;rfl
  have eE:X'.env=compEnvC sc ((x,s3.heap.objs.size+1)::cl) s3.heap.objs.size X.env:=by subst hX;rfl
  have eX:X'.xe = λ _ _=>False:=by subst hX;rfl
  rcases alt with⟨stop,q⟩ | ⟨go,hlen,step⟩
  ·have d:=T.done X' eP eW eK eC i [] s' _ H' (λ _ _=>False) Iv (ê fr) st stop;rw [eA] at d;refine aT d λ r s4 ⟨hr,I4⟩=>?_;subst hr;obtain⟨m,hm,_⟩:=id I4.loc;rw [eE] at hm;subst hX;exact⟨m,hm,λ h' JG=>⟨.ref s2.heap.objs.size,H',qr I3 ě (Nat.le_refl _) I4 JG,rfl,q⟩⟩
  ·have d:=T.item X' eP eW eK eC i [] s' _ H' (λ _ _=>False) Iv (ê fr) st go;rw [eA] at d;refine aT d λ r s4 ⟨u,hr,h4⟩=>?_;subst hr;refine aT h4 λ _ s5 ⟨y,H5,I5,r5,y5,ĕ,Jr⟩=>?_;have Js:=I5.pinned (ê Jr) (T.obj _ _ ĕ);have Kn:PG X' tg g:=by subst hX;exact hg _ _ _ _
   have g6:=Kn _ s5 _ H5 y u _ Js r5 (step y H5 y5 os á);rw [eP,eW,eA,eE,eX] at g6;refine aT g6 λ _ s6 ⟨Mg,H6,I6,⟨ß,į,e6⟩,Ko⟩=>?_;subst e6;have LL:PE X' elt te:=by subst hX;exact he _ _ _ _
   have g7:=LL _ s6 _ H6 _ I6 Ko;rw [eP,eW,eA,eE,eX] at g7;refine aT g7 λ uv s7 ⟨v7,H7,I7,r7,LM,m',ť,w7⟩=>?_;have g8:=(bh (X:=X')) _ s7 _ H7 (.ref s2.heap.objs.size) [v7] (.ref s2.heap.objs.size) [uv] (λ _ H8=>H8=ae H7 s2.heap.objs.size (.lst (ys ++ [v7]))) I7 rfl (.cons r7 .nil) ⟨_,ys,v7,rfl,rfl,LM,hlen,rfl⟩;rw [eP,eW,eA,eX] at g8;refine aT g8 λ _ s8 ⟨_,H8,I8,_,e8⟩=>?_;subst e8;refine⟨m',ť,i+1,ys ++ [v7],ß,_,į,I8.à,T.keep _ _ _ ĕ λ b hb o e=>(I8.pin (b,o) (List.mem_append_right _ (List.mem_append_right _ (aZ hb e)))).1,λ b hb=>?_,w7⟩;obtain⟨o',e',_⟩:=T.obj _ _ ĕ b hb;exact(I8.pin (b,o') (List.mem_append_right _ (List.mem_append_right _ (aZ hb e')))).2.1
 have Jg:tn 0 Ü:=T.keep _ _ _ Į λ b hb o e=>old b o (by rw [<- Ŀ];exact Heap.get?_push_of_some _ e)
 exact codeAny_compStart_list (loop _ rfl rfl rfl) (T.self _ 0 _ _ _ Jg (loop _ rfl rfl rfl))
end
end My
namespace My
open PySem PySem.W L2
section
variable {P:Program}{w:World}{K:Frag}{mg:Str->Option Value}{base:Heap}{C:Nat->Addr}{CO CR f a1:Addr}{fd d1:FuncData}
abbrev kX:Stmt:=az (bX 59) 1
theorem Co:ad ["self","outcomes"] ["self","outcomes"] (aa kX):=aM
abbrev sC:Scope:={ kind:=.function,names:=[(".0",.local),("one",.cell),("sum",.globalImplicit),("outcomes",.free)],isGenerator:=false,isCoroutine:=false }
abbrev E8:Scope:={ kind:=.function,names:=[(".0",.local),("other",.local),("stands_to",.globalImplicit),("one",.free)],isGenerator:=false,isCoroutine:=false }
theorem DM:((["one"]:List Str)++(["outcomes"]:List Str)).Nodup:=by decide +kernel
theorem Di:((["other"]:List Str)++(["one"]:List Str)).Nodup:=by decide +kernel
def wM (K:Frag):Sp:=λ vs H Q _=>∃ v a xs os,vs=[v,.ref a]/\H a=some (.lst xs)/\ė H xs os/\(∀ o∈os,-99<=o.1/\o.1<=99)/\os.length<=20/\lQ H (lK os) Q
def GX (K:Frag)(CO:Addr):TE:=eG (bC K (af 1)) 1 [0] (aW 0) (gn (mf K CO) [] E0 (ah (af 1) (ah (af 0) aF)))
def C8 (K:Frag)(CO:Addr):TE:=gH (sy K) (ah (GX K CO) aF)
section
variable {cdv:Value}{A:Around}{outer:List Env}{s:Shared}{H:Hp}{E:XK}
theorem wC:pB (aV av P w K mg base ["self","outcomes"] "Wins.among" (aa kX) f cdv A outer s H E).ä sC [("outcomes",s.heap.objs.size+1)] "one" ["one"] ["outcomes"] [1]:=by
 refine⟨rfl,rfl,λ C=>rfl,by decide +kernel,List.mem_singleton.mpr rfl,λ z c h=>?_,λ z h=>?_,by decide +kernel,λ k z h=>?_,rfl⟩
 ·obtain⟨rfl,rfl⟩:=mT h;rfl
 ·have h:List.lookup z [((".0" : Str),NameKind.local),(("one" : Str),NameKind.cell),(("sum" : Str),NameKind.globalImplicit),(("outcomes" : Str),NameKind.cell)]=some .cell\/List.lookup z [((".0" : Str),NameKind.local),(("one" : Str),NameKind.cell),(("sum" : Str),NameKind.globalImplicit),(("outcomes" : Str),NameKind.cell)]=some .free:=h;have all:∀ y ∈ [((".0" : Str),NameKind.local),(("one" : Str),NameKind.cell),(("sum" : Str),NameKind.globalImplicit),(("outcomes" : Str),NameKind.cell)],(y.2=.cell\/y.2=.free)->y.1 = "one" \/ y.1 = "outcomes" := by decide +kernel
  have e:z = "one" \/ z = "outcomes" := by
   rcases h with h | h
   ·exact all _ (PySem.mem_of_lookup h) (.inl rfl)
   ·exact all _ (PySem.mem_of_lookup h) (.inr rfl)
  rcases e with rfl | rfl
  ·exact .inl rfl
  ·exact .inr ⟨_,iM⟩
 ·match k,h with
  | 0,h =>
   have h:some ("outcomes" : Str)=some z:=h;cases h;exact⟨1,rfl,rfl,.inr (.inl rfl),by show(aa kX).names.lookup ("outcomes" : Str)≠some NameKind.local;decide +kernel,.inl rfl⟩
  | k+1,h=>simp at h
theorem uH {X:Cx}{C1:Addr}{fp:List Addr}{cl:List (Str × Addr)}(hk:X.env.scope.kind=.function):bu (dX X sC cl "one" ((["one"]:List Str)++(["outcomes"]:List Str)) s H C1 fp) E8 [("one",C1+1)] ["other"] ["one"] [0] :=
 oq (L:=[(".0",.local),("other",.local),("stands_to",.globalImplicit),("one",.cell)]) rfl rfl (by decide +kernel) (by decide +kernel) (by decide +kernel) iM rfl (by decide +kernel) (by decide +kernel) rfl (.inr (.inl rfl))
  (by show(relabel sC X.env).names.lookup ("one" : Str)≠some NameKind.local;exact λ h=>nomatch (show some NameKind.cell=some NameKind.local from h)) (.inl rfl)
theorem BA (A1:Df P w K mg base (cK P w) 5 "stands_to" ["one","other"] (mf K CO) a1 d1)(ms:mg "sum" = none)(hr:qI 5 "Wins.among" kX A s f cdv):Bx (ü (aV av P w K mg base ["self","outcomes"] "Wins.among" (aa kX) f cdv A outer s H E).ä (au kX) (bN (eG (bC K (af 1)) 1 [1] (aW 0) (C8 K CO)))) :=
 be ⟨cZ (zw (te:=C8 K CO) (g:=aW 0) rfl wC (aR (pv 1)) (λ s H C fp=>by exact bV (i:=0) DM rfl (.inr rfl)) (λ s H C fp=>by
  exact am (gj rfl) rfl ms PyProof.Rows.boot_sum (ac (cR (te:=gn (mf K CO) [] E0 (ah (af 1) (ah (af 0) aF))) (g:=aW 0) rfl (uH rfl) (aR (pv 1)) (λ s H C fp=>by exact bV (i:=0) Di rfl (.inl rfl)) (λ s H C fp=>by
   exact bU A1.G hr rfl A1.m A1.kp A1.b .nil gr (ac (pv 1) (ac (pv 0) ak)))) ak)))⟩
end
theorem Ai (F:Ö K "among" "Wins.among" kX f fd)(A1:Df P w K mg base (cK P w) 5 "stands_to" ["one","other"] (mf K CO) a1 d1)(ms:mg "sum" = none):Â P w K mg base av 6 f fd ["self","outcomes"] (wM K):=by
 refine F.ok Co (λ vs H Q E h=>?_) (λ cdv A outer s H vs Q E hr h=>?_)
 ·obtain⟨_,_,_,_,rfl,_⟩:=h;rfl
 obtain⟨v,a,xs,os,rfl,ha,oc,bd,lo,q⟩:=h;obtain⟨JK⟩:=BA A1 ms hr (f:=f) (cdv:=cdv) (A:=A) (outer:=outer) (s:=s) (H:=H) (E:=E) (P:=P) (w:=w) (base:=base);refine⟨_,JK,?_⟩;obtain⟨lx,oc⟩:=oc;have sz:=sizeLine_eq;have ot:∀{H':Hp}{i:Nat}{b:Addr},Ext H H'->(hi:i<os.length)->H' b=some (.tup [.int os[i].1,.bl os[i].2])->Ot K H' (.ref b) true:=λ {H' i b} x' hi hb=>by
  have:=bd os[i] (List.getElem_mem hi);refine .inl ⟨.tuple [.int os[i].1,.bool os[i].2],.tup hb (.cons (.int _) (.cons (.bl _) .nil)),?_⟩;show true=((decide ((-99:Int)<=os[i].1)&&decide (os[i].1<=99))&&true);rw [decide_eq_true this.1,decide_eq_true this.2];rfl
 refine⟨_,rfl,a,rfl,⟨_,Ã.of ha⟩,λ D hD=>?_⟩;refine bQ (a:=a) (xs:=xs) (λ i ys H'=>Ext H H'/\ys=((lK os).take i).map V.int) (by omega) ⟨Ext.new hD,rfl⟩ (λ i ys H' pv=>Ã.of (pv.1 _ _ ha)) ?_ ?_
 ·rintro i x ys H' ex ly Ô ⟨x',ey⟩ Ĺ á R k;obtain⟨o0,rfl⟩:∃ o0,Ĺ=[o0]:=by
   match Ĺ,á with
   | [o0],_=>exact⟨o0,rfl⟩
  have li:i<os.length:=by rw [<- lx];exact(List.getElem?_eq_some_iff.mp ex).1
  obtain⟨b,rfl,hb⟩:=oc i x _ ex (List.getElem?_eq_getElem li);refine⟨⟨[some (.ref b)],rfl,rfl⟩,?_⟩;refine⟨_,rfl,a,rfl,⟨_,Ã.of (x' _ _ ha)⟩,λ D2 Ĉ=>?_⟩;have nD:D2≠D:=λ e=>by rw [e,Ô] at Ĉ;cases Ĉ
  refine bQ (a:=a) (xs:=xs) (λ j zs H2=>Ext H' H2/\zs=((os.map λ p=>nO os[i] p).take j).map V.int) (by omega) ⟨Ext.new Ĉ,rfl⟩ (λ j zs H2 pv=>Ã.of (pv.1 _ _ (x' _ _ ha))) ?_ ?_
  ·rintro j y zs H2 SY lz ĥ ⟨x2,ez⟩ Nf Qc R2 k2;obtain⟨o0,rfl⟩:∃ o0,Nf=[o0]:=by
    match Nf,Qc with
    | [o0],_=>exact⟨o0,rfl⟩
   have lj:j<os.length:=by rw [<- lx];exact(List.getElem?_eq_some_iff.mp SY).1
   obtain⟨b2,rfl,ĺ⟩:=oc j y _ SY (List.getElem?_eq_getElem lj);have ç:=x'.trans x2;refine⟨⟨[some (.ref b2)],rfl,rfl⟩,_,rfl,_,rfl,.ref b,.ref b2,true,true,rfl,ot ç li (ç _ _ hb),ot ç lj (ç _ _ ĺ),(λ z=>by cases z),(λ _ z=>by cases z),λ a1 a2 n1 n2 s1 s2 q1 q2 t1 t2 _ _=>?_⟩
   cases q1;cases q2;rw [ç _ _ hb] at t1;rw [ç _ _ ĺ] at t2;cases t1;cases t2;refine k2 _ H2 ĥ ⟨aP _ x2 Ĉ,?_⟩;have es:(os.map λ p=>nO os[i] p)[j]?=some (nO os[i] os[j]):=by
    rw [List.getElem?_map,List.getElem?_eq_getElem lj];rfl
   rw [aA es,List.map_append,<- ez];rfl
  ·rintro zs H2 lz ĥ ⟨x2,ez⟩;have l2:(os.map λ p=>nO os[i] p).length=xs.length:=by rw [List.length_map,lx]
   rw [<- l2,List.take_length] at ez;rw [ez] at ĥ;refine⟨D2,_,rfl,Ã.of ĥ,?_⟩;refine k _ H2 (x2 _ _ Ô) ⟨aP _ (x'.trans x2) hD,?_⟩;have es:(lK os)[i]?=some ((os.map λ p=>nO os[i] p).sum):=by
    unfold lK;rw [List.getElem?_map,List.getElem?_eq_getElem li];rfl
   rw [aA es,List.map_append,<- ey];rfl
 ·rintro ys H' ly Ô ⟨x',ey⟩;have l2:(lK os).length=xs.length:=by unfold lK;rw [List.length_map,lx]
  rw [<- l2,List.take_length] at ey;rw [ey] at Ô;exact q D H' x' hD Ô
end
def dA (a b c d:Addr):Nat->Addr
 | 0=>a
 | 1=>b
 | 2=>c
 | _=>d
section
variable {P:Program}{w:World}{K:Frag}{mg:Str->Option Value}{base:Heap}{C MC:Nat->Addr}{CU CN f:Addr}{fd:FuncData}(dj:∀ i j,i<4->j<4->MC i=MC j->i=j)
include dj
theorem FM (h:Â P w K mg base av 1 f fd ["self","outcomes"] (ux λ os=>os.map (·.1))):Â P w K mg base av 7 f fd ["self","outcomes"] (jW MC (MC 0)):=by
 refine(h.mono (by decide)).imp λ vs H Q E z=>?_
 obtain⟨k,v,a,os,hk,e,rfl,go,q⟩:=z;have ek:=dj 0 k (by decide) hk e
 subst ek;obtain⟨xs,ha,oc⟩:=go.ex;exact⟨v,a,xs,os,rfl,ha,oc,go.ln,q⟩
theorem G8 (h:Â P w K mg base av 1 f fd ["self","outcomes"] (ux λ os=>os.map λ o=>rk (os.map (·.1)) o.1)):Â P w K mg base av 7 f fd ["self","outcomes"] (jW MC (MC 1)):=by
 refine(h.mono (by decide)).imp λ vs H Q E z=>?_
 obtain⟨k,v,a,os,hk,e,rfl,go,q⟩:=z;have ek:=dj 1 k (by decide) hk e
 subst ek;obtain⟨xs,ha,oc⟩:=go.ex;exact⟨v,a,xs,os,rfl,ha,oc,go.ln,q⟩
theorem Gz (h:Â P w K mg base av 6 f fd ["self","outcomes"] (wM K)):Â P w K mg base av 7 f fd ["self","outcomes"] (jW MC (MC 2)):=by
 refine(h.mono (by decide)).imp λ vs H Q E z=>?_
 obtain⟨k,v,a,os,hk,e,rfl,go,q⟩:=z;have ek:=dj 2 k (by decide) hk e
 subst ek;obtain⟨xs,ha,oc⟩:=go.ex;exact⟨v,a,xs,os,rfl,ha,oc,go.bd,go.ln,q⟩
theorem G6 (h:Â P w K mg base av 6 f fd ["self","outcomes"] (wZ K)):Â P w K mg base av 7 f fd ["self","outcomes"] (jW MC (MC 3)):=by
 refine(h.mono (by decide)).imp λ vs H Q E z=>?_
 obtain⟨k,v,a,os,hk,e,rfl,go,q⟩:=z;have ek:=dj 3 k (by decide) hk e
 subst ek;obtain⟨xs,ha,oc⟩:=go.ex;exact⟨v,a,xs,os,rfl,ha,oc,go.bd,go.ln,go.ev rfl,q⟩
theorem F3 (h:Â P w K mg base (cK P w) 4 f fd ["self","rule","outcomes"] (vl CU)):Â P w K mg base (cK P w) 5 f fd ["self","rule","outcomes"] (jB C MC CU CN (MC 0)):=by
 refine(h.mono (by decide)).imp λ vs H Q E z=>?_
 obtain⟨k,v,r,t,a,xs,os,hk,e,rfl,ru,l1,l2,ha,oc,q1,q2⟩:=z;have ek:=dj 0 k (by decide) hk e
 subst ek;exact⟨v,r,a,xs,os,rfl,ha,oc,q1,q2⟩
theorem Hc (h:Â P w K mg base (cK P w) 4 f fd ["self","rule","outcomes"] (vl CU)):Â P w K mg base (cK P w) 5 f fd ["self","rule","outcomes"] (jB C MC CU CN (MC 1)):=by
 refine(h.mono (by decide)).imp λ vs H Q E z=>?_
 obtain⟨k,v,r,t,a,xs,os,hk,e,rfl,ru,l1,l2,ha,oc,q1,q2⟩:=z;have ek:=dj 1 k (by decide) hk e
 subst ek;exact⟨v,r,a,xs,os,rfl,ha,oc,q1,q2⟩
theorem Hn (h:Â P w K mg base av 1 f fd ["self","rule","outcomes"] E7):Â P w K mg base (cK P w) 5 f fd ["self","rule","outcomes"] (jB C MC CU CN (MC 2)):=by
 refine(My.Â.UW (h.mono (show 1<=5 by decide))).imp λ vs H Q E z=>?_
 obtain⟨k,v,r,t,a,xs,os,hk,e,rfl,ru,l1,l2,ha,oc,q1,q2⟩:=z;have ek:=dj 2 k (by decide) hk e
 subst ek;exact⟨v,r,_,rfl,q1 rfl H (Ext.refl _)⟩
theorem Gv (h:Â P w K mg base (cK P w) 4 f fd ["self","rule","outcomes"] (Dy C CN)):Â P w K mg base (cK P w) 5 f fd ["self","rule","outcomes"] (jB C MC CU CN (MC 3)):=by
 refine(h.mono (by decide)).imp λ vs H Q E z=>?_
 obtain⟨k,v,r,t,a,xs,os,hk,e,rfl,ru,l1,l2,ha,oc,q1,q2⟩:=z;have ek:=dj 3 k (by decide) hk e
 subst ek;exact⟨v,r,_,t,rfl,ru,l1,l2,q1,q2⟩
omit dj
theorem uX {c:Addr}(h:Â P w K mg base av 8 f fd ["self","rule","outcomes"] (tR MC)):Â P w K mg base av 8 f fd ["self","rule","outcomes"] (nH MC c):=h.imp λ vs H Q E z=>⟨c,z⟩
end
section
variable {P:Program}{w:World}{K:Frag}{mg:Str->Option Value}{base:Heap}
abbrev fB:Stmt:=bX 63
abbrev rB (i:Nat):Stmt:=(au fB).getD i (.Pass ⟨0,0,0,0⟩)
def dJ (K:Frag):Sp:=λ vs H Q _=>∃(s:Addr)(ns:List Int)(p:Addr)(m:Int),vs=[.ref s,.ref p,.int m]/\Ã K H s (ns.map V.int)/\ns.length<=63/\s≠p/\Ú H p/\0<m/\m<1073741824/\∀(r:Int)(H':Hp),0<=r->r<m->Ú H' p->Kept H H' p->(∀ b,H b=none->H' b=none)->Q (.int r) H'
abbrev Ay:List Str:=["_law_script","_law_pen","_law_many","_law_cell","_law_found","_law_number"]
theorem Ov:ad Ay ["_law_script","_law_pen","_law_many"] (aa fB):=aM
theorem iL {H:Hp}{p:Addr}(o:HO):Kept H (ae H p o) p:=λ b u h n=>by rw [ag n];exact h
theorem iP {H:Hp}{p:Addr}{o u:HO}(h:H p=some u):∀ b,H b=none->ae H p o b=none:=λ b hb=>by
 rw [ag (λ e=>by subst e;rw [h] at hb;cases hb)];exact hb
def lI (K:Frag)(i:Int):TE:=aJ (cT K) (af 1) (tC (.int i))
def nh (i:Int)(te:TE):TS:=cH te (Fd (af 1) (tC (.int i)) tK)
def CH (K:Frag):TE:=gH (λ xs H Q=>∃ i j,xs=[.int i,.int j]/\Q (.int (if j<i then j else i)) H) (ah (gH (λ xs H Q=>∃ p ys,xs=[.ref p]/\(Ã K H p ys\/Ì K H p ys)/\Q (.int ys.length) H) (ah (af 0) aF)) (ah (tC (.int 63)) aF))
def Iz (K:Frag):TS:=aH (cH (aJ (cT K) (af 0) (lI K 0)) (aW 3)) (aH (xo (af 1) (tC (.int 0)) (tC (.int 1)) (wK K) (Ie λ i j=>i+j) tK)
 (aH (nh 2 (aJ (rI (λ _ j=>0<j) λ i j=>.int (i%j)) (aJ (c8 λ i j=>.int (i+j)) (aJ (c8 λ i j=>.int (i+j)) (aJ (rI ÿ λ i j=>.int (i*j)) (lI K 2) (tC (.int 48271))) (aJ (rI (λ _ j=>0<j) λ i j=>.int (i%j)) (af 3) (tC (.int 2147483629)))) (lI K 0)) (tC (.int 2147483647))))
 (dz (tB (aJ (c8 λ i j=>.bl (decide (j<=i))) (af 3) (aJ (rI DW λ i j=>.int (i^j.toNat)) (tC (.int 10)) (tC (.int 18))))) (nh 1 (af 3)) bS)))
def Au (K:Frag):TS:=dz (qX (tB (aJ pP (lI K 1) (tC (.int 0)))) (tB (aJ (c8 λ i j=>.bl (decide (i<j))) (lI K 0) (CH K)))) (Iz K) bS
def Ed (K:Frag):TS:=dz (tB (aJ (c8 λ i j=>.bl (decide (i>j))) (lI K 1) (tC (.int 0)))) (aH (cH (aJ (rI (λ _ j=>0<j) λ i j=>.int (i%j)) (lI K 1) (af 2)) (aW 4)) (aH (nh 1 (aJ (rI iG λ i j=>.int (i/j)) (lI K 1) (af 2))) (bN (af 4)))) bS
def B7 (K:Frag):TS:=nh 2 (aJ (rI (λ _ j=>0<j) λ i j=>.int (i%j)) (aJ (c8 λ i j=>.int (i+j)) (aJ (rI ÿ λ i j=>.int (i*j)) (lI K 2) (tC (.int 69621))) (tC (.int 1013904223))) (tC (.int 2147483647)))
def Cj (K:Frag):TS:=cH (aJ (rI (λ _ j=>0<j) λ i j=>.int (i%j)) (aJ (rI ÿ λ i j=>.int (i*j)) (lI K 2) (lI K 2)) (tC (.int 2147483629))) (aW 5)
def zK (K:Frag):TS:=bN (aJ (rI (λ _ j=>0<j) λ i j=>.int (i%j)) (aJ (rI iG λ i j=>.int (i/j)) (aJ (rI (λ _ j=>0<j) λ i j=>.int (i%j)) (aJ (rI ÿ λ i j=>.int (i*j)) (aJ (c8 λ i j=>.int (i+j)) (af 5) (aJ (rI iG λ i j=>.int (i/j)) (lI K 2) (tC (.int 16)))) (aJ (c8 λ i j=>.int (i+j)) (af 5) (tC (.int 3)))) (tC (.int 2147483587))) (tC (.int 7))) (af 2))
def Eu (K:Frag):TS:=aH (Au K) (aH (Ed K) (aH (B7 K) (aH (Cj K) (zK K))))
variable {f:Addr}{cdv:Value}{A:Around}{outer:List Env}{s:Shared}{H:Hp}{E:XK}
theorem Ga (ml:mg "len" = none)(mm:mg "min" = none):Bx (PS (aV av P w K mg base Ay "_law_take" (aa fB) f cdv A outer s H E).ä (rB 0) (Au K)):=by
 have nd:=Ov.nd;exact jt ⟨PW.pt (im (ao cr (cy fL (pv 1) ay) ay (ar _)) (gh (ao pN (cy fL (pv 1) ay) (am (qz rfl) rfl mm PyProof.Rows.boot_min (ac (am aG rfl ml PySem.boot_len (ac (pv 0) ak)) (ac ay ak))) (ar _))))⟩
  (cI (aX (i:=3) nd rfl (Or.inl rfl) ⟨cy fL (pv 0) (cy fL (pv 1) ay)⟩) (cI ⟨wf (pv 1) ay rX ay A7 fN⟩
  (cI ⟨ft (ax dC (ax bt (ax bt (ax eI (cy fL (pv 1) ay) ay) (ax dC (pv 3) ay)) (cy fL (pv 1) ay)) ay) (kT (pv 1) ay fN)⟩
  (be ⟨bo (ao wY (pv 3) (ax yk ay ay) (ar _)) (aY (ft (pv 3) (kT (pv 1) ay fN))) gG⟩)))) fg
theorem FW:Bx (PS (aV av P w K mg base Ay "_law_take" (aa fB) f cdv A outer s H E).ä (rB 1) (Ed K)):=by
 have nd:=Ov.nd;exact jt ⟨ao fS (cy fL (pv 1) ay) ay (ar _)⟩ (cI (aX (i:=4) nd rfl (Or.inl rfl) ⟨ax dC (cy fL (pv 1) ay) (pv 2)⟩)
  (cI ⟨ft (ax fh (cy fL (pv 1) ay) (pv 2)) (kT (pv 1) ay fN)⟩ (be ⟨cZ (pv 4)⟩))) fg
theorem He:Bx (PS (aV av P w K mg base Ay "_law_take" (aa fB) f cdv A outer s H E).ä (rB 2) (B7 K)) :=
 ⟨ft (ax dC (ax bt (ax eI (cy fL (pv 1) ay) ay) ay) ay) (kT (pv 1) ay fN)⟩
theorem Gs:Bx (PS (aV av P w K mg base Ay "_law_take" (aa fB) f cdv A outer s H E).ä (rB 3) (Cj K)) :=
 aX (i:=5) Ov.nd rfl (Or.inl rfl) ⟨ax dC (ax eI (cy fL (pv 1) ay) (cy fL (pv 1) ay)) ay⟩
theorem Hh:Bx (PS (aV av P w K mg base Ay "_law_take" (aa fB) f cdv A outer s H E).ä (rB 4) (zK K)) :=
 ⟨cZ (ax dC (ax fh (ax dC (ax eI (ax bt (pv 5) (ax fh (cy fL (pv 1) ay) ay)) (ax bt (pv 5) ay)) ay) ay) (pv 2))⟩
theorem A5 (ml:mg "len" = none)(mm:mg "min" = none):Bx (ü (aV av P w K mg base Ay "_law_take" (aa fB) f cdv A outer s H E).ä (au fB) (Eu K)) :=
 cI (Ga ml mm) (cI FW (cI He (cI Gs (be Hh))))
variable {D:bA}
theorem fA {Q:VK}{σ:St}{p:Addr}{xs:List V}{v:V}(k:Nat)(h1:σ[1]?=some (some (.ref p)))(hp:H p=some (.lst xs))(hv:xs[k]?=some v)(q:Q v H):lI K (k:Nat) σ H Q:=⟨_,h1,p,_,_,_,rfl,rfl,Ã.of hp,cX hv,q⟩
theorem zP {c:Int}(h0:0<=c)(h1:c<2147483647)(y:Int):ÿ c y:=.inl ⟨Int.lt_of_lt_of_le (by decide) h0,Int.lt_trans h1 (by decide)⟩
theorem iK {σ:St}{p:Addr}{xs:List V}{te:TE}{v:V}(k:Nat)(h1:σ[1]?=some (some (.ref p)))(hp:H p=some (.lst xs))(hk:k<xs.length)(ht:∀ R:VK,R v H->te σ H R)(nx:D.nx σ (ae H p (.lst (xs.set k v)))):nh (k:Nat) te D σ H:=by
 refine ht _ ⟨_,h1,p,xs,_,k,rfl,rfl,hp,?_,nx⟩;unfold wR;rw [if_pos (by omega),if_pos (by omega),Int.toNat_natCast]
theorem z7 {sA p:Addr}{ns:List Int}{o2 o3 o4 o5:Option V}(hs:Ã K H sA (ns.map V.int))(Jj:ns.length<=63)(bx:Ú H p)(nx:∀ o3 H',Ú H' p->Kept H H' p->(∀ b,H b=none->H' b=none)->D.nx [some (.ref sA),some (.ref p),o2,o3,o4,o5] H') :
  Au K D [some (.ref sA),some (.ref p),o2,o3,o4,o5] H:=by
 obtain⟨a,b,c,hp,a0,b0,c0,c1⟩:=id bx.ex;refine fA 1 rfl hp rfl ⟨rfl,_,rfl,?_⟩;by_cases eb:b=0
 rotate_left
 ·rw [decide_eq_false (λ z=>eb (V.int.inj z))];exact bY (bY (nx _ H bx (Kept.refl _ _) λ _ h=>h))
 rw [decide_eq_true (by rw [eb])]
 refine cq (fA 0 rfl hp rfl ⟨_,rfl,sA,_,rfl,.inl hs,_,_,rfl,_,_,rfl,rfl,_,rfl,?_⟩);refine oM (λ cc=>?_) (λ cc=>nx _ H bx (Kept.refl _ _) λ _ h=>h);have cl:a<ns.length:=by
  have:=of_decide_eq_true cc;rw [List.length_map] at this;split at this <;> omega
 have ha:a.toNat<ns.length:=by omega
 have ea:a=((a.toNat:Nat):Int):=by omega
 have VO:uf (ns.map V.int) a=some (.int ns[a.toNat]):=by
  have e:=cX (xs:=ns.map V.int) (j:=a.toNat) (v:=.int ns[a.toNat]) (by rw [List.getElem?_map,List.getElem?_eq_getElem ha];rfl)
  rwa [<- ea] at e
 refine⟨_,rfl,fA 0 rfl hp rfl ⟨sA,_,_,_,rfl,rfl,hs,VO,?_⟩⟩;generalize ns[a.toNat]=cell;refine⟨_,rfl,p,_,0,_,rfl,rfl,Ã.of hp,rfl,a,1,rfl,rfl,p,_,_,0,rfl,rfl,hp,rfl,?_⟩;have f1:ae H p (.lst [.int (a+1),.int b,.int c]) p=some (.lst [.int (a+1),.int b,.int c]):=aL;show aH _ _ D _ (ae H p (.lst [.int (a+1),.int b,.int c]));refine iK (σ:=[some (.ref sA),some (.ref p),o2,some (.int cell),o4,o5]) (te:=aJ (rI (λ _ j=>0<j) λ i j=>.int (i%j)) (aJ (c8 λ i j=>.int (i+j)) (aJ (c8 λ i j=>.int (i+j)) (aJ (rI ÿ λ i j=>.int (i*j)) (lI K 2) (tC (.int 48271))) (aJ (rI (λ _ j=>0<j) λ i j=>.int (i%j)) (af 3) (tC (.int 2147483629)))) (lI K 0)) (tC (.int 2147483647))) (v:=.int ((c*48271+cell%2147483629+(a+1))%2147483647)) 2 rfl f1 (by show 2<3;decide) (λ R r=>fA 2 rfl f1 rfl ⟨_,_,rfl,rfl,zP c0 c1 _,_,rfl,_,_,rfl,rfl,(by show(0:Int)<2147483629;decide),_,_,rfl,rfl,fA 0 rfl f1 rfl ⟨_,_,rfl,rfl,_,_,rfl,rfl,(by show(0:Int)<2147483647;decide),r⟩⟩) ?_
 rw [fq];have m0:0<=(c*48271+cell%2147483629+(a+1))%2147483647:=Int.emod_nonneg _ (by decide)
 have m1:(c*48271+cell%2147483629+(a+1))%2147483647<2147483647:=Int.emod_lt_of_pos _ (by decide)
 generalize (c*48271+cell%2147483629+(a+1))%2147483647=c' at m0 m1 ⊢;rw [show([V.int (a+1),V.int b,V.int c].set 2 (V.int c'))=[V.int (a+1),V.int b,V.int c'] from rfl];have f2:ae H p (.lst [.int (a+1),.int b,.int c']) p=some (.lst [.int (a+1),.int b,.int c']):=aL;refine⟨_,rfl,10,18,rfl,rfl,⟨by decide,by decide,by decide⟩,_,_,rfl,rfl,_,rfl,?_⟩
 refine oM (λ c2=>?_) (λ c2=>?_)
 ·have big:(10:Int)^(18:Int).toNat<=cell:=of_decide_eq_true c2;have VP:(0:Int)<=(10:Int)^(18:Int).toNat:=by decide
  refine iK (v:=.int cell) 1 rfl f2 (by show 1<3;decide) (λ R r=>⟨_,rfl,r⟩) ?_
  rw [fq];exact nx _ _ ⟨_,_,_,aL,by omega,by omega,m0,m1⟩ (iL _) (iP hp)
 ·exact nx _ _ ⟨_,_,_,f2,by omega,b0,m0,m1⟩ (iL _) (iP hp)
theorem wv {f:Addr}{fd:FuncData}(F:Ö K "_law_take" "_law_take" fB f fd)(ml:mg "len" = none)(mm:mg "min" = none):Â P w K mg base av 1 f fd ["_law_script","_law_pen","_law_many"] (dJ K):=by
 refine F.ok Ov (λ vs H Q E h=>?_) (λ cdv A outer s H vs Q E hr h=>?_)
 ·obtain⟨_,_,_,_,rfl,_⟩:=h;rfl
 obtain⟨sA,ns,p,m,rfl,hs,Jj,ne,VQ,m0,m1,q0⟩:=h;obtain⟨JK⟩:=A5 ml mm (f:=f) (cdv:=cdv) (A:=A) (outer:=outer) (s:=s) (H:=H) (E:=E) (P:=P) (w:=w) (base:=base);refine⟨_,JK,?_⟩;refine z7 (D:=⟨_,Q,_,_⟩) hs Jj VQ λ o3 H1 bx k1 n1=>?_;have q:∀(r:Int)(H':Hp),0<=r->r<m->Ú H' p->Kept H1 H' p->(∀ b,H1 b=none->H' b=none)->Q (.int r) H':=λ r H' a b c d e=>q0 r H' a b c (k1.trans d) λ b h=>e b (n1 b h);obtain⟨a,b,c,hp,a0,b0,c0,c1⟩:=id bx.ex;refine fA 1 rfl hp rfl ⟨_,_,rfl,rfl,_,rfl,?_⟩;refine oM (λ cc=>?_) (λ cc=>?_)
 ·have b1:0<b:=of_decide_eq_true cc;refine aQ (te:=aJ (rI (λ _ j=>0<j) λ i j=>.int (i%j)) (lI K 1) (af 2)) (i:=4) (D:=⟨_,Q,_,_⟩) (fA 1 rfl hp rfl ⟨_,rfl,_,_,rfl,rfl,m0,?_⟩);refine iK (D:=⟨_,Q,_,_⟩) (v:=.int (b/m)) 1 rfl hp (by show 1<3;decide) (λ R r=>fA 1 rfl hp rfl ⟨_,rfl,_,_,rfl,rfl,⟨m0,m1⟩,r⟩) ?_
  exact⟨_,rfl,q _ _ (Int.emod_nonneg _ (by omega)) (Int.emod_lt_of_pos _ m0) ⟨_,_,_,aL,a0,Int.ediv_nonneg b0 (by omega),c0,c1⟩ (iL _) (iP hp)⟩
 ·refine iK (σ:=[some (.ref sA),some (.ref p),some (.int m),o3,none,none]) (te:=aJ (rI (λ _ j=>0<j) λ i j=>.int (i%j)) (aJ (c8 λ i j=>.int (i+j)) (aJ (rI ÿ λ i j=>.int (i*j)) (lI K 2) (tC (.int 69621))) (tC (.int 1013904223))) (tC (.int 2147483647))) (D:=⟨_,Q,_,_⟩) (v:=.int ((c*69621+1013904223)%2147483647)) 2 rfl hp (by show 2<3;decide) (λ R r=>fA 2 rfl hp rfl ⟨_,_,rfl,rfl,zP c0 c1 _,_,_,rfl,rfl,_,_,rfl,rfl,(by show(0:Int)<2147483647;decide),r⟩) ?_
  have e0:0<=(c*69621+1013904223)%2147483647:=Int.emod_nonneg _ (by decide)
  have e1:(c*69621+1013904223)%2147483647<2147483647:=Int.emod_lt_of_pos _ (by decide)
  generalize (c*69621+1013904223)%2147483647=c' at e0 e1 ⊢;have f2:ae H1 p (.lst [.int a,.int b,.int c']) p=some (.lst [.int a,.int b,.int c']):=aL;have LW:Ú (ae H1 p (.lst [.int a,.int b,.int c'])) p:=⟨_,_,_,f2,a0,b0,e0,e1⟩;have q2:=λ r h0 h1=>q r (ae H1 p (.lst [.int a,.int b,.int c'])) h0 h1 LW (iL _) (iP hp);show aH _ _ _ _ (ae H1 p (.lst [.int a,.int b,.int c']));generalize ae H1 p (.lst [.int a,.int b,.int c'])=H2 at f2 LW q2 ⊢;refine aQ (te:=aJ (rI (λ _ j=>0<j) λ i j=>.int (i%j)) (aJ (rI ÿ λ i j=>.int (i*j)) (lI K 2) (lI K 2)) (tC (.int 2147483629))) (i:=5) (D:=⟨_,Q,_,_⟩) (fA 2 rfl f2 rfl (fA 2 rfl f2 rfl ⟨_,_,rfl,rfl,zP e0 e1 _,_,_,rfl,rfl,(by show(0:Int)<2147483629;decide),?_⟩))
  have n0:0<=c'*c'%2147483629:=Int.emod_nonneg _ (by decide)
  have n1:c'*c'%2147483629<2147483629:=Int.emod_lt_of_pos _ (by decide)
  show zK K _ [some (.ref sA),some (.ref p),some (.int m),o3,none,some (.int (c'*c'%2147483629))] H2;generalize c'*c'%2147483629=n at n0 n1 ⊢;have g0:0<=c'/16:=Int.ediv_nonneg e0 (by decide)
  have g1:c'/16<2147483647:=Int.lt_of_le_of_lt (Int.ediv_le_self _ e0) e1;have cm:ÿ (n+c'/16) (n+3):=.inl ⟨by omega,by omega⟩
  refine⟨_,rfl,fA 2 rfl f2 rfl ⟨_,_,rfl,rfl,⟨(by show(0:Int)<16;decide),(by show(16:Int)<1073741824;decide)⟩,_,_,rfl,rfl,_,rfl,_,_,rfl,rfl,_,_,rfl,rfl,cm,_,_,rfl,rfl,(by show(0:Int)<2147483587;decide),_,_,rfl,rfl,⟨(by show(0:Int)<7;decide),(by show(7:Int)<1073741824;decide)⟩,_,rfl,_,_,rfl,rfl,m0,?_⟩⟩
  exact q2 _ (Int.emod_nonneg _ (by omega)) (Int.emod_lt_of_pos _ m0)
end
structure Sc (K:Frag)(H:Hp)(s p:Addr)(ns:List Int):Prop where
 sq:Ã K H s (ns.map V.int)
 Jj:ns.length<=63
 ne:s≠p
 bx:Ú H p
theorem Sc.kept {K:Frag}{H H':Hp}{s p:Addr}{ns:List Int}(c:Sc K H s p ns)(k:Kept H H' p)(b:Ú H' p):Sc K H' s p ns:=⟨My.Ã.kp c.sq k c.ne,c.Jj,c.ne,b⟩
theorem Sc.ext {K:Frag}{H H':Hp}{s p:Addr}{ns:List Int}(c:Sc K H s p ns)(x:Ext H H'):Sc K H' s p ns:=c.kept (x.kept p) (c.bx.ext x)
def eV (K:Frag)(te:TE):TE:=gn (dJ K) [] E0 (ah (af 0) (ah (af 1) (ah te aF)))
theorem bp {K:Frag}{H:Hp}{σ:St}{s p:Addr}{ns:List Int}{te:TE}{m:Int}{Q:VK}(c:Sc K H s p ns)(h0:σ[0]?=some (some (.ref s)))(h1:σ[1]?=some (some (.ref p)))(hm:∀ R:VK,R (.int m) H->te σ H R)(m0:0<m)(m1:m<1073741824)(q:∀ r H',0<=r->r<m->Sc K H' s p ns->Kept H H' p->Q (.int r) H'):eV K te σ H Q :=
 ⟨_,h0,_,h1,hm _ ⟨s,ns,p,m,rfl,c.sq,c.Jj,c.ne,c.bx,m0,m1,λ r H' a b d e _=>q r H' a b (c.kept e d) e⟩⟩
def ik (rs:List R0)(n:Nat):PyData:=match rs[n]? with
 | none=>.tuple [.int (n:Nat),.none]
 | some r=>.tuple [.int (n:Nat),r.begin]
theorem Bu (rs:List R0):ik rs 0=(Rl.blocks rs).begin:=by cases rs <;> rfl
section
variable {P:Program}{w:World}{K:Frag}{mg:Str->Option Value}{base:Heap}{C:Nat->Addr}{CR:Addr}
abbrev Fz:Stmt:=az (bX 41) 1
def yW (C:Nat->Addr):Sp:=λ vs H Q _=>∃(x:Addr)(n:Nat)(dx:Addr)(fs:List (Str × V))(l:Addr)(ws:List V)(rs:List R0),vs=[.ref x,.int (n:Nat)]/\H x=some (.ins (C 3) dx fs)/\fs.lookup ("rules" : Str)=some (.ref l)/\H l=some (.tup ws)/\Ą C H rs ws/\n<=rs.length/\∀ m H',Ext H H'->Ð H' (.ref m) (ik rs n)->Q (.ref m) H'
theorem FT:ad ["self","number"] ["self","number"] (aa Fz):=aM
theorem E3 {f:Addr}{fd:FuncData}(Z:KR K C CR)(F:Ö K "state_ahead" "Blocks.state_ahead" Fz f fd)(M:Ms P w K mg base C)(ml:mg "len" = none):Â P w K mg base av 2 f fd ["self","number"] (yW C):=by
 refine F.ok FT (λ vs H Q E h=>?_) (λ cdv A outer s H vs Q E hr h=>?_)
 ·obtain⟨_,_,_,_,_,_,_,rfl,_⟩:=h;rfl
 obtain⟨x,n,dx,fs,l,ws,rs,rfl,hx,Ś,hl,al,nl,q⟩:=h;refine⟨_,cw (bo (ao cr (pv 1) (am aG rfl ml PySem.boot_len (ac (ud (pv 0) rfl) ak)) (ar _)) (aY (cZ (aI (ac (pv 1) (ac gz ak))))) gG)
  (aY (cZ (aI (ac (pv 1) (ac (bB (cy gF (ud (pv 0) rfl) (pv 1)) M.begin hr aj) ak))))),?_⟩
 have c:=Z.cls 3 (by decide)
 have no:=Z.no 3 (by decide) "rules" (by decide +kernel)
 refine⟨_,rfl,_,rfl,x,C 3,dx,fs,_,rfl,hx,c,no,Ś,l,ws,rfl,.inr (Ì.of hl),rfl,_,rfl,?_⟩;have lw:=al.1;by_cases e:n=rs.length
 ·rw [decide_eq_true (by rw [<- lw,e])]
  refine cq ⟨_,rfl,by show 2<=sizeLine;decide,λ m hm=>q m _ (Ext.new hm) ?_⟩
  have ea:ik rs n=.tuple [.int (n:Nat),.none]:=by unfold ik;rw [List.getElem?_eq_none (by omega)]
  rw [ea];exact .tup aL (.cons (.int _) (.cons .Æ .nil))
 ·rw [decide_eq_false (by intro z;injection z with z;omega)]
  have hn:n<rs.length:=by omega
  have hw:n<ws.length:=by omega
  have ru:=al.2 n _ _ (List.getElem?_eq_getElem hn) (List.getElem?_eq_getElem hw);refine bY ⟨_,rfl,cA (t:=.one rs[n]) (v:=ws[n]) (by decide +kernel) ru (λ R r=>⟨_,rfl,x,C 3,dx,fs,_,rfl,hx,c,no,Ś,_,rfl,l,ws,_,_,rfl,rfl,Ì.of hl,cX (List.getElem?_eq_getElem hw),r⟩) ⟨_,.one rs[n],H,rfl,Ext.refl _,ru,λ b rb=>⟨by show 2<=sizeLine;decide,λ m hm=>q m _ (Ext.new hm) ?_⟩⟩⟩
  have ea:ik rs n=.tuple [.int (n:Nat),rs[n].begin]:=by unfold ik;rw [List.getElem?_eq_getElem hn]
  rw [ea];exact .tup aL (.cons (.int _) (.cons (rb.mono (Ext.new hm)) .nil))
abbrev vu:Stmt:=az (bX 41) 0
abbrev IJ:List Str:=["self","rules","size","mark"]
theorem Ng:ad IJ ["self","rules"] (aa vu):=aM
abbrev Dz:Scope:={ kind:=.function,names:=[(".0",.local),("rule",.local)],isGenerator:=false,isCoroutine:=false }
theorem t7 {X:Cx}:bu X Dz [] ["rule"] [] []:=by
 refine⟨rfl,rfl,by decide +kernel,by decide +kernel,by decide +kernel,(λ z c h=>nomatch h),(λ z h=>?_),by decide +kernel,(λ k z h=>by simp at h),rfl⟩
 exfalso;have h':List.lookup z [((".0" : Str),NameKind.local),(("rule" : Str),NameKind.local)]=some .cell\/List.lookup z [((".0" : Str),NameKind.local),(("rule" : Str),NameKind.local)]=some .free:=h;simp only [List.lookup_cons,List.lookup_nil] at h'
 repeat' (split at h')
 all_goals simp at h'
def i6 (K:Frag)(C:Nat->Addr)(CT CM:Addr):Sp:=λ vs H Q E=>∃(x:Addr)(v:V)(dx:Addr)(G:Hp),vs=[.ref x,v]/\H x=some (.ins (C 3) dx [])/\Ext G H/\G x=none/\((K1 K G v "list" /\ ∀ H',Ext H H'->cS CT "found" v H' E) \/
 (∃ a xs bs,v=.ref a/\G a=some (.lst xs)/\xs.length<1000/\pf K C G xs bs/\Ch xs.length bs=false/\∀ H',Ext H H'->cS CT "found" v H' E) \/
 ∃ a xs rs,v=.ref a/\G a=some (.lst xs)/\Ą C G rs xs/\1<=rs.length/\rs.length<=6/\(∀ r∈rs,r.ok)/\(20<(rs.map R0.À).sum->∀ H',Ext H H'->cS CM "many" (.int (rs.map R0.À).sum) H' E)/\((rs.map R0.À).sum<=20->∀ H',Kept H H' x->ż C H' rs (.ref x)->Q .Æ H'))
theorem vc {G:Hp}{rs:List R0}{xs:List V}(Z:KR K C CR)(al:Ą C G rs xs):pf K C G xs (rs.map λ _=>true):=by
 refine⟨by rw [List.length_map,al.1],λ i x b hx hb=>?_⟩
 have hi:i<rs.length:=by have:=(List.getElem?_eq_some_iff.mp hx).1;rw [al.1];exact this
 rw [List.getElem?_map,List.getElem?_eq_getElem hi] at hb;cases hb;have k:=rQ (t:=.one rs[i]) Z (al.2 i _ x (List.getElem?_eq_getElem hi) hx);have e:((Rl.one rs[i]).kind==0||((Rl.one rs[i]).kind==1||(Rl.one rs[i]).kind==2))=true:=by
  show(rs[i].kind==0||(rs[i].kind==1||rs[i].kind==2))=true;cases rs[i] <;> rfl
 rw [e] at k;exact k
theorem vY {n:Nat}(h1:1<=n)(h6:n<=6){rs:List R0}:Ch n (rs.map λ _=>true)=true:=by
 unfold Ch;rw [decide_eq_true h1,decide_eq_true h6,List.all_map];simp
variable {S g a1 a2 D CT CM fT fM:Addr}{gd d1 d2 eT eM:FuncData}{t:Tok}
def IL (C:Nat->Addr):TE:=cE (qu C) "folk" (λ _=>la C) E0 (af 0) aF
def Ir (C:Nat->Addr):TE:=cE (qu C) "told" (λ _=>jq C) E0 (af 0) aF
theorem zC {f:Addr}{fd:FuncData}(Z:KR K C CR)(F:Ö K "__init__" "Blocks.__init__" vu f fd)(M:Ms P w K mg base C)(MA:bJ P w K mg base av 2 "state_ahead" ["self","number"] (λ c=>c=C 3) (λ _=>yW C))(B:Ò K D)(T1:fH K mg D "NoTrials" "found" CT fT eT)(T2:fH K mg D "TooMany" "many" CM fM eM)
  (Cf:fG K S "__init__" g)(G':Â P w K mg base av 1 g gd ["self","size","first_state","mark","parts"] (jc C))(bG:Binds K gd ["self","size","first_state","mark","parts"] [])(mS:mg "Rule" = some (.ref S))
  (A1:Df P w K mg base av 3 "are_block_rules" ["thing"] (B5 K C) a1 d1)(A2:Df P w K mg base av 2 "parts_of" ["rules"] (Ex C) a2 d2)(mF:mg "MOST_FOLK" = some (.int 20 t))(ms:mg "sum" = none)(mt:mg "tuple" = none):Â P w K mg base (cK P w) 4 f fd ["self","rules"] (i6 K C CT CM):=by
 refine mk F Ng (λ vs H Q E h=>?_) (λ cdv A outer s H vs Q E hr h=>?_)
 ·obtain⟨_,_,_,_,rfl,_⟩:=h;rfl
 obtain⟨x,v,dx,G,rfl,hx,xG,nG,h⟩:=h;have nd:=Ng.nd;have Û:Ä 1 _:=hr.mono (by decide)
 have Ł:Ä 2 _:=hr.mono (by decide)
 refine⟨_,cw (bo (cu (bI (bU A1.G hr rfl A1.m A1.kp A1.b .nil aj (ac (pv 1) ak)))) (aY (cQ B T1.cls (T1.ok P w base) Ł T1.bi rfl T1.Kp (pv 1))) gG)
  (cw (iI (i:=2) nd rfl (Or.inl rfl) (am (gj rfl) rfl ms PyProof.Rows.boot_sum (ac (cR (te:=IL C) (g:=aW 0) rfl t7 (aR (pv 1)) (λ s H C fp=>by exact bV (i:=0) yi rfl (.inl rfl)) (λ s H C fp=>by exact bB (pv 0) M.À Û aj)) ak)))
  (cw (bo (ao fS (pv 2) (bT (v:=.int 20) rfl mF ⟨_,rfl⟩) (ar _)) (aY (cQ B T2.cls (T2.ok P w base) Ł T2.bi rfl T2.Kp (pv 2))) gG)
  (cw (eF (pv 0) (aO cz rfl mt PyProof.Rows.boot_tuple (ac (pv 1) ak)) rfl)
  (cw (iI (i:=3) nd rfl (Or.inl rfl) (aI (ac aw (ac (aO cz rfl mt PyProof.Rows.boot_tuple (ac (cR (te:=Ir C) (g:=aW 0) rfl t7 (aR (pv 1)) (λ s H C fp=>by exact bV (i:=0) yi rfl (.inl rfl)) (λ s H C fp=>by exact bB (pv 0) M.told Û aj)) ak)) ak))))
  (aY (aq (bL Cf G' Û rfl mS bG .nil aj (ac (pv 0) (ac (pv 2) (ac (gR (pv 0) MA Ł aj (ac ay ak)) (ac (pv 3) (ac (bU A2.G Ł rfl A2.m A2.kp A2.b .nil aj (ac (pv 1) ak)) ak)))))))))))),?_⟩
 rcases h with⟨nk,q⟩ | ⟨a,xs,bs,rfl,ha,l1,bk,bad,q⟩ | ⟨a,xs,rs,rfl,ha,al,l1,l6,ok,qm,q⟩
 ·refine⟨_,rfl,v,rfl,.inl ⟨nk.ext xG,λ H1 x1=>⟨_,rfl,cq ⟨_,rfl,λ e' de h1 h2 nd=>fE nd (q H1 x1 e' de h1 h2 nd)⟩⟩⟩⟩
 ·refine⟨_,rfl,_,rfl,.inr ⟨a,xs,bs,rfl,xG _ _ ha,l1,⟨bk.1,λ i x b h1 h2=>(bk.2 i x b h1 h2).ext xG⟩,λ H1 x1=>⟨_,rfl,?_⟩⟩⟩;rw [bad];exact cq ⟨_,rfl,λ e' de h1 h2 nd=>fE nd (q H1 x1 e' de h1 h2 nd)⟩
 have bk:=vc Z al;have lx:=al.1;refine⟨_,rfl,_,rfl,.inr ⟨a,xs,_,rfl,xG _ _ ha,by omega,⟨bk.1,λ i x b h1 h2=>(bk.2 i x b h1 h2).ext xG⟩,λ H1 x1=>⟨_,rfl,?_⟩⟩⟩
 rw [<- lx,vY l1 l6];refine bY ?_;have Ks:=xG.trans x1;refine⟨_,rfl,a,rfl,⟨_,Ã.of (Ks _ _ ha)⟩,λ D hD=>?_⟩;refine bQ (a:=a) (xs:=xs) (λ i ys H'=>Ext H1 H'/\ys=((rs.take i).map R0.À).map V.int) (by rw [sizeLine_eq];omega) ⟨Ext.new hD,rfl⟩ (λ i ys H' pv=>Ã.of ((Ks.trans pv.1) _ _ ha)) ?_ ?_
 ·rintro i v ys H' ev ly Ô ⟨x',rfl⟩ os á R k;obtain⟨o0,rfl⟩:∃ o0,os=[o0]:=by
   match os,á with
   | [o0],_=>exact⟨o0,rfl⟩
  have hi:i<rs.length:=by have:=(List.getElem?_eq_some_iff.mp ev).1;omega
  have er:=List.getElem?_eq_getElem hi;have ru:=(al.2 i _ v er ev).ext (Ks.trans x');refine⟨⟨[some v],rfl,rfl⟩,cA (t:=.one rs[i]) (by decide +kernel) ru (λ R r=>⟨_,rfl,r⟩) ⟨v,.one rs[i],rfl,ru,k _ H' Ô ⟨aP _ x' hD,?_⟩⟩⟩
  rw [aA er,List.map_append,List.map_append];rfl
 rintro ys H2 ly Ô ⟨x2,rfl⟩;rw [<- lx,List.take_length] at Ô;refine⟨D,_,rfl,Ã.of Ô,?_⟩;refine⟨_,rfl,_,_,rfl,rfl,_,rfl,?_⟩;refine oM (λ c=>?_) (λ c=>?_)
 ·exact⟨_,rfl,λ e' de h1 h2 nd=>fE nd (qm (of_decide_eq_true c) H2 (x1.trans x2) e' de h1 h2 nd)⟩
 have SM:(rs.map R0.À).sum<=20:=by
  have:¬ ((rs.map R0.À).sum>20):=λ z=>c (decide_eq_true z);omega
 have ç:=x1.trans x2;have Nh:=xG.trans ç;refine⟨_,rfl,a,xs,rfl,.inl ⟨Ã.of (Nh _ _ ha),λ l hl=>?_⟩⟩;have x3:=Ext.new (o:=.tup xs) hl;have Ow:ae H2 l (.tup xs) l=some (.tup xs):=aL;have LX:=x3 _ _ (ç _ _ hx);have hl0:G l=none:=by
  cases e:G l with
  | none=>rfl
  | some o=>rw [Nh _ _ e] at hl;cases hl
 generalize ae H2 l (.tup xs)=H3 at x3 Ow LX ⊢;have VR:=ç.trans x3;refine⟨_,rfl,x,C 3,dx,[],rfl,LX,Z.cls 3 (by decide),Z.no 3 (by decide) _ (by decide +kernel),by decide,?_⟩
 have k4:Kept H3 (ae H3 x (.ins (C 3) dx (bO "rules" (.ref l) []))) x:=br _;have S0:ae H3 x (.ins (C 3) dx (bO "rules" (.ref l) [])) x=some (.ins (C 3) dx [("rules",.ref l)]):=aL;have xl:l≠x:=λ e=>by rw [e,LX] at Ow;cases Ow
 have S1:=k4 _ _ Ow xl;generalize ae H3 x (.ins (C 3) dx (bO "rules" (.ref l) []))=H4 at k4 S0 S1 ⊢;have S2:Kept H H4 x:=(VR.kept x).trans k4;have Ox:=xG.kp nG S2;refine⟨_,rfl,a,rfl,⟨_,Ã.of (Ox _ _ ha)⟩,λ D2 Ĉ=>?_⟩;refine bQ (a:=a) (xs:=xs) (λ i ys H'=>Ext H4 H'/\Á G ys ((rs.take i).map R0.told)) (by rw [sizeLine_eq];omega) ⟨Ext.new Ĉ,.nil⟩ (λ i ys H' pv=>Ã.of ((Ox.trans pv.1) _ _ ha)) ?_ ?_
 ·rintro i v ys H' ev ly Ô ⟨x',ry⟩ os á R k;obtain⟨o0,rfl⟩:∃ o0,os=[o0]:=by
   match os,á with
   | [o0],_=>exact⟨o0,rfl⟩
  have hi:i<rs.length:=by have:=(List.getElem?_eq_some_iff.mp ev).1;omega
  have er:=List.getElem?_eq_getElem hi;have S3:=al.2 i _ v er ev;have xg:=Ox.trans x';have ru:=S3.ext xg;refine⟨⟨[some v],rfl,rfl⟩,cA (t:=.one rs[i]) (by decide +kernel) ru (λ R r=>⟨_,rfl,r⟩) ⟨v,.one rs[i],G,rfl,xg,S3,λ b rb=>k b H' Ô ⟨aP _ x' Ĉ,?_⟩⟩⟩
  rw [aA er,List.map_append];exact ry.append (.cons rb .nil)
 rintro ys H5 ly ĥ ⟨x5,ry⟩;rw [<- lx,List.take_length] at ry;refine⟨D2,ys,rfl,.inl ⟨Ã.of ĥ,λ m hm=>⟨by show 2<=sizeLine;decide,λ k hk=>?_⟩⟩⟩
 have x6:=Ext.new (o:=.tup ys) hm;have S4:ae H5 m (.tup ys) m=some (.tup ys):=aL;generalize ae H5 m (.tup ys)=H6 at x6 S4 hk ⊢;have x7:=Ext.new (o:=.tup [.str "blocks",.ref m]) hk;have S5:ae H6 k (.tup [.str "blocks",.ref m]) k=some (.tup [.str "blocks",.ref m]):=aL;generalize ae H6 k (.tup [.str "blocks",.ref m])=H7 at x7 S5 ⊢;have Oy:=(x5.trans x6).trans x7;have Oz:=Ox.trans Oy;have Qd:=Oy _ _ S0;have S6:=Oy _ _ S1;have Qa:Ð H7 (.ref k) (Rl.blocks rs).told:=.tup S5 (.cons (.str _) (.cons (.tup (x7 _ _ S4) (Á.mono Oz ry)) .nil));have S7:=al.ext Oz;refine⟨_,rfl,_,rfl,_,rfl,x,C 3,dx,_,rfl,rfl,Qd,rfl,⟨x,0,dx,_,l,xs,rs,rfl,Qd,rfl,S6,S7,Nat.zero_le _,λ b H8 x8 rb=>?_⟩⟩;rw [Bu] at rb;refine⟨_,rfl,_,rfl,a,xs,rs,rfl,(Oz.trans x8) _ _ ha,S7.ext x8,l6,ok,λ pr H9 x9 rp=>?_⟩;have Ni:=x8.trans x9;have OA:=Ni _ _ Qd;have VS:=Ni _ _ S6;refine⟨x,_,_,_,_,3,dx,[("rules",.ref l)],rfl,by decide,OA,(by show 1<=5;decide),q SM _ ((S2.trans ((Oy.trans Ni).kept x)).trans (br _)) ?_⟩
 have kk:Kept H9 (ae H9 x (.ins (C 3) dx (fK (.int (rs.map R0.À).sum) (.ref b) (.ref k) (.ref pr) [("rules",.ref l)]))) x:=br _;have OB:=(Oz.trans Ni).kp nG kk;refine gN aL ((rb.mono x9).kept OA kk) ((Qa.mono Ni).kept OA kk) (rp.kept OA kk) (λ n hn=>?_) ⟨l,xs,?_,?_,al.ext OB⟩
 ·have e:n = "rules" := by simpa using hn
  rw [e]
  decide +kernel
 ·rw [cY (by decide +kernel)]
  rfl
 ·exact kk _ _ VS xl
abbrev yu:Stmt:=bX 33
abbrev Hl:List Str:=["parts","many","cut"]
theorem Nj:ad Hl ["parts","many"] (aa yu):=aM
def yp:Sp:=λ vs H Q _=>∃(v:V)(m:Int)(ps:List (List Int)),vs=[v,.int m]/\Ð H v (fz ps)/\Sm ps/\∀ l H',Ext H H'->Ð H' (.ref l) (fz (fO m ps))->Q (.ref l) H'
abbrev wS:Scope:={ kind:=.function,names:=[(".0",.local),("part",.local),("tuple",.globalImplicit),("many",.free)],isGenerator:=false,isCoroutine:=false }
abbrev Es:Scope:={ kind:=.function,names:=[(".0",.local),("at",.local),("many",.free)],isGenerator:=false,isCoroutine:=false }
abbrev B0:Scope:={ kind:=.function,names:=[(".0",.local),("part",.local),("len",.globalImplicit)],isGenerator:=false,isCoroutine:=false }
theorem jm {n z:Str}{a c:Addr}(h:List.lookup z [(n,a)]=some c):z=n/\c=a:=by
 rw [List.lookup_cons] at h;cases e:z==n with
 | true =>
  rw [e] at h;exact⟨beq_iff_eq.mp e,(Option.some.inj h).symm⟩
 | false =>
  rw [e] at h;cases h
variable {f:Addr}{cdv:Value}{A:Around}{outer:List Env}{s:Shared}{H:Hp}{E:XK}
theorem uV:bu (aV av P w K mg base Hl "parts_below" (aa yu) f cdv A outer s H E).ä wS [("many",s.heap.objs.size+1)] ["part"] ["many"] [1]:=by
 refine⟨rfl,rfl,by decide +kernel,by decide +kernel,by decide +kernel,(λ z c h=>?_),(λ z h=>?_),by decide +kernel,(λ k z h=>?_),rfl⟩
 ·obtain⟨rfl,rfl⟩:=jm h;rfl
 ·have h':List.lookup z [((".0" : Str),NameKind.local),(("part" : Str),NameKind.local),(("tuple" : Str),NameKind.globalImplicit),(("many" : Str),NameKind.cell)]=some .cell\/List.lookup z [((".0" : Str),NameKind.local),(("part" : Str),NameKind.local),(("tuple" : Str),NameKind.globalImplicit),(("many" : Str),NameKind.cell)]=some .free:=h;have e:z = "many" := by
   simp only [List.lookup_cons,List.lookup_nil] at h'
   repeat' (split at h')
   all_goals first | (simp at h';done) | (rename_i e;exact beq_iff_eq.mp e)
  subst e;exact⟨_,rfl⟩
 ·cases k with
  | zero =>
   cases h;exact⟨1,rfl,rfl,.inr (.inl rfl),(by show(aa yu).names.lookup ("many" : Str)≠some NameKind.local;decide +kernel),.inl rfl⟩
  | succ k=>cases h
theorem DC:((["part"]:List Str)++(["many"]:List Str)).Nodup:=by decide +kernel
theorem DY:((["at"]:List Str)++(["many"]:List Str)).Nodup:=by decide +kernel
theorem wH {s1:Shared}{H1:Hp}{C1:Addr}{fp:List Addr}:bu (bv (aV av P w K mg base Hl "parts_below" (aa yu) f cdv A outer s H E).ä wS [("many",s.heap.objs.size+1)] ((["part"]:List Str)++(["many"]:List Str)) s1 H1 C1 fp) Es [("many",s.heap.objs.size+1)] ["at"] ["many"] [1]:=by
 refine⟨rfl,rfl,by decide +kernel,by decide +kernel,by decide +kernel,(λ z c h=>?_),(λ z h=>?_),by decide +kernel,(λ k z h=>?_),rfl⟩
 ·obtain⟨rfl,rfl⟩:=jm h;rfl
 ·have h':List.lookup z [((".0" : Str),NameKind.local),(("at" : Str),NameKind.local),(("many" : Str),NameKind.cell)]=some .cell\/List.lookup z [((".0" : Str),NameKind.local),(("at" : Str),NameKind.local),(("many" : Str),NameKind.cell)]=some .free:=h;have e:z = "many" := by
   simp only [List.lookup_cons,List.lookup_nil] at h'
   repeat' (split at h')
   all_goals first | (simp at h';done) | (rename_i e;exact beq_iff_eq.mp e)
  subst e;exact⟨_,rfl⟩
 ·cases k with
  | zero =>
   cases h;exact⟨1,rfl,rfl,.inr (.inl rfl),(by intro z;cases z),.inl rfl⟩
  | succ k=>cases h
theorem vM {X:Cx}:bu X B0 [] ["part"] [] []:=by
 refine⟨rfl,rfl,by decide +kernel,by decide +kernel,by decide +kernel,(λ z c h=>nomatch h),(λ z h=>?_),by decide +kernel,(λ k z h=>by simp at h),rfl⟩
 exfalso;have h':List.lookup z [((".0" : Str),NameKind.local),(("part" : Str),NameKind.local),(("len" : Str),NameKind.globalImplicit)]=some .cell\/List.lookup z [((".0" : Str),NameKind.local),(("part" : Str),NameKind.local),(("len" : Str),NameKind.globalImplicit)]=some .free:=h;simp only [List.lookup_cons,List.lookup_nil] at h'
 repeat' (split at h')
 all_goals simp at h'
def BN (K:Frag):List V->Hp->VK->Prop:=λ xs H Q=>∃ p ys,xs=[.ref p]/\((Ã K H p ys/\∀ l,H l=none->Q (.ref l) (ae H l (.tup ys)))\/(Ì K H p ys/\Q (.ref p) H))
def wW:TT:=tB (aJ (c8 λ i j=>.bl (decide (i<j))) (af 0) (af 1))
def FZ (K:Frag):TE:=gH (BN K) (ah (i8 (E4 K (af 0)) 1 [1] (aW 0) wW (af 0)) aF)
def DU (K:Frag):List V->Hp->VK->Prop:=λ xs H Q=>∃ p ys,xs=[.ref p]/\(Ã K H p ys\/Ì K H p ys)/\Q (.int ys.length) H
def Hu (K:Frag):TT:=tB (aJ (c8 λ i j=>.bl (decide (i>j))) (gH (DU K) (ah (af 0) aF)) (tC (.int 0)))
def HQ (m:Int):V->Bool
 | .int i=>decide (i<m)
 | _=>false
def AU (H:Hp):V->Bool
 | .ref a=>match H a with
  | some (.tup ys)=>decide (0<ys.length)
  | _=>false
 | _=>false
theorem Cd {fd:FuncData}(F:Ö K "parts_below" "parts_below" yu f fd)(mt:mg "tuple" = none)(ml:mg "len" = none):Â P w K mg base av 1 f fd ["parts","many"] yp:=by
 refine F.ok Nj (λ vs H Q E h=>?_) (λ cdv A outer s H vs Q E hr h=>?_)
 ·obtain⟨_,_,_,rfl,_⟩:=h;rfl
 obtain⟨v,m,ps,rfl,rv,sm,q⟩:=h;have nd:=Nj.nd;refine⟨_,cw (oN (iy:=2) (te:=FZ K) (g:=aW 0) rfl uV (pb (pv 0)) (λ s H C fp=>by exact bV (i:=0) DC rfl (.inl rfl))
   (λ s H C fp=>by exact aO cz rfl mt PyProof.Rows.boot_tuple (ac (gS (te:=af 0) (tt:=wW) (g:=aW 0) rfl wH (pb (pv 0)) (λ s H C fp=>by exact bV (i:=0) DY rfl (.inl rfl)) (λ s H C fp=>by exact ao pN (pv 0) (pv 1) (ar _)) (λ s H C fp=>by exact pv 0)) ak)) nd rfl (Or.inl rfl) rfl)
  (aY (cZ (aO cz rfl mt PyProof.Rows.boot_tuple (ac (gS (te:=af 0) (tt:=Hu K) (g:=aW 0) rfl vM (aR (pv 2)) (λ s H C fp=>by exact bV (i:=0) HV rfl (.inl rfl)) (λ s H C fp=>by exact ao fS (am aG rfl ml PySem.boot_len (ac (pv 0) ak)) ay (ar _)) (λ s H C fp=>by exact pv 0)) ak)))),?_⟩
 obtain⟨p,xs,rfl,hp,rs⟩:=fZ rv;have lx:=rs.length;rw [List.length_map] at lx;have Ő:=sm.1;refine⟨_,rfl,p,rfl,⟨_,Ì.of hp⟩,λ D hD=>?_⟩;refine pz (a:=p) (xs:=xs) (λ i ys H'=>Ext H H'/\Á (wo H' D) ys (((ps.take i).map (·.filter λ x=>decide (x<m))).map lG)) (by rw [sizeLine_eq];omega) ⟨Ext.new hD,.nil⟩ (λ i ys H' pv=>Ì.of (pv.1 _ _ hp)) ?_ ?_
 ·rintro i x ys H' ex ly Ô ⟨x',ry⟩ os á R k;obtain⟨o0,rfl⟩:∃ o0,os=[o0]:=by
   match os,á with
   | [o0],_=>exact⟨o0,rfl⟩
  have hi:i<ps.length:=by have:=(List.getElem?_eq_some_iff.mp ex).1;omega
  have ep:=List.getElem?_eq_getElem hi;obtain⟨c,rfl,hc⟩:=iV rs ex ep;have ŝ:=x' _ _ hc;have pl:=sm.2 _ (List.getElem_mem hi);refine⟨⟨[some (.ref c)],rfl,rfl⟩,_,rfl,c,rfl,⟨_,Ì.of ŝ⟩,λ D2 Ĉ=>?_⟩;refine HZ (xs:=ps[i].map V.int) (J:=BU K c) (HQ m) (by rw [List.length_map,sizeLine_eq];omega) Ĉ (λ j H1 x1 lt=>⟨_,_,Ì.of (x1 _ _ ŝ),List.getElem?_eq_getElem lt⟩) (λ H1 x1=>⟨_,Ì.of (x1 _ _ ŝ),Nat.le_refl _⟩)
   (λ j H1 y PF x1 ⟨e,hy⟩=>⟨e,hy _ (Ì.of (x1 _ _ ŝ))⟩) (λ j y H1 hy x1 R r=>?_) (λ H4 x4 h4=>?_)
  ·rw [List.getElem?_map] at hy;obtain⟨n,_,rfl⟩:=Option.map_eq_some_iff.mp hy;exact⟨_,rfl,_,rfl,_,_,rfl,rfl,_,rfl,r H1 (Ext.refl _)⟩
  rw [dS (λ n=>decide (n<m)) (HQ m) (λ _=>rfl)] at h4;refine⟨D2,_,rfl,.inl ⟨Ã.of h4,λ t ht=>?_⟩⟩;have x5:=Ext.new (o:=.tup ((ps[i].filter λ n=>decide (n<m)).map V.int)) ht;have Qe:=x4.trans x5;have tD:t≠D:=λ e=>by rw [e,x4 _ _ Ô] at ht;cases ht
  refine k _ _ (Qe _ _ Ô) ⟨aP _ (x'.trans Qe) hD,?_⟩;rw [aA ep,List.map_append,List.map_append];exact Á.mono w6 ((Á.mono (ba Qe D) ry).append (.cons (.tup (aK tD aL) (dH _ _)) .nil))
 rintro ys H2 ly Ô ⟨x2,ry⟩;rw [lx,List.take_length] at ry;have Qf:=Á.mono (ai H2 D) ry;refine⟨_,rfl,D,rfl,⟨_,Ã.of Ô⟩,λ D3 VT=>?_⟩;have pp:∀(i:Nat) y qq,ys[i]?=some y->(ps.map λ p:List Int=>p.filter λ x=>decide (x<m))[i]?=some qq->∃ a,y=.ref a/\H2 a=some (.tup (qq.map V.int)):=λ i y qq hy hq=>iV Qf hy hq;have VU:=Qf.length;rw [List.length_map,List.length_map] at VU;refine HZ (xs:=ys) (J:=lS K D) (AU H2) (by rw [sizeLine_eq];omega) VT (λ j H1 x1 lt=>⟨_,_,Ã.of (x1 _ _ Ô),List.getElem?_eq_getElem lt⟩) (λ H1 x1=>⟨_,Ã.of (x1 _ _ Ô),Nat.le_refl _⟩)
  (λ j H1 y PF x1 ⟨e,hy⟩=>⟨e,hy _ (Ã.of (x1 _ _ Ô))⟩) (λ j y H1 hy x1 R r=>?_) (λ H4 x4 h4=>?_)
 ·have hj:j<(ps.map λ p:List Int=>p.filter λ x=>decide (x<m)).length:=by have:=(List.getElem?_eq_some_iff.mp hy).1;rw [List.length_map];omega
  obtain⟨a,rfl,ha⟩:=pp j y _ hy (List.getElem?_eq_getElem hj);have hv:AU H2 (.ref a)=decide (0<((ps.map λ p:List Int=>p.filter λ x=>decide (x<m))[j].map V.int).length):=by
   show(match H2 a with | some (.tup ys)=>decide (0<ys.length) | _=>false)=_
   rw [ha]
  refine⟨_,rfl,a,_,rfl,.inr (Ì.of (x1 _ _ ha)),_,_,rfl,rfl,_,rfl,?_⟩;have:=r H1 (Ext.refl _);rw [hv] at this;have e2:decide ((((ps.map λ p:List Int=>p.filter λ x=>decide (x<m))[j].map V.int).length:Int)>0)=decide (0<((ps.map λ p:List Int=>p.filter λ x=>decide (x<m))[j].map V.int).length):=decide_eq_decide.mpr (by omega)
  rw [e2];exact this
 refine⟨D3,_,rfl,.inl ⟨Ã.of h4,λ l hl=>?_⟩⟩;have x5:=Ext.new (o:=.tup (ys.filter (AU H2))) hl;refine q l _ (x2.trans (x4.trans x5)) (.tup aL ?_);unfold fO;refine Á.filter (f:=lG) (Á.mono (x4.trans x5) Qf) λ i y qq hy hq=>?_;obtain⟨a,rfl,ha⟩:=pp i y qq hy hq;show(match H2 a with | some (.tup ys)=>decide (0<ys.length) | _=>false)=_
 rw [ha];show decide (0<(qq.map V.int).length)=_;rw [List.length_map]
abbrev vI:Stmt:=az (bX 42) 0
abbrev IF:List Str:=["self","rule","many"]
theorem Nk:ad IF ["self","rule","many"] (aa vI):=aM
def mZ (C:Nat->Addr)(CN:Addr):Sp:=λ vs H Q E=>∃(x:Addr)(v u:V)(t:Rl)(d:PyData)(dx:Addr)(G:Hp),vs=[.ref x,v,u]/\H x=some (.ins (C 4) dx [])/\Ext G H/\G x=none/\Ru C G t v/\Sm t.parts/\Ð G u d/\(lM 0 t.À d=false->cS CN "found" u H E)/\∀ m,d=.int m->0<=m->m<=t.À->∀ H',Kept H H' x->Ru C H' (.first t m) (.ref x)->Q .Æ H'
variable {CN:Addr}
theorem qE {G:Hp}{t:Rl}{v:V}(ru:Ru C G t v):(t.kind=4->∃ a dx fs d,v=.ref a/\G a=some (.ins (C 4) dx fs)/\fs.lookup ("dealer" : Str)=some d/\J6 C G t.inner d)/\(t.kind≠4->J6 C G t.inner v):=by
 cases t with
 | one r=>exact⟨λ e=>by have:=r.Ñ;have e':r.kind=4:=e;omega,λ _=>ru⟩
 | blocks rs=>exact⟨λ e=>(by cases e),λ _=>ru⟩
 | first t m =>
  refine⟨λ _=>?_,λ e=>absurd rfl e⟩;obtain⟨a,dx,fs,rfl,ha,_,_,_,_,_,d,hd,rn⟩:=ru.ex;exact⟨a,dx,fs,d,rfl,ha,hd,rn⟩
theorem yX {fd:FuncData}(N:qG K)(Z:KR K C CR)(F:Ö K "__init__" "First.__init__" vI f fd)(M:Ms P w K mg base C)(Cf:fG K S "__init__" g)(G':Â P w K mg base av 1 g gd ["self","size","first_state","mark","parts"] (jc C))(bG:Binds K gd ["self","size","first_state","mark","parts"] [])(mS:mg "Rule" = some (.ref S))
  (A1:Df P w K mg base (cK P w) 3 "need_number" ["thing","low","high"] (tV CN) a1 d1)(A2:Df P w K mg base av 1 "parts_below" ["parts","many"] yp a2 d2)(m4:mg "First" = some (.ref (C 4)))(mi:mg "isinstance" = none):Â P w K mg base (cK P w) 4 f fd ["self","rule","many"] (mZ C CN):=by
 refine mk F Nk (λ vs H Q E h=>?_) (λ cdv A outer s H vs Q E hr h=>?_)
 ·obtain⟨_,_,_,_,_,_,_,rfl,_⟩:=h;rfl
 obtain⟨x,v,u,t,d,dx,G,rfl,hx,xG,nG,ru,sm,rd,qe,q⟩:=h;have nd:=Nk.nd;have Û:Ä 1 _:=hr.mono (by decide)
 refine⟨_,cw (aq (bU A1.G hr rfl A1.m A1.kp A1.b .nil dm (ac (pv 2) (ac ay (ac (bB (pv 1) M.À Û aj) ak)))))
  (cw (eF (pv 0) (nv (bI (am (ng N) rfl mi PyProof.Rows.boot_isinstance (ac (pv 1) (ac (bT (v:=.ref (C 4)) rfl m4 rfl) ak)))) (ud (pv 1) rfl) (pv 1)) rfl)
  (aY (aq (bL Cf G' Û rfl mS bG .nil aj (ac (pv 0) (ac (pv 2) (ac (bB (pv 1) M.begin Û aj) (ac (aI (ac aw (ac (bB (pv 1) M.told Û aj) (ac (pv 2) ak)))) (ac (bU A2.G Û rfl A2.m A2.kp A2.b .nil aj (ac (ud (pv 1) rfl) (ac (pv 2) ak))) ak))))))))),?_⟩
 have Qg:=ru.ext xG;refine⟨_,rfl,cA (by decide +kernel) Qg (λ R r=>⟨_,rfl,r⟩) ⟨v,t,rfl,Qg,u,d,0,t.À,rfl,rd.mono xG,λ h1=>?_,λ h1=>qe h1⟩⟩
 obtain⟨m,rfl,m0,m1⟩:=fm h1;cases rd;have fin:∀ dv,J6 C G t.inner dv->Fa K (af 0) (tC dv) "dealer" ⟨λ Ï H'=>iB (gn (jc C) [] E0 (ah (af 0) (ah (af 2) (ah (cE (qu C) "begin" (λ _=>iN C) E0 (af 1) aF) (ah (dw (ah (tC (.str "first")) (ah (cE (qu C) "told" (λ _=>jq C) E0 (af 1) aF) (ah (af 2) aF)))) (ah (gn yp [] E0 (ah (CI K (af 1) "parts") (ah (af 2) aF))) aF)))))) ⟨λ _ H'=>Q .Æ H',Q,λ _ _=>False,λ _ _=>False⟩ Ï H',Q,λ _ _=>False,λ _ _=>False⟩ [some (.ref x),some v,some (.int m)] H:=λ dv rn=>by
  refine⟨_,rfl,x,C 4,dx,[],rfl,hx,Z.cls 4 (by decide),Z.no 4 (by decide) _ (by decide +kernel),by decide,?_⟩
  have k1:Kept H (ae H x (.ins (C 4) dx (bO "dealer" dv []))) x:=br _;have ŗ:ae H x (.ins (C 4) dx (bO "dealer" dv [])) x=some (.ins (C 4) dx [("dealer",dv)]):=aL;generalize ae H x (.ins (C 4) dx (bO "dealer" dv []))=H1 at k1 ŗ ⊢;have Ks:=xG.kp nG k1;have S8:=ru.ext Ks;obtain⟨a,da,fa,rfl,ha,_,_,_,⟨pp,VV,VW⟩,_⟩:=ru.ob.ex;refine⟨_,rfl,_,rfl,cA (by decide +kernel) S8 (λ R r=>⟨_,rfl,r⟩) ⟨_,t,G,rfl,Ks,ru,λ b rb=>?_⟩⟩
  refine cA (by decide +kernel) S8 (λ R r=>⟨_,rfl,r⟩) ⟨_,t,G,rfl,Ks,ru,λ c rc=>⟨_,rfl,by show 3<=sizeLine;decide,λ k hk=>?_⟩⟩
  have x2:=Ext.new (o:=.tup [.str "first",c,.int m]) hk;have S9:ae H1 k (.tup [.str "first",c,.int m]) k=some (.tup [.str "first",c,.int m]):=aL;generalize ae H1 k (.tup [.str "first",c,.int m])=H2 at x2 S9 ⊢;have Nh:=Ks.trans x2;refine⟨_,rfl,a,C t.kind,da,fa,_,rfl,Nh _ _ ha,Z.cls _ t.Ñ,Z.no _ t.Ñ _ (by decide +kernel),VV,_,rfl,pp,m,t.parts,rfl,VW.mono Nh,sm,λ l H3 x3 rl=>?_⟩
  have ł:=x2.trans x3;have Ta:=Ks.trans ł;have LX:=ł _ _ ŗ;have VX:=x3 _ _ S9;refine⟨x,_,_,_,_,4,dx,[("dealer",dv)],rfl,by decide,LX,(by show 1<=5;decide),q m rfl m0 m1 _ ((k1.trans (ł.kept x)).trans (br _)) ?_⟩
  have kk:Kept H3 (ae H3 x (.ins (C 4) dx (fK (.int m) b (.ref k) (.ref l) [("dealer",dv)]))) x:=br _;have OB:=Ta.kp nG kk;refine gN aL (rb.mono OB) ((Ð.tup VX (.cons (.str _) (.cons (rc.mono Ta) (.cons (.int _) .nil)))).kept LX kk) (rl.kept LX kk) (λ n hn=>?_) ⟨dv,?_,rn.ext OB⟩
  ·have e:n = "dealer" := by simpa using hn
   rw [e]
   decide +kernel
  ·rw [cY (by decide +kernel)]
   rfl
 have dl:=qE ru;refine⟨_,rfl,_,_,_,_,rfl,Qg.kd Z,Z.kk t.kind 4 t.Ñ (by decide),_,rfl,?_⟩
 by_cases e4:t.kind=4
 ·rw [show(t.kind==4)=true from by simpa using e4]
  obtain⟨a,da,fa,dv,rfl,ha,hd,rn⟩:=dl.1 e4;exact cq ⟨_,rfl,a,C 4,da,fa,_,rfl,xG _ _ ha,Z.cls 4 (by decide),Z.no 4 (by decide) _ (by decide +kernel),hd,fin dv rn⟩
 ·rw [show(t.kind==4)=false from by simpa using e4]
  exact bY ⟨_,rfl,fin v (dl.2 e4)⟩
end
def rV (H H':Hp):Prop:=∀ b o,H b=some o->(∀ xs,o ≠ .lst xs)->H' b=some o
theorem Ic {H:Hp}{D:Addr}{ys:List V}(o:HO)(h:H D=some (.lst ys)):rV H (ae H D o):=λ b u e n=>by
 rw [ag (λ z=>by rw [z,h] at e;cases e;exact n ys rfl)]
 exact e
mutual
def bP:PyData->Bool
 | .list _=>false
 | .dict _=>false
 | .tuple xs=>Õ xs
 | _=>true
def Õ:List PyData->Bool
 | []=>true
 | x::xs=>bP x && Õ xs
end
theorem f8:∀{ds:List PyData},(∀ d∈ds,bP d=true)->Õ ds=true
 | [],_=>by simp [Õ]
 | x::xs,h=>by
  simp only [Õ,h x (List.mem_cons_self ..),f8 λ d hd=>h d (List.mem_cons_of_mem _ hd),Bool.and_self]
mutual
theorem Ð.Ë {G G':Hp}(s:rV G G'):∀{v:V}{d:PyData},bP d=true->Ð G v d->Ð G' v d
 | _,_,_,.Æ=>.Æ
 | _,_,_,.bl b=>.bl b
 | _,_,_,.int i=>.int i
 | _,_,_,.str x=>.str x
 | _,_,h,.lst e r=>by simp [bP] at h
 | _,_,h,.tup e r=>.tup (s _ _ e (λ _ z=>by cases z)) (Á.Ë s (by simpa only [bP] using h) r)
 | _,_,h,.ð e=>by simp [bP] at h
 | _,_,h,.ĸ e r=>by simp [bP] at h
theorem Á.Ë {G G':Hp}(s:rV G G'):∀{vs:List V}{ds:List PyData},Õ ds=true->Á G vs ds->Á G' vs ds
 | _,_,_,.nil=>.nil
 | _,_,h,.cons r t=>by
  simp only [Õ,Bool.and_eq_true] at h;exact .cons (Ð.Ë s h.1 r) (Á.Ë s h.2 t)
end
theorem R0.nl (r:R0):bP r.told=true:=by cases r <;> simp [R0.told,bP,Õ]
theorem R0.LY (r:R0):bP r.begin=true:=by cases r <;> simp [R0.begin,bP]
theorem Rl.nl:∀ t:Rl,bP t.told=true
 | .one r=>r.nl
 | .blocks rs=>by
  have:Õ (rs.map R0.told)=true:=f8 λ d hd=>by
   obtain⟨r,_,rfl⟩:=List.mem_map.mp hd;exact r.nl
  simp only [Rl.told,bP,Õ,this,Bool.and_self]
 | .first t m=>by simp only [Rl.told,bP,Õ,t.nl,Bool.and_self]
theorem Rl.LY:∀ t:Rl,bP t.begin=true
 | .one r=>r.LY
 | .blocks []=>by simp [Rl.begin,bP,Õ]
 | .blocks (r::_)=>by simp only [Rl.begin,bP,Õ,r.LY,Bool.and_self]
 | .first t _=>t.LY
theorem pC:∀(ns:List Int),Õ (ns.map PyData.int)=true
 | []=>by simp [Õ]
 | n::ns=>by simp only [List.map_cons,Õ,bP,pC ns,Bool.and_self]
theorem iQ (ps:List (List Int)):bP (fz ps)=true:=by
 show Õ (ps.map lG)=true;refine f8 λ d hd=>?_;obtain⟨p,_,rfl⟩:=List.mem_map.mp hd;exact pC p
theorem Ob.Ë {C:Addr}{H H':Hp}{v:V}{fk:Int}{bg tl pt:PyData}{X Y:List (Str × V)->Prop}(h:Ob C H v fk bg tl pt X)(s:rV H H')(n1:bP bg=true)(n2:bP tl=true)(n3:bP pt=true)(k:∀ fs,X fs->Y fs):Ob C H' v fk bg tl pt Y:=by
 obtain⟨a,dx,fs,rfl,ha,h1,⟨b,h2,r2⟩,⟨m,h3,r3⟩,⟨p,h4,r4⟩,h5,h6⟩:=h.ex;exact⟨a,dx,fs,rfl,s _ _ ha (λ _ z=>by cases z),h1,⟨b,h2,r2.Ë s n1⟩,⟨m,h3,r3.Ë s n2⟩,⟨p,h4,r4.Ë s n3⟩,h5,k fs h6⟩
section
variable {C:Nat->Addr}{H H':Hp}
theorem kO {a b:Int}:bP (.tuple [.int a,.int b])=true:=by simp [bP,Õ]
theorem Đ.Ë {r:R0}{v:V}(h:Đ C H r v)(s:rV H H'):Đ C H' r v:=Ob.Ë h s r.LY r.nl (iQ _) λ fs e=>by
 cases r with
 | split _ _=>trivial
 | pairs _ a b =>
  obtain⟨c,e1,e2⟩:=e;exact⟨c,e1,e2.Ë s kO⟩
 | æ _ a b f =>
  obtain⟨⟨c,e1,e2⟩,e3⟩:=e;exact⟨⟨c,e1,e2.Ë s kO⟩,e3⟩
theorem Ą.Ë {rs:List R0}{ws:List V}(h:Ą C H rs ws)(s:rV H H'):Ą C H' rs ws:=⟨h.1,λ i r w a b=>Đ.Ë (h.2 i r w a b) s⟩
theorem ż.Ë {rs:List R0}{v:V}(h:ż C H rs v)(s:rV H H'):ż C H' rs v:=Ob.Ë h s (Rl.LY _) (Rl.nl _) (iQ _) λ fs e=>by
 obtain⟨l,ws,e1,e2,e3⟩:=e;exact⟨l,ws,e1,s _ _ e2 (λ _ z=>by cases z),e3.Ë s⟩
theorem J6.Ë {t:Rl}{v:V}(h:J6 C H t v)(s:rV H H'):J6 C H' t v:=by
 cases t with
 | one r=>exact Đ.Ë h s
 | blocks rs=>exact ż.Ë h s
 | first _ _=>exact h.elim
theorem Ru.Ë {t:Rl}{v:V}(h:Ru C H t v)(s:rV H H'):Ru C H' t v:=by
 cases t with
 | one r=>exact Đ.Ë h s
 | blocks rs=>exact ż.Ë h s
 | first t m=>exact Ob.Ë h s t.LY (Rl.nl _) (iQ _) λ fs ⟨d,e1,e2⟩=>⟨d,e1,e2.Ë s⟩
theorem nI {rs:List R0}{ws:List V}{r:R0}{v:V}(h:Ą C H rs ws)(k:Đ C H r v):Ą C H (rs ++ [r]) (ws ++ [v]):=by
 refine⟨by rw [List.length_append,List.length_append,h.1];rfl,λ i r' w' hr hw=>?_⟩
 rcases Nat.lt_or_ge i rs.length with lt | ge
 ·rw [List.getElem?_append_left lt] at hr;rw [List.getElem?_append_left (by rw [<- h.1];exact lt)] at hw
  exact h.2 i r' w' hr hw
 ·rw [List.getElem?_append_right ge] at hr;rw [List.getElem?_append_right (by rw [<- h.1];exact ge)] at hw
  have i0:i=rs.length:=by
   rcases Nat.lt_or_ge (i-rs.length) 1 with z | z
   ·omega
   ·rw [List.getElem?_eq_none (by simpa using z)] at hr;cases hr
  subst i0;rw [Nat.sub_self] at hr;rw [h.1,Nat.sub_self] at hw;cases hr;cases hw;exact k
end
theorem eY {H:Hp}{x dx:Addr}{u v:HO}(hx:H x=none)(hd:H dx=none)(ne:dx≠x):Ext H (ae (ae H dx u) x v):=by
 have h2:ae H dx u x=none:=by rw [ag ne.symm];exact hx
 exact(Ext.new hd).trans (Ext.new h2)
end My
namespace My
open PySem PySem.W L2
structure ze (P:Program)(w:World)(K:Frag)(mg:Str->Option Value)(base:Heap)(C:Nat->Addr)(CN CS CT CM:Addr)(f0 f1 f2 f3 f4:Addr)(e0 e1 e2 e3 e4:FuncData):Prop where
 k0:Mk K (C 0) f0
 k1:Mk K (C 1) f1
 k2:Mk K (C 2) f2
 k3:Mk K (C 3) f3
 k4:Mk K (C 4) f4
 g0:Â P w K mg base (cK P w) 4 f0 e0 ["self","folk","ones"] (mq C CN)
 g1:Â P w K mg base (cK P w) 6 f1 e1 ["self","pairs","coin"] (kA C CN CS)
 g2:Â P w K mg base (cK P w) 6 f2 e2 ["self","folk","coin","far"] (nF C CN CS)
 g3:Â P w K mg base (cK P w) 4 f3 e3 ["self","rules"] (i6 K C CT CM)
 g4:Â P w K mg base (cK P w) 4 f4 e4 ["self","rule","many"] (mZ C CN)
 b0:Binds K e0 ["self","folk","ones"] []
 b1:Binds K e1 ["self","pairs","coin"] []
 b2:Binds K e2 ["self","folk","coin","far"] []
 b3:Binds K e3 ["self","rules"] []
 b4:Binds K e4 ["self","rule","many"] []
 m0:mg "Split" = some (.ref (C 0))
 m1:mg "Pairs" = some (.ref (C 1))
 m2:mg "Coins" = some (.ref (C 2))
 m3:mg "Blocks" = some (.ref (C 3))
 m4:mg "First" = some (.ref (C 4))
section
variable {K:Frag}{C:Nat->Addr}{CN CS CT CM:Addr}{H:Hp}{σ:St}{Q:VK}{E:XK}
theorem ic {lo hi n:Int}(h1:lo<=n)(h2:n<=hi):lM lo hi (.int n)=true:=by
 show(decide (lo<=n)&&decide (n<=hi))=true;rw [decide_eq_true h1,decide_eq_true h2];rfl
end
def GD (H0:Hp)(σ:St)(te:TE)(d:PyData):Prop:=∀(H:Hp)(Q:VK),Ext H0 H->(∀ v H',Ext H H'->Ð H' v d->Q v H')->te σ H Q
def Kt (H0:Hp)(σ:St)(ta:TA)(ds:List PyData):Prop:=∀(H:Hp)(Q:List V->Hp->Prop),Ext H0 H->(∀ vs H',Ext H H'->Á H' vs ds->Q vs H')->ta σ H Q
section
variable {H0:Hp}{σ:St}{te:TE}{ta:TA}{d:PyData}{ds:List PyData}
theorem GD.int (i:Int):GD H0 σ (tC (.int i)) (.int i):=λ H Q _ q=>q _ H (Ext.refl _) (.int i)
theorem Kt.nil:Kt H0 σ aF []:=λ H Q _ q=>q [] H (Ext.refl _) .nil
theorem Kt.cons (h:GD H0 σ te d)(k:Kt H0 σ ta ds):Kt H0 σ (ah te ta) (d::ds):=λ H Q x q =>
 h H _ x λ v H1 x1 r=>k H1 _ (x.trans x1) λ vs H2 x2 rs=>q (v::vs) H2 (x1.trans x2) (.cons (r.mono x2) rs)
theorem GD.tup (k:Kt H0 σ ta ds)(hz:ds.length<=sizeLine):GD H0 σ (dw ta) (.tuple ds):=λ H Q x q =>
 k H _ x λ vs H1 x1 rs=>⟨by rw [rs.length];exact hz,λ p hp=>q _ _ (x1.trans (Ext.new hp)) (.tup aL (rs.mono (Ext.new hp)))⟩
theorem Kt.use {Q:VK}(k:Kt H0 σ ta ds)(hz:ds.length<=sizeLine)(q:∀ l vs H',Ext H0 H'->H0 l=none->H' l=some (.lst vs)->Á H' vs ds->Q (.ref l) H'):bM ta σ H0 Q :=
 k H0 _ (Ext.refl _) λ vs H1 x1 rs=>⟨by rw [rs.length];exact hz,λ p hp=>q p vs _ (x1.trans (Ext.new hp)) (by
  cases e:H0 p with
  | none=>rfl
  | some o=>rw [x1 _ _ e] at hp;cases hp) aL (rs.mono (Ext.new hp))⟩
end
theorem Sc.OC {K:Frag}{H H':Hp}{s p:Addr}{ns:List Int}(c:Sc K H s p ns)(x:Ext (wo H p) (wo H' p))(b:Ú H' p):Sc K H' s p ns:=by
 refine⟨?_,c.Jj,c.ne,b⟩;rcases c.sq with(h | ⟨o,h⟩) | h
 ·exact .inl (.inl (ai _ _ _ _ (x _ _ (aK c.ne h))))
 ·exact .inl (.inr ⟨o,ai _ _ _ _ (x _ _ (aK c.ne h))⟩)
 ·exact .inr h
def ŧ:List (Int × Int):=[(1,2),(1,2),(1,3),(2,3),(1,4),(5,7),(1,100),(99,100)]
def ue (c:Int × Int):PyData:=.tuple [.int c.1,.int c.2]
theorem qw:∀ c ∈ ŧ,dG (ue c)=true:=by decide +kernel
theorem Đ.wo {C:Nat->Addr}{H:Hp}{p:Addr}{r:R0}{v:V}(h:Đ C H r v)(b:Ú H p):Đ C (wo H p) r v:=h.Ë λ a o e n=>by
 obtain⟨_,_,_,hp,_⟩:=b.ex;exact aK (λ z=>by subst z;rw [hp] at e;cases e;exact n _ rfl) e
section
variable {K:Frag}{C:Nat->Addr}{CN CS CT CM:Addr}{H:Hp}{R:VK}{E:XK}{x dx:Addr}
theorem jX {n k:Int}(hx:H x=none)(hd:H dx=none)(ne:dx≠x)(ok:(R0.split n k).ok)(q:∀ H',Ext H H'->Ru C H' (.one (.split n k)) (.ref x)->R .Æ H'):mq C CN [.ref x,.int n,.int k] (ae (ae H dx (.own x)) x (.ins (C 0) dx [])) R E:=by
 have xe:=eY (u:=.own x) (v:=.ins (C 0) dx []) hx hd ne;obtain⟨o1,o2,o3,o4⟩:=id ok;refine⟨x,_,_,_,_,dx,rfl,aL,.int _,.int _,λ h=>(by rw [ic o1 o2] at h;cases h),λ m e _ _ h=>(by cases e;rw [ic o3 o4] at h;cases h),λ n' k' e1 e2 _ H' kp ru=>?_⟩
 cases e1;cases e2;exact q H' (xe.kp hx kp) ru
theorem kD {n a b:Int}{c:V}(hx:H x=none)(hd:H dx=none)(ne:dx≠x)(rc:Ð H c (.tuple [.int a,.int b]))(ok:(R0.pairs n a b).ok)(q:∀ H',Ext H H'->Ru C H' (.one (.pairs n a b)) (.ref x)->R .Æ H'):kA C CN CS [.ref x,.int n,c] (ae (ae H dx (.own x)) x (.ins (C 1) dx [])) R E:=by
 have xe:=eY (u:=.own x) (v:=.ins (C 1) dx []) hx hd ne;obtain⟨o1,o2,o3⟩:=id ok;refine⟨x,_,_,_,_,dx,rfl,aL,.int _,rc.mono xe,λ h=>(by rw [ic o1 o2] at h;cases h),λ _ h=>(by rw [o3] at h;cases h),λ n' a' b' e1 e2 _ H' kp ru=>?_⟩
 cases e1;cases e2;exact q H' (xe.kp hx kp) ru
theorem qx {n a b f:Int}{c:V}(hx:H x=none)(hd:H dx=none)(ne:dx≠x)(rc:Ð H c (.tuple [.int a,.int b]))(ok:(R0.æ n a b f).ok)(q:∀ H',Ext H H'->Ru C H' (.one (.æ n a b f)) (.ref x)->R .Æ H'):nF C CN CS [.ref x,.int n,c,.int f] (ae (ae H dx (.own x)) x (.ins (C 2) dx [])) R E:=by
 have xe:=eY (u:=.own x) (v:=.ins (C 2) dx []) hx hd ne;obtain⟨o1,o2,o3,o4,o5⟩:=id ok;refine⟨x,_,_,_,_,_,_,dx,rfl,aL,.int _,rc.mono xe,.int _,λ h=>(by rw [ic o1 o2] at h;cases h),λ _ h=>(by rw [o3] at h;cases h),λ _ _ h=>(by rw [ic o4 o5] at h;cases h),λ n' a' b' f' e1 e2 e3 _ H' kp ru=>?_⟩
 cases e1;cases e2;cases e3;exact q H' (xe.kp hx kp) ru
theorem i7 {l:Addr}{ws:List V}{rs:List R0}(hx:H x=none)(hd:H dx=none)(ne:dx≠x)(hl:H l=some (.lst ws))(al:Ą C H rs ws)(ok:(Rl.blocks rs).ok)(q:∀ H',Ext H H'->Ru C H' (.blocks rs) (.ref x)->R .Æ H'):i6 K C CT CM [.ref x,.ref l] (ae (ae H dx (.own x)) x (.ins (C 3) dx [])) R E:=by
 have xe:=eY (u:=.own x) (v:=.ins (C 3) dx []) hx hd ne;obtain⟨o1,o2,o3,o4⟩:=id ok;exact⟨x,_,dx,H,rfl,aL,xe,hx,.inr (.inr ⟨l,ws,rs,rfl,hl,al,o1,o2,o3,λ h=>absurd o4 (by omega),λ _ H' kp ru=>q H' (xe.kp hx kp) ru⟩)⟩
theorem qh {v:V}{r:Rl}{m:Int}(hx:H x=none)(hd:H dx=none)(ne:dx≠x)(ru:Ru C H r v)(ok:(Rl.first r m).ok)(q:∀ H',Ext H H'->Ru C H' (.first r m) (.ref x)->R .Æ H'):mZ C CN [.ref x,v,.int m] (ae (ae H dx (.own x)) x (.ins (C 4) dx [])) R E:=by
 have xe:=eY (u:=.own x) (v:=.ins (C 4) dx []) hx hd ne;obtain⟨o1,o2,o3⟩:=id ok;refine⟨x,_,_,r,_,dx,H,rfl,aL,xe,hx,ru,Rl.sm o1,.int m,λ h=>(by rw [ic o2 o3] at h;cases h),λ m' e _ _ H' kp ru=>?_⟩
 cases e;exact q H' (xe.kp hx kp) ru
end
section
variable {P:Program}{w:World}{K:Frag}{mg:Str->Option Value}{base:Heap}{C:Nat->Addr}{CR CN CS CT CM f f0 f1 f2 f3 f4 a1:Addr}{fd e0 e1 e2 e3 e4 d1:FuncData}
abbrev pI:Stmt:=bX 64
abbrev qK (i:Nat):Stmt:=(au pI).getD i (.Pass ⟨0,0,0,0⟩)
abbrev xi:List Str:=["_law_script","_law_pen","_law_most","_law_coin","_law_way","_law_pairs","_law_folk_here"]
theorem JM:ad xi ["_law_script","_law_pen","_law_most"] (aa pI):=aM
def ĉ (C:Nat->Addr)(H:Hp)(v:V)(r:R0):Prop:=∃ l u,v=.ref l/\H l=some (.lst [.str r.word,u,.int r.À])/\Đ C H r u
theorem ĉ.ext {C:Nat->Addr}{H H':Hp}{v:V}{r:R0}(h:ĉ C H v r)(x:Ext H H'):ĉ C H' v r:=by
 obtain⟨l,u,e,hl,ru⟩:=h;exact⟨l,u,e,x _ _ hl,ru.ext x⟩
def qY (K:Frag)(C:Nat->Addr):Sp:=λ vs H Q _=>∃(s p:Addr)(ns:List Int)(m:Int),vs=[.ref s,.ref p,.int m]/\Sc K H s p ns/\1<=m/\m<=20/\∀ l r H',Sc K H' s p ns->Ext (wo H p) (wo H' p)->wo H p l=none->ĉ C (wo H' p) (.ref l) r->r.ok->r.À <= m->Q (.ref l) H'
def lF (a b:Int):TE:=dw (ah (tC (.int a)) (ah (tC (.int b)) aF))
def zL:TA:=ah (lF 1 2) (ah (lF 1 2) (ah (lF 1 3) (ah (lF 2 3) (ah (lF 1 4) (ah (lF 5 7) (ah (lF 1 100) (ah (lF 99 100) aF)))))))
def yV (K:Frag):TS:=cH (aJ (cT K) (bM zL) (eV K (tC (.int 8)))) (aW 3)
def EO (K:Frag):TS:=cH (eV K (tC (.int 3))) (aW 4)
def jg (t:TE):TE:=aJ (c8 λ i j=>.int (i+j)) (tC (.int 1)) t
def D5 (K:Frag)(C:Nat->Addr)(CN CS:Addr):TS:=dz (qX (tB (aJ pP (af 4) (tC (.int 1)))) (tB (aJ (c8 λ i j=>.bl (decide (i>j))) (af 2) (tC (.int 1)))))
 (aH (cH (jg (eV K (aJ (rI iG λ i j=>.int (i/j)) (af 2) (tC (.int 2))))) (aW 5)) (bN (bM (ah (tC (.str "pairs")) (ah (dE (C 1) (kA C CN CS) [] E0 (ah (af 5) (ah (af 3) aF))) (ah (aJ (rI ÿ λ i j=>.int (i*j)) (tC (.int 2)) (af 5)) aF)))))) bS
def xQ (K:Frag):TS:=cH (jg (eV K (af 2))) (aW 6)
def zv (K:Frag)(C:Nat->Addr)(CN CS:Addr):TS:=dz (tB (aJ pP (af 4) (tC (.int 2)))) (bN (bM (ah (tC (.str "coins")) (ah (dE (C 2) (nF C CN CS) [] E0 (ah (af 6) (ah (af 3) (ah (jg (eV K (aJ (cT K) (bM (ah (tC (.int 2)) (ah (tC (.int 20)) aF))) (eV K (tC (.int 2)))))) aF)))) (ah (af 6) aF))))) bS
def wa (K:Frag)(C:Nat->Addr)(CN:Addr):TS:=bN (bM (ah (tC (.str "split")) (ah (dE (C 0) (mq C CN) [] E0 (ah (af 6) (ah (eV K (aJ (c8 λ i j=>.int (i+j)) (af 6) (tC (.int 1)))) aF))) (ah (af 6) aF))))
def Ii (K:Frag)(C:Nat->Addr)(CN CS:Addr):TS:=aH (yV K) (aH (EO K) (aH (D5 K C CN CS) (aH (xQ K) (aH (zv K C CN CS) (wa K C CN)))))
section
variable {cdv:Value}{A:Around}{outer:List Env}{s:Shared}{H:Hp}{E:XK}(L:ze P w K mg base C CN CS CT CM f0 f1 f2 f3 f4 e0 e1 e2 e3 e4)(A1:Df P w K mg base av 1 "_law_take" ["_law_script","_law_pen","_law_many"] (dJ K) a1 d1)(hr:qI 7 "_law_plain_rule" pI A s f cdv)
include A1 hr
theorem G5:Bx (PS (aV av P w K mg base xi "_law_plain_rule" (aa pI) f cdv A outer s H E).ä (qK 0) (yV K)):=by
 have Û:Ä 1 _:=hr.mono (by decide)
 exact aX (i:=3) JM.nd rfl (Or.inl rfl) (D1 fL (io (eN (dZ (eN ⟨ay⟩ (eN ⟨ay⟩ bH))) (eN (dZ (eN ⟨ay⟩ (eN ⟨ay⟩ bH))) (eN (dZ (eN ⟨ay⟩ (eN ⟨ay⟩ bH))) (eN (dZ (eN ⟨ay⟩ (eN ⟨ay⟩ bH)))
  (eN (dZ (eN ⟨ay⟩ (eN ⟨ay⟩ bH))) (eN (dZ (eN ⟨ay⟩ (eN ⟨ay⟩ bH))) (eN (dZ (eN ⟨ay⟩ (eN ⟨ay⟩ bH))) (eN (dZ (eN ⟨ay⟩ (eN ⟨ay⟩ bH))) bH)))))))))
  ⟨bU A1.G Û rfl A1.m A1.kp A1.b .nil aj (ac (pv 0) (ac (pv 1) (ac ay ak)))⟩)
theorem Gn:Bx (PS (aV av P w K mg base xi "_law_plain_rule" (aa pI) f cdv A outer s H E).ä (qK 1) (EO K)):=by
 have Û:Ä 1 _:=hr.mono (by decide)
 exact aX (i:=4) JM.nd rfl (Or.inl rfl) ⟨bU A1.G Û rfl A1.m A1.kp A1.b .nil aj (ac (pv 0) (ac (pv 1) (ac ay ak)))⟩
theorem Hi:Bx (PS (aV av P w K mg base xi "_law_plain_rule" (aa pI) f cdv A outer s H E).ä (qK 3) (xQ K)):=by
 have Û:Ä 1 _:=hr.mono (by decide)
 exact aX (i:=6) JM.nd rfl (Or.inl rfl) ⟨ax bt ay (bU A1.G Û rfl A1.m A1.kp A1.b .nil aj (ac (pv 0) (ac (pv 1) (ac (pv 2) ak))))⟩
include L
theorem FP:Bx (PS (aV av P w K mg base xi "_law_plain_rule" (aa pI) f cdv A outer s H E).ä (qK 2) (D5 K C CN CS)):=by
 have Û:Ä 1 _:=hr.mono (by decide)
 exact jt ⟨PW.pt (im (ao cr (pv 4) ay (ar _)) (gh (ao fS (pv 2) ay (ar _))))⟩
  (cI (aX (i:=5) JM.nd rfl (Or.inl rfl) ⟨ax bt ay (bU A1.G Û rfl A1.m A1.kp A1.b .nil aj (ac (pv 0) (ac (pv 1) (ac (ax fh (pv 2) ay) ak))))⟩)
  (be (hI (io (eN ⟨aw⟩ (eN ⟨dU L.k1 L.g1 hr rfl L.m1 L.b1 .nil gr (ac (pv 5) (ac (pv 3) ak))⟩ (eN ⟨ax eI ay (pv 5)⟩ bH))))))) fg
theorem FU:Bx (PS (aV av P w K mg base xi "_law_plain_rule" (aa pI) f cdv A outer s H E).ä (qK 4) (zv K C CN CS)):=by
 have Û:Ä 1 _:=hr.mono (by decide)
 exact jt ⟨ao cr (pv 4) ay (ar _)⟩ (be (hI (io (eN ⟨aw⟩ (eN ⟨dU L.k2 L.g2 hr rfl L.m2 L.b2 .nil gr (ac (pv 6) (ac (pv 3) (ac (ax bt ay (bU A1.G Û rfl A1.m A1.kp A1.b .nil aj (ac (pv 0) (ac (pv 1) (ac (cy fL (cj (ac ay (ac ay ak))) (bU A1.G Û rfl A1.m A1.kp A1.b .nil aj (ac (pv 0) (ac (pv 1) (ac ay ak))))) ak))))) ak)))⟩ (eN ⟨pv 6⟩ bH)))))) fg
theorem G9:Bx (PS (aV av P w K mg base xi "_law_plain_rule" (aa pI) f cdv A outer s H E).ä (qK 5) (wa K C CN)):=by
 have Û:Ä 1 _:=hr.mono (by decide)
 have JL:Ä 5 _:=hr.mono (by decide)
 exact hI (io (eN ⟨aw⟩ (eN ⟨dU L.k0 L.g0 JL rfl L.m0 L.b0 .nil gr (ac (pv 6) (ac (bU A1.G Û rfl A1.m A1.kp A1.b .nil aj (ac (pv 0) (ac (pv 1) (ac (ax bt (pv 6) ay) ak)))) ak))⟩ (eN ⟨pv 6⟩ bH))))
theorem xL:Bx (ü (aV av P w K mg base xi "_law_plain_rule" (aa pI) f cdv A outer s H E).ä (au pI) (Ii K C CN CS)) :=
 cI (G5 A1 hr) (cI (Gn A1 hr) (cI (FP L A1 hr) (cI (Hi A1 hr) (cI (FU L A1 hr) (be (G9 L A1 hr))))))
end
theorem nY {H H1:Hp}{s p:Addr}{ns:List Int}{m:Int}{Q:VK}{r:R0}{x:Addr}(é:Sc K H1 s p ns)(xw:Ext (wo H p) (wo H1 p))(ru:Đ C H1 r (.ref x))(ok:r.ok)(le:r.À <= m)
  (q:∀ l r H',Sc K H' s p ns->Ext (wo H p) (wo H' p)->wo H p l=none->ĉ C (wo H' p) (.ref l) r->r.ok->r.À <= m->Q (.ref l) H')(l:Addr)(hl:H1 l=none):Q (.ref l) (ae H1 l (.lst [.str r.word,.ref x,.int r.À])):=by
 have x2:=Ext.new (o:=.lst [.str r.word,.ref x,.int r.À]) hl;have g2:ae H1 l (.lst [.str r.word,.ref x,.int r.À]) l=some (.lst [.str r.word,.ref x,.int r.À]):=aL;have Ā:=é.ext x2;refine q l r _ Ā (xw.trans (ba x2 p)) ?_ ⟨l,_,rfl,aK (é.bx.ne hl) g2,(ru.wo é.bx).ext (ba x2 p)⟩ ok le;cases e:wo H p l with
 | none=>rfl
 | some o=>have:=ai _ _ _ _ (xw _ _ e);rw [hl] at this;cases this
theorem AZ (H:Hp)(σ:St):Kt H σ zL (ŧ.map ue) :=
 .cons (.tup (.cons (.int 1) (.cons (.int 2) .nil)) (by decide)) (.cons (.tup (.cons (.int 1) (.cons (.int 2) .nil)) (by decide)) (.cons (.tup (.cons (.int 1) (.cons (.int 3) .nil)) (by decide)) (.cons (.tup (.cons (.int 2) (.cons (.int 3) .nil)) (by decide))
  (.cons (.tup (.cons (.int 1) (.cons (.int 4) .nil)) (by decide)) (.cons (.tup (.cons (.int 5) (.cons (.int 7) .nil)) (by decide)) (.cons (.tup (.cons (.int 1) (.cons (.int 100) .nil)) (by decide)) (.cons (.tup (.cons (.int 99) (.cons (.int 100) .nil)) (by decide)) .nil)))))))
theorem A0 {De:bA}{u:TS}{H:Hp}{sA p:Addr}{ns:List Int}{o2 o3 o4 o5 o6:Option V}(sc:Sc K H sA p ns)(k:∀ cv co H1,co ∈ ŧ->Sc K H1 sA p ns->Ext (wo H p) (wo H1 p)->Ð (wo H1 p) cv (ue co)->u De [some (.ref sA),some (.ref p),o2,some cv,o4,o5,o6] H1) :
  aH (yV K) u De [some (.ref sA),some (.ref p),o2,o3,o4,o5,o6] H:=by
 refine aQ (te:=aJ (cT K) (bM zL) (eV K (tC (.int 8)))) (i:=3) (D:=De) (jp ((AZ H _).use (by decide) λ l0 vs H0 x0 n0 g0 rs=>?_))
 refine bp (sc.ext x0) rfl rfl (λ R r=>r) (by decide) (by decide) λ r H1 r0 r8 é k1=>?_
 have Qh:l0≠p:=sc.bx.ne n0;have g1:=k1 _ _ g0 Qh;have lv:=rs.length;rw [List.length_map] at lv;have OD:r.toNat<vs.length:=by rw [lv];show _<8;omega
 obtain⟨d,ed,rd⟩:=rs.get (List.getElem?_eq_getElem OD);rw [List.getElem?_map] at ed;obtain⟨co,eco,rfl⟩:=Option.map_eq_some_iff.mp ed;have VY:Ð (wo H0 p) vs[r.toNat] (ue co):=rd.Ë (λ a o e n=>by
  obtain⟨_,_,_,hp,_⟩:=(sc.ext x0).bx.ex;exact aK (λ z=>by subst z;rw [hp] at e;cases e;exact n _ rfl) e) kO
 have er:r=(r.toNat:Int):=by omega
 refine⟨l0,_,r,vs[r.toNat],rfl,rfl,Ã.of g1,by have z:=cX (List.getElem?_eq_getElem OD);rwa [<- er] at z,?_⟩
 exact k _ co H1 (List.mem_of_getElem? eco) é ((ba x0 p).trans (aB k1)) (VY.mono (aB k1))
theorem zI {De:bA}{u:TS}{H H2:Hp}{sA p:Addr}{ns:List Int}{m:Int}{cv:V}{co:Int × Int}{o4 o5 o6:Option V}{Q:VK}(Ā:Sc K H2 sA p ns)(xb:Ext (wo H p) (wo H2 p))(Ũ:Ð (wo H2 p) cv (ue co))(JN:dG (ue co)=true)(em:m>1)(m2:m<=20)(J8:De.rt=Q)
  (q:∀ l r H',Sc K H' sA p ns->Ext (wo H p) (wo H' p)->wo H p l=none->ĉ C (wo H' p) (.ref l) r->r.ok->r.À <= m->Q (.ref l) H') :
  aH (cH (jg (eV K (aJ (rI iG λ i j=>.int (i/j)) (af 2) (tC (.int 2))))) (aW 5)) (bN (bM (ah (tC (.str "pairs")) (ah (dE (C 1) (kA C CN CS) [] E0 (ah (af 5) (ah (af 3) aF))) (ah (aJ (rI ÿ λ i j=>.int (i*j)) (tC (.int 2)) (af 5)) aF))))) De [some (.ref sA),some (.ref p),some (.int m),some cv,o4,o5,o6] H2:=by
 refine aQ (te:=jg (eV K (aJ (rI iG λ i j=>.int (i/j)) (af 2) (tC (.int 2))))) (i:=5) (D:=De) ?_;show eV K (aJ (rI iG λ i j=>.int (i/j)) (af 2) (tC (.int 2))) _ H2 _;refine bp (m:=m/2) Ā rfl rfl (λ R r=>⟨_,rfl,_,_,rfl,rfl,⟨by decide,by decide⟩,r⟩) (by omega) (by omega) λ z H3 z0 zm Ħ k3=>⟨_,_,rfl,rfl,?_⟩
 refine⟨_,rfl,_,rfl,?_⟩;have JO:=Ũ.mono (aB k3);refine λ x dx hx hd ne=>kD hx hd ne (JO.mono (ai _ _)) ⟨by omega,by omega,JN⟩ λ H6 x6 ru=>⟨rfl,?_⟩
 refine⟨_,rfl,_,_,rfl,rfl,.inl ⟨by decide,by decide⟩,by show 3<=sizeLine;decide,λ l hl=>?_⟩
 show De.rt _ _;rw [J8];exact nY (r:=.pairs (1+z) co.1 co.2) (Ħ.ext x6) ((xb.trans (aB k3)).trans (ba x6 p)) ru ⟨by omega,by omega,JN⟩ (by show 2*(1+z)<=m;omega) q l hl
theorem xO {De:bA}{H H3:Hp}{sA p:Addr}{ns:List Int}{m n:Int}{o2 o3 o4 o5:Option V}{Q:VK}(Ħ:Sc K H3 sA p ns)(xc:Ext (wo H p) (wo H3 p))(n1:1<=n)(nm:n<=m)(m2:m<=20)(J8:De.rt=Q)
  (q:∀ l r H',Sc K H' sA p ns->Ext (wo H p) (wo H' p)->wo H p l=none->ĉ C (wo H' p) (.ref l) r->r.ok->r.À <= m->Q (.ref l) H'):wa K C CN De [some (.ref sA),some (.ref p),o2,o3,o4,o5,some (.int n)] H3:=by
 refine⟨_,rfl,?_⟩;refine bp (m:=n+1) Ħ rfl rfl (λ R r=>⟨_,rfl,_,_,rfl,rfl,r⟩) (by omega) (by omega) λ u H7 u0 ub VZ k7=>?_
 refine λ x dx hx hd ne=>jX hx hd ne ⟨by omega,by omega,by omega,by omega⟩ λ H6 x6 ru=>⟨rfl,?_⟩
 refine⟨_,rfl,by show 3<=sizeLine;decide,λ l hl=>?_⟩
 show De.rt _ _;rw [J8];exact nY (r:=.split n u) (VZ.ext x6) ((xc.trans (aB k7)).trans (ba x6 p)) ru ⟨by omega,by omega,by omega,by omega⟩ (by show n<=m;omega) q l hl
def Dp (K:Frag):TE:=eV K (aJ (cT K) (bM (ah (tC (.int 2)) (ah (tC (.int 20)) aF))) (eV K (tC (.int 2))))
theorem yP {H3:Hp}{sA p:Addr}{ns:List Int}{σ:St}{R:VK}(Ħ:Sc K H3 sA p ns)(h0:σ[0]?=some (some (.ref sA)))(h1:σ[1]?=some (some (.ref p)))(k:∀ u H5,0<=u->u<20->Sc K H5 sA p ns->Ext (wo H3 p) (wo H5 p)->R (.int u) H5):Dp K σ H3 R:=by
 refine⟨_,h0,_,h1,by show 2<=sizeLine;decide,λ l5 h5=>?_⟩
 have x5:=Ext.new (o:=.lst [V.int 2,.int 20]) h5;have g5:ae H3 l5 (.lst [V.int 2,.int 20]) l5=some (.lst [V.int 2,.int 20]):=aL;have n5:=Ħ.bx.ne h5;show eV K (tC (.int 2)) _ (ae H3 l5 (.lst [V.int 2,.int 20])) _;have IT:=Ħ.ext x5;generalize ae H3 l5 (.lst [V.int 2,.int 20])=H4 at x5 g5 IT ⊢;refine bp IT h0 h1 (λ R r=>r) (by decide) (by decide) λ j H6 j0 j2 LZ k6=>?_
 have g6:=k6 _ _ g5 n5;obtain⟨b,eb,b1,b2⟩:∃ b:Int,([V.int 2,.int 20]:List V)[j.toNat]?=some (.int b)/\2<=b/\b<=20:=by
  rcases(by omega:j=0\/j=1) with rfl | rfl
  ·exact⟨2,rfl,by decide,by decide⟩
  ·exact⟨20,rfl,by decide,by decide⟩
 have ej:j=(j.toNat:Int):=by omega
 refine⟨l5,_,j,.int b,rfl,rfl,Ã.of g6,by rw [ej];exact cX eb,?_⟩
 exact⟨sA,ns,p,b,rfl,LZ.sq,LZ.Jj,LZ.ne,LZ.bx,by omega,by omega,λ u H7 u0 ub V0 k7 _=>k u H7 (by omega) (by omega) (LZ.kept k7 V0) (((ba x5 p).trans (aB k6)).trans (aB k7))⟩
theorem zN {De:bA}{H H3:Hp}{sA p:Addr}{ns:List Int}{m n:Int}{cv:V}{co:Int × Int}{o2 o4 o5:Option V}{Q:VK}(Ħ:Sc K H3 sA p ns)(xc:Ext (wo H p) (wo H3 p))(JO:Ð (wo H3 p) cv (ue co))(JN:dG (ue co)=true)(n1:1<=n)(nm:n<=m)(m2:m<=20)(J8:De.rt=Q)
  (q:∀ l r H',Sc K H' sA p ns->Ext (wo H p) (wo H' p)->wo H p l=none->ĉ C (wo H' p) (.ref l) r->r.ok->r.À <= m->Q (.ref l) H') :
  bN (bM (ah (tC (.str "coins")) (ah (dE (C 2) (nF C CN CS) [] E0 (ah (af 6) (ah (af 3) (ah (jg (Dp K)) aF)))) (ah (af 6) aF)))) De [some (.ref sA),some (.ref p),o2,some cv,o4,o5,some (.int n)] H3:=by
 refine⟨_,rfl,_,rfl,?_⟩;refine yP Ħ rfl rfl λ u H5 u1 u2 IT x5=>⟨_,_,rfl,rfl,?_⟩;refine λ x dx hx hd ne=>qx hx hd ne ((JO.mono x5).mono (ai _ _)) ⟨by omega,by omega,JN,by omega,by omega⟩ λ H6 x6 ru=>⟨rfl,?_⟩
 refine⟨_,rfl,by show 3<=sizeLine;decide,λ l hl=>?_⟩
 show De.rt _ _;rw [J8];exact nY (r:=.æ n co.1 co.2 (1+u)) (IT.ext x6) ((xc.trans x5).trans (ba x6 p)) ru ⟨by omega,by omega,JN,by omega,by omega⟩ (by show n<=m;omega) q l hl
theorem sV {De:bA}{H H2:Hp}{sA p:Addr}{ns:List Int}{m y:Int}{cv:V}{co:Int × Int}{o5 o6:Option V}{Q:VK}(Ā:Sc K H2 sA p ns)(xb:Ext (wo H p) (wo H2 p))(Ũ:Ð (wo H2 p) cv (ue co))(JN:dG (ue co)=true)(m1:1<=m)(m2:m<=20)(J8:De.rt=Q)
  (q:∀ l r H',Sc K H' sA p ns->Ext (wo H p) (wo H' p)->wo H p l=none->ĉ C (wo H' p) (.ref l) r->r.ok->r.À <= m->Q (.ref l) H'):aH (xQ K) (aH (zv K C CN CS) (wa K C CN)) De [some (.ref sA),some (.ref p),some (.int m),some cv,some (.int y),o5,o6] H2:=by
 refine aQ (te:=jg (eV K (af 2))) (i:=6) ?_;show eV K (af 2) _ H2 _;refine bp Ā rfl rfl (λ R r=>⟨_,rfl,r⟩) (by omega) (by omega) λ z H3 z0 zm Ħ k3=>⟨_,_,rfl,rfl,?_⟩
 have xc:=xb.trans (aB k3);have JO:=Ũ.mono (aB k3);refine⟨_,rfl,rfl,_,rfl,?_⟩;by_cases e2:y=2
 ·rw [decide_eq_true (by rw [e2])]
  exact cq (zN Ħ xc JO JN (by omega) (by omega) m2 J8 q)
 ·rw [decide_eq_false (λ z=>e2 (V.int.inj z))];exact bY (xO Ħ xc (by omega) (by omega) m2 J8 q)
theorem Bt {H:Hp}{sA p:Addr}{ns:List Int}{m:Int}{o3 o4 o5 o6:Option V}{De:bA}(sc:Sc K H sA p ns)(m1:1<=m)(m2:m<=20)
  (q:∀ l r H',Sc K H' sA p ns->Ext (wo H p) (wo H' p)->wo H p l=none->ĉ C (wo H' p) (.ref l) r->r.ok->r.À <= m->De.rt (.ref l) H'):Bx (Ii K C CN CS De [some (.ref sA),some (.ref p),some (.int m),o3,o4,o5,o6] H):=by
 refine⟨A0 sc λ cv co H1 V1 é xa Qi=>?_⟩;refine aQ (te:=eV K (tC (.int 3))) (i:=4) ?_;refine bp é rfl rfl (λ R r=>r) (by decide) (by decide) λ y H2 y0 y3 Ā k2=>?_
 have xb:=xa.trans (aB k2);have Ũ:=Qi.mono (aB k2);have JN:=qw co V1;refine⟨_,rfl,rfl,_,rfl,?_⟩;by_cases e1:y=1
 ·subst e1;refine cq ⟨_,rfl,_,_,rfl,rfl,_,rfl,?_⟩;by_cases em:m>1
  ·rw [decide_eq_true em];exact cq (zI (u:=bS) Ā xb Ũ JN em m2 rfl q)
  ·rw [decide_eq_false em];exact bY (sV Ā xb Ũ JN m1 m2 rfl q)
 ·rw [decide_eq_false (λ z=>e1 (V.int.inj z))];exact bY (bY (sV Ā xb Ũ JN m1 m2 rfl q))
theorem gK {X:Cx}{body:List Stmt}{t:TS}{D:bA}{σ:St}{H:Hp}(h:Bx (ü X body t))(r:Bx (t D σ H)):∃ t,ü X body t/\t D σ H:=⟨t,h.h,r.h⟩
theorem D4 (F:Ö K "_law_plain_rule" "_law_plain_rule" pI f fd)(L:ze P w K mg base C CN CS CT CM f0 f1 f2 f3 f4 e0 e1 e2 e3 e4)(A1:Df P w K mg base av 1 "_law_take" ["_law_script","_law_pen","_law_many"] (dJ K) a1 d1):Â P w K mg base av 8 f fd ["_law_script","_law_pen","_law_most"] (qY K C):=by
 refine F.ok JM (λ vs H Q E h=>?_) (λ cdv A outer s H vs Q E hr h=>?_)
 ·obtain⟨_,_,_,_,rfl,_⟩:=h;rfl
 obtain⟨sA,p,ns,m,rfl,sc,m1,m2,q⟩:=h;exact gK (xL L A1 hr) (Bt sc m1 m2 q)
end
theorem jL:∀{cl:List (Str × Addr)}{z:Str},z∈cl.map (·.1)->∃ c,cl.lookup z=some c
 | (x,d)::cl,z,h=>by
  by_cases e:z=x
  ·subst e;exact⟨d,iM⟩
  ·rw [List.map_cons,List.mem_cons] at h;rcases h with h | h
   ·exact absurd h e
   ·obtain⟨c,hc⟩:=jL h;exact⟨c,kZ e hc⟩
theorem iw {X:Cx}{sc:Scope}{cl:List (Str × Addr)}{ts zs:List Str}{js:List Nat}{M:List Str}{L:List (Str × NameKind)}(Ď:closureFor sc X.env=pure cl)(kind:sc.kind=.function)(nc:∀ y∈sc.names,y.2 ≠ .cell)(nm:∀ y∈sc.names,y.2=.local->sc.names.lookup y.1=some .local)(var:∀ x∈ts,sc.names.lookup x=some .local)
  (hM:cl.map (·.1)=M)(hc:cl.map (λ y=>X.env.cells.lookup y.1)=cl.map (λ y=>some y.2))(rl:(relabel sc X.env).names=L)(has:∀ y∈L,(y.2=.cell\/y.2=.free)->y.1∈M)(nd:(ts++zs).Nodup)
  (hj:zs.map some=js.map (λ j=>X.N[j]?))(hv:zs.map (λ z=>X.env.scope.names.lookup z)=zs.map (λ _=>some .cell))(hl:zs.map (λ z=>L.lookup z)=zs.map (λ _=>some .cell)):bu X sc cl ts zs js:=by
 have ln:js.length=zs.length:=by have:=congrArg List.length hj;simpa using this.symm
 refine⟨Ď,kind,nc,nm,var,λ z c h=>?_,λ z h=>?_,nd,λ k z h=>?_,ln⟩
 ·have m:=PySem.mem_of_lookup h;obtain⟨i,hi,e⟩:=List.getElem_of_mem m;have q:=congrArg (λ l=>l[i]?) hc;simp only [List.getElem?_map,List.getElem?_eq_getElem hi,e,Option.map_some] at q;exact Option.some.inj q
 ·rw [rl] at h;refine jL ?_;rw [hM];rcases h with h | h
  ·exact has _ (PySem.mem_of_lookup h) (.inl rfl)
  ·exact has _ (PySem.mem_of_lookup h) (.inr rfl)
 ·have hk:k<zs.length:=(List.getElem?_eq_some_iff.mp h).1;have Ou:k<js.length:=by rw [ln];exact hk
  have q:=congrArg (λ l=>l[k]?) hj;simp only [List.getElem?_map,h,List.getElem?_eq_getElem Ou,Option.map_some] at q;have v:=congrArg (λ l=>l[k]?) hv;simp only [List.getElem?_map,h,Option.map_some] at v;have u:=congrArg (λ l=>l[k]?) hl;simp only [List.getElem?_map,h,Option.map_some] at u;have v':X.env.scope.names.lookup z=some .cell:=Option.some.inj v;refine⟨js[k],List.getElem?_eq_getElem Ou,(Option.some.inj q).symm,.inr (.inl v'),λ e=>?_,.inl (by rw [rl];exact Option.some.inj u)⟩
  have e':X.env.scope.names.lookup z=some .local:=e;rw [v'] at e';cases e'
section
variable {K:Frag}{te:TE}{tt:TT}{g:TG}{k:Nat}{cap:St}{D:Addr}{H1:Hp}{Q:Hp->Prop}{a:Addr}{xs:List V}
theorem qo (Pv:Nat->List V->Hp->Prop)(hz:xs.length<sizeLine)(h0:Pv 0 [] (ae H1 D (.lst [])))(hl:∀ i ys H,Pv i ys H->Ã K H a xs)
  (hs:∀(i:Nat) x ys H,xs[i]?=some x->ys.length<=i->H D=some (.lst ys)->Pv i ys H->∀ os:St,os.length=k->∀ N:List V->Hp->Prop,(∀ ŋ H',Pv (i+1) ŋ H'->ŋ.length<=i+1->H' D=some (.lst ŋ)->N ŋ H') ->
   g x (os++cap) H λ Ù H0=>(∃ ß:St,ß.length=k/\Ù = ß ++ cap)/\tt Ù H0 λ b H5=>(b=false->N ys H5)/\(b=true->te Ù H5 λ y H4=>H4 D=some (.lst ys)/\N (ys ++ [y]) (ae H4 D (.lst (ys ++ [y])))))
  (hd:∀ ys H,ys.length<=xs.length->H D=some (.lst ys)->Pv xs.length ys H->Q H) :
  ∃ W:Nat->Nat->List V->Hp->Prop,(∃ m,W 0 m [] (ae H1 D (.lst []))) /\
   ∀ i m ys H2,W i m ys H2->H2 D=some (.lst ys)/\(((lS K a).stop i H2/\Q H2)\/((lS K a).go i H2/\ys.length<sizeLine /\
    ∀ x H3,(lS K a).Ŋ i H2 x H3->∀ os:St,os.length=k->g x (os++cap) H3 λ Ù H0=>(∃ ß:St,ß.length=k/\Ù = ß ++ cap)/\tt Ù H0 λ b H5=>(b=false->∃ m',m'<m/\W (i+1) m' ys H5) /\
     (b=true->te Ù H5 λ y H4=>H4 D=some (.lst ys)/\∃ m',m'<m/\W (i+1) m' (ys ++ [y]) (ae H4 D (.lst (ys ++ [y])))))):=by
 refine⟨λ i m ys H=>m=xs.length-i/\i<=xs.length/\ys.length<=i/\H D=some (.lst ys)/\Pv i ys H,⟨xs.length,by simp,Nat.zero_le _,Nat.le_refl _,aL,h0⟩,?_⟩
 rintro i m ys H ⟨rfl,hi,hy,Ř,p⟩;refine⟨Ř,?_⟩;have q:=hl i ys H p;by_cases þ:i<xs.length
 ·refine .inr ⟨⟨xs,xs[i],q,by simp [þ]⟩,by omega,λ x H' y os á=>?_⟩
  obtain⟨e,y⟩:=y;subst e;exact hs i x ys _ (y xs q) hy Ř p os á (λ ŋ Qj=>∃ m',m'<xs.length-i/\(m'=xs.length-(i+1)/\i+1<=xs.length/\ŋ.length<=i+1/\Qj D=some (.lst ŋ)/\Pv (i+1) ŋ Qj)) λ ŋ Qj p' l' d'=>⟨xs.length-(i+1),by omega,rfl,þ,l',d',p'⟩
 ·have e:i=xs.length:=by omega
  subst e;exact .inl ⟨⟨xs,q,Nat.le_refl _⟩,hd ys H hy Ř p⟩
end
section
variable {P:Program}{w:World}{K:Frag}{mg:Str->Option Value}{base:Heap}{C:Nat->Addr}{CR CN CS CT CM f f0 f1 f2 f3 f4 a1 a2:Addr}{fd e0 e1 e2 e3 e4 d1 d2:FuncData}
abbrev lT:Stmt:=bX 65
abbrev oK (i:Nat):Stmt:=(au lT).getD i (.Pass ⟨0,0,0,0⟩)
abbrev qZ:List Str:=["_law_script","_law_pen","_law_most","_law_several","_law_many","_law_blocks","_law_ahead","_law_word","_law_rule_here","_law_folk_here"]
theorem Ę:ad qZ ["_law_script","_law_pen","_law_most"] (aa lT):=aM
abbrev F0:Scope:={ kind:=.function,names:=[(".0",.local),("_law_k",.local),("_law_plain_rule",.globalImplicit),("max",.globalImplicit),("int",.globalImplicit),("_law_most",.free),("_law_pen",.free),("_law_script",.free)],isGenerator:=false,isCoroutine:=false }
abbrev G0:Scope:={ kind:=.function,names:=[(".0",.local),("_law_one",.local)],isGenerator:=false,isCoroutine:=false }
abbrev Ds:Scope:={ kind:=.function,names:=[(".0",.local),("_law_word",.local),("_law_folk_here",.local),("_law_many",.free)],isGenerator:=false,isCoroutine:=false }
abbrev GH:Scope:={ kind:=.function,names:=[(".0",.local),("_law_place",.local),("_law_many",.free)],isGenerator:=false,isCoroutine:=false }
abbrev Gk:Scope:={ kind:=.function,names:=[(".0",.local),("_law_word",.local),("_law_folk_here",.local)],isGenerator:=false,isCoroutine:=false }
theorem FO:((["_law_k"]:List Str)++(["_law_most","_law_pen","_law_script"]:List Str)).Nodup:=by decide +kernel
theorem GY:((["_law_one"]:List Str)++([]:List Str)).Nodup:=by decide +kernel
theorem CZ:((["_law_word","_law_folk_here"]:List Str)++(["_law_many"]:List Str)).Nodup:=by decide +kernel
theorem GR:((["_law_place"]:List Str)++(["_law_many"]:List Str)).Nodup:=by decide +kernel
theorem wj:((["_law_word","_law_folk_here"]:List Str)++([]:List Str)).Nodup:=by decide +kernel
def HW (K:Frag)(i:Nat):TE:=gH (λ xs H Q=>∃ i j,xs=[.int i,.int j]/\Q (.int (if j>i then j else i)) H) (ah (tC (.int 1)) (ah (aJ (rI iG λ i j=>.int (i/j)) (af i) (aJ (cT K) (bM (ah (tC (.int 3)) (ah (tC (.int 4)) aF))) (gH (λ xs H Q=>(∃ i,xs=[.int i]/\Q (.int i) H)\/∃ k,xs=[.bl k]/\Q (.int (if k then 1 else 0)) H) (ah (aJ (c8 λ i j=>.bl (decide (i>j))) (af i) (tC (.int 8))) aF)))) aF))
def Dg (K:Frag)(C:Nat->Addr):TE:=gn (qY K C) [] E0 (ah (af 3) (ah (af 2) (ah (HW K 1) aF)))
def Bl (K:Frag)(C:Nat->Addr):TS:=cH (bM (ah (gn (qY K C) [] E0 (ah (af 0) (ah (af 1) (ah (af 2) aF)))) aF)) (aW 3)
def xE (K:Frag)(C:Nat->Addr):TS:=dz (tB (aJ pP (eV K (tC (.int 3))) (tC (.int 0)))) (aH (cH (jg (eV K (tC (.int 4)))) (aW 4)) (cH (eG (nE (ah (af 4) aF)) 1 [2,1,0] (aW 0) (Dg K C)) (aW 3))) bS
def wO (K:Frag):TS:=aH (iB (q8 K "list" gc (af 5) (ah (dw (ah (af 7) (ah (gH sg (ah (gH sF (ah (af 6) (ah (aJ (c8 λ i j=>.int (i+j)) (af 6) (af 9)) aF))) aF)) aF))) aF))) (cH (aJ (c8 λ i j=>.int (i+j)) (af 6) (af 9)) (aW 6))
def vD (K:Frag):TS:=gC (bC K (af 3)) (w9 K 3 (bE (aW 7) (bE (aW 8) (bE (aW 9) gI)))) (wO K)
def Bi (K:Frag):TS:=cH (aJ (cT K) (aJ (cT K) (af 3) (tC (.int 0))) (tC (.int 1))) (aW 8)
def vW (K:Frag):TE:=aJ (cT K) (af 0) (tC (.int 1))
def uU (K:Frag)(C:Nat->Addr)(CT CM:Addr):TS:=dz (xh (tB (aJ (c8 λ i j=>.bl (decide (i>j))) (gH (λ xs H Q=>∃ p ys,xs=[.ref p]/\(Ã K H p ys\/Ì K H p ys)/\Q (.int ys.length) H) (ah (af 3) aF)) (tC (.int 1)))) (tB (aJ pP (eV K (tC (.int 4))) (tC (.int 0)))))
 (cH (dE (C 3) (i6 K C CT CM) [] E0 (ah (eG (bC K (af 3)) 1 [] (aW 0) (vW K)) aF)) (aW 8)) bS
def Eg:TT:=tB (aJ (c8 λ i j=>.bl (decide (i<j))) (af 0) (af 1))
def Iq (K:Frag):TE:=i8 (bC K (af 1)) 1 [2] (aW 0) Eg (af 0)
def vt (K:Frag):TE:=dw (ah (af 0) (ah (Iq K) aF))
def Bh (K:Frag):TG:=ib K 2 (bE (aW 0) (bE (aW 1) gI))
def ED (K:Frag):TS:=cH (eV K (aJ (c8 λ i j=>.int (i+j)) (af 6) (tC (.int 1)))) (aW 4)
def DP (K:Frag)(C:Nat->Addr)(CN:Addr):TS:=cH (dE (C 4) (mZ C CN) [] E0 (ah (af 8) (ah (af 4) aF))) (aW 8)
def Du (K:Frag):TS:=cH (eG (bC K (af 5)) 2 [4] (Bh K) (vt K)) (aW 5)
def BE (K:Frag)(C:Nat->Addr)(CN:Addr):TS:=dz (tB (aJ pP (eV K (tC (.int 4))) (tC (.int 0)))) (aH (ED K) (aH (DP K C CN) (Du K))) bS
def Fc (K:Frag):TT:=tB (aJ (lJ K) (af 1) (bM aF))
def BI (K:Frag):TS:=bN (dw (ah (af 8) (ah (i8 (bC K (af 5)) 2 [] (Bh K) (Fc K) (dw (ah (af 0) (ah (af 1) aF)))) aF)))
def HJ (K:Frag)(C:Nat->Addr)(CN CT CM:Addr):TS:=aH (Bl K C) (aH (xE K C) (aH (cH (bM aF) (aW 5)) (aH (cH (tC (.int 0)) (aW 6)) (aH (vD K) (aH (Bi K) (aH (uU K C CT CM) (aH (BE K C CN) (BI K))))))))
section
variable {cdv:Value}{A:Around}{outer:List Env}{s:Shared}{H:Hp}{E:XK}(L:ze P w K mg base C CN CS CT CM f0 f1 f2 f3 f4 e0 e1 e2 e3 e4)(A1:Df P w K mg base av 1 "_law_take" ["_law_script","_law_pen","_law_many"] (dJ K) a1 d1)(A2:Df P w K mg base av 8 "_law_plain_rule" ["_law_script","_law_pen","_law_most"] (qY K C) a2 d2)(hr:qI 8 "_law_rule" lT A s f cdv)
theorem xB:bu (aV av P w K mg base qZ "_law_rule" (aa lT) f cdv A outer s H E).ä F0 [("_law_script",s.heap.objs.size+1),("_law_pen",s.heap.objs.size+2),("_law_most",s.heap.objs.size+3)] ["_law_k"] ["_law_most","_law_pen","_law_script"] [2,1,0] :=
 iw (M:=["_law_script","_law_pen","_law_most"]) (L:=[(".0",.local),("_law_k",.local),("_law_plain_rule",.globalImplicit),("max",.globalImplicit),("int",.globalImplicit),("_law_most",.cell),("_law_pen",.cell),("_law_script",.cell)]) rfl rfl (by decide +kernel) (by decide +kernel) (by decide +kernel) rfl rfl rfl (by decide +kernel) (by decide +kernel) rfl rfl rfl
theorem zU {X:Cx}:bu X G0 [] ["_law_one"] [] []:=lL (L:=[(".0",.local),("_law_one",.local)]) rfl rfl (by decide +kernel) (by decide +kernel) (by decide +kernel) rfl (by decide +kernel) (by decide +kernel)
theorem Bj:bu (aV av P w K mg base qZ "_law_rule" (aa lT) f cdv A outer s H E).ä Ds [("_law_many",s.heap.objs.size+4)] ["_law_word","_law_folk_here"] ["_law_many"] [4] :=
 iw (M:=["_law_many"]) (L:=[(".0",.local),("_law_word",.local),("_law_folk_here",.local),("_law_many",.cell)]) rfl rfl (by decide +kernel) (by decide +kernel) (by decide +kernel) rfl rfl rfl (by decide +kernel) (by decide +kernel) rfl rfl rfl
theorem Ap {s':Shared}{H':Hp}{C1:Addr}{fp:List Addr}:bu (bv (aV av P w K mg base qZ "_law_rule" (aa lT) f cdv A outer s H E).ä Ds [("_law_many",s.heap.objs.size+4)] ((["_law_word","_law_folk_here"]:List Str)++(["_law_many"]:List Str)) s' H' C1 fp) GH [("_law_many",s.heap.objs.size+4)] ["_law_place"] ["_law_many"] [2] :=
 iw (M:=["_law_many"]) (L:=[(".0",.local),("_law_place",.local),("_law_many",.cell)]) rfl rfl (by decide +kernel) (by decide +kernel) (by decide +kernel) rfl rfl rfl (by decide +kernel) (by decide +kernel) rfl rfl rfl
theorem zd {X:Cx}:bu X Gk [] ["_law_word","_law_folk_here"] [] []:=lL (L:=[(".0",.local),("_law_word",.local),("_law_folk_here",.local)]) rfl rfl (by decide +kernel) (by decide +kernel) (by decide +kernel) rfl (by decide +kernel) (by decide +kernel)
include A2 hr
theorem GQ:Bx (PS (aV av P w K mg base qZ "_law_rule" (aa lT) f cdv A outer s H E).ä (oK 0) (Bl K C)) :=
 aX (i:=3) Ę.nd rfl (Or.inl rfl) (io (eN ⟨bU A2.G hr rfl A2.m A2.kp A2.b .nil aj (ac (pv 0) (ac (pv 1) (ac (pv 2) ak)))⟩ bH))
include A1
theorem F9 (mr:mg "range" = none)(mm:mg "max" = none)(mi:mg "int" = none):Bx (PS (aV av P w K mg base qZ "_law_rule" (aa lT) f cdv A outer s H E).ä (oK 1) (xE K C)):=by
 have Û:Ä 1 _:=hr.mono (by decide)
 exact jt ⟨ao cr (bU A1.G Û rfl A1.m A1.kp A1.b .nil aj (ac (pv 0) (ac (pv 1) (ac ay ak)))) ay (ar _)⟩
  (cI (aX (i:=4) Ę.nd rfl (Or.inr rfl) ⟨ax bt ay (bU A1.G Û rfl A1.m A1.kp A1.b .nil aj (ac (pv 0) (ac (pv 1) (ac ay ak))))⟩)
  (be ⟨oN (iy:=3) (te:=Dg K C) (g:=aW 0) rfl xB (fY rfl mr (ac (pv 4) ak)) (λ s H C fp=>by exact bV (i:=0) FO rfl (.inl rfl)) (λ s H C fp=>by
   exact bU A2.G hr rfl A2.m A2.kp A2.b .nil aj (ac (pv 3) (ac (pv 2) (ac (am (qO rfl) rfl mm PyProof.Rows.boot_max (ac ay (ac (ax fh (pv 1) (cy fL (cj (ac ay (ac ay ak))) (aO gX rfl mi PyProof.Rows.boot_int (ac (cC fS (pv 1) ay (ar _)) ak)))) ak))) ak)))) Ę.nd rfl (Or.inl rfl) rfl⟩)) fg
omit A1 A2 hr
theorem Ha (ml:mg "list" = none)(mr:mg "range" = none):Bx (PS (aV av P w K mg base qZ "_law_rule" (aa lT) f cdv A outer s H E).ä (oK 4) (vD K)):=by
 have nd:=Ę.nd;exact⟨bZ PassesOwn.never rfl (aR (pv 3)) (vm rfl (dq (bV (i:=7) nd rfl (Or.inl rfl)) (dq (bV (i:=8) nd rfl (Or.inl rfl)) (dq (bV (i:=9) nd rfl (Or.inl rfl)) aU))))
  (cw (aq (dF PySem.F.plainAttrs_list PySem.F.slot_list_append PySem.F.type_list_append bh (pv 5) (ac (aI (ac (pv 7) (ac (aO (ij rfl) rfl ml PyProof.Rows.boot_list (ac (aO gi rfl mr PyProof.Rows.boot_range (ac (pv 6) (ac (ax bt (pv 6) (pv 9)) ak))) ak)) ak))) ak)))
  (aY (iI (i:=6) nd rfl (Or.inl rfl) (ax bt (pv 6) (pv 9)))))⟩
theorem Ht:Bx (PS (aV av P w K mg base qZ "_law_rule" (aa lT) f cdv A outer s H E).ä (oK 5) (Bi K)) :=
 aX (i:=8) Ę.nd rfl (Or.inl rfl) ⟨cy fL (cy fL (pv 3) ay) ay⟩
include L A1 hr
theorem FK (ml:mg "len" = none):Bx (PS (aV av P w K mg base qZ "_law_rule" (aa lT) f cdv A outer s H E).ä (oK 6) (uU K C CT CM)):=by
 have Û:Ä 1 _:=hr.mono (by decide)
 have JL:Ä 5 _:=hr.mono (by decide)
 exact jt ⟨PW.pt (fD (ao fS (am aG rfl ml PySem.boot_len (ac (pv 3) ak)) ay (ar _)) (fc (ao cr (bU A1.G Û rfl A1.m A1.kp A1.b .nil aj (ac (pv 0) (ac (pv 1) (ac ay ak)))) ay (ar _))))⟩
  (be (aX (i:=8) Ę.nd rfl (Or.inl rfl) ⟨dU L.k3 L.g3 JL rfl L.m3 L.b3 .nil gr (ac (cR (te:=vW K) (g:=aW 0) rfl zU (aR (pv 3)) (λ s H C fp=>by exact bV (i:=0) GY rfl (.inl rfl)) (λ s H C fp=>by exact cy fL (pv 0) ay)) ak)⟩)) fg
theorem GO:Bx (PS (aV av P w K mg base qZ "_law_rule" (aa lT) f cdv A outer s H E).ä (oK 7) (BE K C CN)):=by
 have Û:Ä 1 _:=hr.mono (by decide)
 have JL:Ä 5 _:=hr.mono (by decide)
 exact jt ⟨ao cr (bU A1.G Û rfl A1.m A1.kp A1.b .nil aj (ac (pv 0) (ac (pv 1) (ac ay ak)))) ay (ar _)⟩
  (cI (aX (i:=4) Ę.nd rfl (Or.inr rfl) ⟨bU A1.G Û rfl A1.m A1.kp A1.b .nil aj (ac (pv 0) (ac (pv 1) (ac (ax bt (pv 6) ay) ak)))⟩)
  (cI (aX (i:=8) Ę.nd rfl (Or.inl rfl) ⟨dU L.k4 L.g4 JL rfl L.m4 L.b4 .nil gr (ac (pv 8) (ac (pv 4) ak))⟩)
  (be ⟨oN (iy:=5) (te:=vt K) (g:=Bh K) rfl Bj (aR (pv 5)) (λ s H C fp=>by exact bq rfl (dq (bV (i:=0) CZ rfl (.inl rfl)) (dq (bV (i:=1) CZ rfl (.inl rfl)) aU))) (λ s H C fp=>by
   exact aI (ac (pv 0) (ac (gS (te:=af 0) (tt:=Eg) (g:=aW 0) rfl Ap (aR (pv 1)) (λ s H C fp=>by exact bV (i:=0) GR rfl (.inl rfl)) (λ s H C fp=>by exact ao pN (pv 0) (pv 1) (ar _)) (λ s H C fp=>by exact pv 0)) ak))) Ę.nd rfl (Or.inl rfl) rfl⟩))) fg
omit L A1
theorem FX:Bx (PS (aV av P w K mg base qZ "_law_rule" (aa lT) f cdv A outer s H E).ä (oK 8) (BI K)):=by
 have hu:=hr.ş;exact hI (dZ (eN ⟨pv 8⟩ (eN ⟨gS (te:=dw (ah (af 0) (ah (af 1) aF))) (tt:=Fc K) (g:=Bh K) rfl zd (aR (pv 5)) (λ s H C fp=>by exact bq rfl (dq (bV (i:=0) wj rfl (.inl rfl)) (dq (bV (i:=1) wj rfl (.inl rfl)) aU))) (λ s H C fp=>by exact ao (jA hu) (pv 1) (cj ak) (ar _)) (λ s H C fp=>by exact aI (ac (pv 0) (ac (pv 1) ak)))⟩ bH)))
include L A1 A2
theorem yz (mr:mg "range" = none)(mm:mg "max" = none)(mi:mg "int" = none)(ml:mg "list" = none)(mn:mg "len" = none):Bx (ü (aV av P w K mg base qZ "_law_rule" (aa lT) f cdv A outer s H E).ä (au lT) (HJ K C CN CT CM)) :=
 cI (GQ A2 hr) (cI (F9 A1 A2 hr mr mm mi) (cI (aX (i:=5) Ę.nd rfl (Or.inl rfl) ⟨cj ak⟩) (cI (aX (i:=6) Ę.nd rfl (Or.inl rfl) ⟨ay⟩) (cI (Ha ml mr) (cI Ht (cI (FK L A1 hr mn) (cI (GO L A1 hr) (be (FX hr)))))))))
end
end
def Ų {α β:Type}(R:α->β->Prop)(xs:List α)(ys:List β):Prop:=xs.length=ys.length/\∀(i:Nat) x y,xs[i]?=some x->ys[i]?=some y->R x y
theorem Ų.nil {α β:Type}{R:α->β->Prop}:Ų R [] []:=⟨rfl,λ i x y h=>by simp at h⟩
theorem Ų.mono {α β:Type}{R S:α->β->Prop}{xs:List α}{ys:List β}(h:Ų R xs ys)(k:∀ x y,R x y->S x y):Ų S xs ys:=⟨h.1,λ i x y a b=>k x y (h.2 i x y a b)⟩
theorem Ų.app {α β:Type}{R:α->β->Prop}{xs:List α}{ys:List β}{x:α}{y:β}(h:Ų R xs ys)(k:R x y):Ų R (xs ++ [x]) (ys ++ [y]):=by
 refine⟨by rw [List.length_append,List.length_append,h.1];rfl,λ i a b ha hb=>?_⟩
 rcases Nat.lt_or_ge i xs.length with lt | ge
 ·rw [List.getElem?_append_left lt] at ha;rw [List.getElem?_append_left (by rw [<- h.1];exact lt)] at hb
  exact h.2 i a b ha hb
 ·rw [List.getElem?_append_right ge] at ha;rw [List.getElem?_append_right (by rw [<- h.1];exact ge),<- h.1] at hb
  match i-xs.length,ha,hb with
  | 0,ha,hb=>cases ha;cases hb;exact k
  | n+1,ha,hb=>simp at ha
theorem Ų.at {α β:Type}{R:α->β->Prop}{xs:List α}{ys:List β}(h:Ų R xs ys){i:Nat}{x:α}(e:xs[i]?=some x):∃ y,ys[i]?=some y/\R x y:=by
 have l:i<ys.length:=by rw [<- h.1];exact(List.getElem?_eq_some_iff.mp e).1
 exact⟨ys[i],List.getElem?_eq_getElem l,h.2 i _ _ e (List.getElem?_eq_getElem l)⟩
theorem lu {m:Int}:∀{rs:List R0},(∀ r∈rs,r.À <= m)->(rs.map R0.À).sum<=rs.length*m
 | [],_=>by simp
 | r::rs,h=>by
  have h1:=h r (List.mem_cons_self ..);have h2:=lu λ x hx=>h x (List.mem_cons_of_mem _ hx);simp only [List.map_cons,List.sum_cons,List.length_cons];have:((rs.length+1:Nat):Int)*m=rs.length*m+m:=by rw [Int.natCast_add,Int.add_mul];omega
  omega
structure Sv (C:Nat->Addr)(G:Hp)(sv:Addr)(rs:List R0):Prop where
 ex:∃ xs,G sv=some (.lst xs)/\Ų (ĉ C G) xs rs
 l1:1<=rs.length
 l4:rs.length<=4
 ok:∀ r∈rs,r.ok
 sm:(rs.map R0.À).sum<=20
theorem Sv.ext {C:Nat->Addr}{G G':Hp}{sv:Addr}{rs:List R0}(h:Sv C G sv rs)(x:Ext G G'):Sv C G' sv rs:=by
 obtain⟨xs,e,al⟩:=h.ex;exact⟨⟨xs,x _ _ e,al.mono λ _ _ r=>r.ext x⟩,h.l1,h.l4,h.ok,h.sm⟩
section
variable {P:Program}{w:World}{K:Frag}{mg:Str->Option Value}{base:Heap}{C:Nat->Addr}{CR CN CS CT CM:Addr}{De:bA}{u:TS}{H:Hp}{sA p:Addr}{ns:List Int}{m:Int}{o3 o4 o5 o6 o7 o8 o9:Option V}
theorem yH (sc:Sc K H sA p ns)(m1:1<=m)(m2:m<=20)(k:∀ sv rs H',Sc K H' sA p ns->Ext (wo H p) (wo H' p)->Sv C (wo H' p) sv rs->u De [some (.ref sA),some (.ref p),some (.int m),some (.ref sv),o4,o5,o6,o7,o8,o9] H') :
  aH (Bl K C) u De [some (.ref sA),some (.ref p),some (.int m),o3,o4,o5,o6,o7,o8,o9] H:=by
 refine aQ (te:=bM (ah (gn (qY K C) [] E0 (ah (af 0) (ah (af 1) (ah (af 2) aF)))) aF)) (i:=3) ?_;refine⟨_,rfl,_,rfl,_,rfl,sA,p,ns,m,rfl,sc,m1,m2,λ l r H1 é x1 n1 row ok le=>⟨by show 1<=sizeLine;decide,λ sv Ń=>?_⟩⟩
 have x2:=Ext.new (o:=.lst [V.ref l]) Ń;have g2:ae H1 sv (.lst [V.ref l]) sv=some (.lst [V.ref l]):=aL;have nn:=é.bx.ne Ń;refine k sv [r] _ (é.ext x2) (x1.trans (ba x2 p)) ⟨⟨_,aK nn g2,Ų.nil.app (row.ext (ba x2 p))⟩,Nat.le_refl _,(show 1<=4 by decide),λ r' h=>by rw [List.mem_singleton.mp h];exact ok,?_⟩
 have:=(R0.È ok).2
 simpa using this
theorem CA {i:Nat}{σ:St}{R:VK}(si:σ[i]?=some (some (.int m)))(m1:1<=m)(m2:m<=20)(k:∀ b H',Ext H H'->1<=b->4*b<=20->R (.int b) H'):HW K i σ H R:=by
 refine⟨_,si,by show 2<=sizeLine;decide,λ l hl=>⟨_,si,_,_,rfl,rfl,.inr ⟨_,rfl,?_⟩⟩⟩
 have x1:=Ext.new (o:=.lst [V.int 3,.int 4]) hl;have g1:ae H l (.lst [V.int 3,.int 4]) l=some (.lst [V.int 3,.int 4]):=aL;by_cases e:m>8
 ·rw [decide_eq_true e];refine⟨l,_,1,.int 4,rfl,rfl,Ã.of g1,cX (j:=1) rfl,_,_,rfl,rfl,⟨by decide,by decide⟩,_,_,rfl,?_⟩
  refine k _ _ x1 (by split <;> omega) (by split <;> omega)
 ·rw [decide_eq_false e];refine⟨l,_,0,.int 3,rfl,rfl,Ã.of g1,cX (j:=0) rfl,_,_,rfl,rfl,⟨by decide,by decide⟩,_,_,rfl,?_⟩
  refine k _ _ x1 (by split <;> omega) (by split <;> omega)
theorem ĉ.wt {H:Hp}{D:Addr}{ys:List V}{l:Addr}{r:R0}(h:ĉ C (wo H p) (.ref l) r)(n:l≠D)(hD:H D=some (.lst ys)):ĉ C (wt H p D) (.ref l) r:=by
 obtain⟨l',u,e,hl,ru⟩:=h;cases e;refine⟨l,u,rfl,aK n hl,ru.Ë λ a o e' nl=>?_⟩;exact aK (λ z=>by subst z;rw [ai _ _ _ _ e'] at hD;cases hD;exact nl _ rfl) e'
theorem Ab (sc:Sc K H sA p ns)(m1:1<=m)(m2:m<=20){sv:Addr}{rs:List R0}(hv:Sv C (wo H p) sv rs)(k:∀ sv rs o4 H',Sc K H' sA p ns->Ext (wo H p) (wo H' p)->Sv C (wo H' p) sv rs->u De [some (.ref sA),some (.ref p),some (.int m),some (.ref sv),o4,o5,o6,o7,o8,o9] H') :
  aH (xE K C) u De [some (.ref sA),some (.ref p),some (.int m),some (.ref sv),o4,o5,o6,o7,o8,o9] H:=by
 refine bp sc rfl rfl (λ R r=>r) (by decide) (by decide) λ z H1 z0 z3 é k1=>⟨rfl,_,rfl,?_⟩
 have xa:=aB k1;by_cases ez:z=0
 ·rw [decide_eq_true (by rw [ez])]
  refine cq ?_;refine aQ (te:=jg (eV K (tC (.int 4)))) (i:=4) ?_;refine bp é rfl rfl (λ R r=>r) (by decide) (by decide) λ y H2 y0 y4 Ā k2=>⟨_,_,rfl,rfl,?_⟩
  have xb:=xa.trans (aB k2);refine⟨_,rfl,1+y,rfl,by omega,by omega,λ D hD=>?_⟩
  have nD:=Ā.bx.ne hD;obtain⟨n,rfl⟩:∃ n:Nat,y=(n:Int):=⟨y.toNat,by omega⟩
  have en:(1+(n:Int)).toNat=n+1:=by omega
  rw [en];have V2:wo H p D=none:=by
   cases e:wo H p D with
   | none=>rfl
   | some o=>have:=ai _ _ _ _ (xb _ _ e);rw [hD] at this;cases this
  refine jO (lo:=0) (n:=n+1) (λ i ys H'=>Sc K H' sA p ns/\Ext (wo H p) (wo H' p)/\∃ rs,rs.length=i/\Ų (ĉ C (wt H' p D)) ys rs/\∀ r∈rs,r.ok/\r.À <= 5) (by rw [sizeLine_eq];omega) ?_ ?_ ?_
  ·have x3:=Ext.new (o:=.lst []) hD;exact⟨Ā.ext x3,xb.trans (ba x3 p),[],rfl,Ų.nil,λ r h=>nomatch h⟩
  ·rintro i ys H' hi ly Ô ⟨Jk,x',Qk,lr,al,good⟩ os á R k';obtain⟨o0,rfl⟩:∃ o0,os=[o0]:=by
    match os,á with
    | [o0],_=>exact⟨o0,rfl⟩
   refine⟨⟨[_],rfl,rfl⟩,_,rfl,_,rfl,?_⟩;refine CA (i:=1) rfl m1 m2 λ b H5 x5 b1 b4=>⟨sA,p,ns,b,rfl,Jk.ext x5,b1,by omega,λ l r H6 LZ x6 n6 row ok le=>?_⟩
   have Tb:=aK nD (x5 _ _ Ô);have Tc:H6 D=some (.lst ys):=ai _ _ _ _ (x6 _ _ Tb);have lD:l≠D:=λ e=>by rw [e,Tb] at n6;cases n6
   have x7:Ext (wt H' p D) (wt H6 p D):=aB (((ba x5 p).trans x6).kept D);have Ql:=row.wt lD Tc;have xf:Ext (wo H p) (wo (ae H6 D (.lst (ys ++ [.ref l]))) p):=λ b o e=>by
    have n1:b≠D:=λ z=>by rw [z,V2] at e;cases e
    have e2:=((x'.trans (ba x5 p)).trans x6) _ _ e;exact aK (fF e) (by rw [ag n1];exact ai _ _ _ _ e2)
   refine k' _ H6 Tc ⟨sc.OC xf (LZ.bx.up nD),xf,Qk ++ [r],by rw [List.length_append,lr];rfl,?_,λ r' h=>?_⟩
   ·exact((al.mono λ _ _ q=>q.ext x7).app Ql).mono λ _ _ q=>q.ext ja
   ·rcases List.mem_append.mp h with h | h
    ·exact good r' h
    ·rw [List.mem_singleton.mp h];exact⟨ok,by omega⟩
  ·rintro ys H' ly Ô ⟨Jk,x',Qk,lr,al,good⟩;refine k D Qk _ H' Jk x' ⟨⟨ys,aK nD Ô,al.mono λ _ _ q=>q.ext (ai _ _)⟩,by omega,by omega,λ r h=>(good r h).1,?_⟩
   have:=lu (m:=5) λ r h=>(good r h).2;omega
 ·rw [decide_eq_false (λ h=>ez (V.int.inj h))];exact bY (k sv rs _ H1 é xa (hv.ext xa))
end
abbrev Bk:=Str × List Int
def gy (b:Bk):PyData:=.tuple [.str b.1,rP b.2]
def fw (rs:List R0):List Bk:=(rs.map R0.word).zip (bF 0 (rs.map R0.À))
def hG (m:Int)(B:List Bk):List Bk:=B.map λ b=>(b.1,b.2.filter λ x=>decide (x<m))
def gE (B:List Bk):List Bk:=B.filter λ b=>!b.2.isEmpty
def Rl.bl:Rl->List Bk
 | .one r=>[(r.word,bR 0 r.À.toNat)]
 | .blocks rs=>fw rs
 | .first t m=>gE (hG m t.bl)
theorem nA (rs:List R0):(fw rs).length=rs.length:=by
 unfold fw;rw [List.length_zip,List.length_map,dL,List.length_map,Nat.min_self]
theorem lZ (rs:List R0)(r:R0):fw (rs ++ [r])=fw rs ++ [(r.word,bR ((rs.map R0.À).sum) r.À.toNat)]:=by
 unfold fw;rw [List.map_append,List.map_append];show((rs.map R0.word) ++ [r.word]).zip (bF 0 (rs.map R0.À ++ [r.À]))=_;rw [iZ,List.zip_append (by rw [List.length_map,dL,List.length_map])]
 rw [Int.zero_add];rfl
theorem xK {lo:Int}{n:Nat}(h:1<=n):bR lo n ≠ []:=λ e=>by
 have:=congrArg List.length e;unfold bR at this;rw [List.length_map,List.length_range] at this;simp at this;omega
theorem kF:∀(ns:List Int)(s:Int),(∀ n∈ns,1<=n)->∀ p∈bF s ns,p ≠ []
 | [],_,_,p,h=>nomatch h
 | n::ns,s,h,p,hp=>by
  rcases List.mem_cons.mp hp with rfl | hp
  ·exact xK (by have:=h n (List.mem_cons_self ..);omega)
  ·exact kF ns (s+n) (λ x hx=>h x (List.mem_cons_of_mem _ hx)) p hp
theorem tL {rs:List R0}(ok:∀ r∈rs,r.ok):gE (fw rs)=fw rs:=by
 unfold gE;rw [List.filter_eq_self];intro b hb;have h2:b.2∈bF 0 (rs.map R0.À):=(List.of_mem_zip hb).2;have:=kF _ 0 (λ n hn=>by
  obtain⟨r,hr,rfl⟩:=List.mem_map.mp hn;exact(R0.È (ok r hr)).1) _ h2
 cases e:b.2 with
 | nil=>exact absurd e this
 | cons _ _=>rfl
section
variable {P:Program}{w:World}{K:Frag}{mg:Str->Option Value}{base:Heap}{C:Nat->Addr}{CR CN CS CT CM:Addr}{De:bA}{u:TS}{H:Hp}{sA p:Addr}{ns:List Int}{m:Int}{o0 o1 o2 o3 o4 o5 o6 o7 o8 o9:Option V}
theorem iC {G:Hp}{x:V}{b:Bk}(r:Ð G x (gy b)):∃ a l,x=.ref a/\G a=some (.tup [.str b.1,.ref l])/\G l=some (.lst (b.2.map V.int)):=by
 obtain⟨a,xs,rfl,ha,rs⟩:=kU r;cases rs with
 | cons r1 rs =>
  cases rs with
  | cons r2 rs =>
   cases rs;cases r1;cases r2 with
   | lst hl ra=>exact⟨a,_,rfl,ha,by rw [<- k8 ra];exact hl⟩
theorem nK {G:Hp}{a l:Addr}{b:Bk}(ha:G a=some (.tup [.str b.1,.ref l]))(hl:G l=some (.lst (b.2.map V.int))):Ð G (.ref a) (gy b):=.tup ha (.cons (.str _) (.cons (.lst hl (dH G _)) .nil))
theorem Bp (sc:Sc K H sA p ns){sv:Addr}{rs:List R0}(hv:Sv C (wo H p) sv rs)(k:∀ bl ys o7 o8 o9 H',Sc K H' sA p ns->Ext (wo H p) (wo H' p)->wo H' p bl=some (.lst ys)->Á (wo H' p) ys ((fw rs).map gy)->u De [some (.ref sA),some (.ref p),o2,some (.ref sv),o4,some (.ref bl),some (.int (rs.map R0.À).sum),o7,o8,o9] H') :
  aH (cH (bM aF) (aW 5)) (aH (cH (tC (.int 0)) (aW 6)) (aH (vD K) u)) De [some (.ref sA),some (.ref p),o2,some (.ref sv),o4,o5,o6,o7,o8,o9] H:=by
 refine aQ (te:=bM aF) (i:=5) ⟨by show 0<=sizeLine;decide,λ bl J9=>?_⟩
 have x1:=Ext.new (o:=.lst []) J9;have g1:ae H bl (.lst []) bl=some (.lst []):=aL;have nb:=sc.bx.ne J9;refine aQ (te:=tC (.int 0)) (i:=6) ?_;show aH (vD K) u De [some (.ref sA),some (.ref p),o2,some (.ref sv),o4,some (.ref bl),some (.int 0),o7,o8,o9] (ae H bl (.lst []));have é:=sc.ext x1;generalize ae H bl (.lst [])=H1 at x1 g1 é ⊢;obtain⟨xs,Ń,al⟩:=hv.ex;have l4:=hv.l4;have V3:wo H p bl=none:=by
  cases e:wo H p bl with
  | none=>rfl
  | some o=>have:=ai _ _ _ _ e;rw [J9] at this;cases this
 refine⟨_,rfl,sv,rfl,⟨xs,Ã.of (x1 _ _ (ai _ _ _ _ Ń))⟩,cL (xs:=xs) (λ i σ H'=>∃ ys o7 o8 o9,σ=[some (.ref sA),some (.ref p),o2,some (.ref sv),o4,some (.ref bl),some (.int ((rs.take i).map R0.À).sum),o7,o8,o9]/\Sc K H' sA p ns/\Ext (wo H p) (wo H' p)/\H' bl=some (.lst ys)/\ys.length=i/\Á (wt H' p bl) ys ((fw (rs.take i)).map gy)) ⟨[],_,_,_,rfl,é,ba x1 p,g1,rfl,.nil⟩ ?_ ?_ ?_⟩
 ·rintro i σ H' _ ⟨ys,o7,o8,o9,rfl,Jk,x',_⟩;exact Ã.of (ai _ _ _ _ (x' _ _ Ń))
 ·rintro i x σ H' ex ⟨ys,o7,o8,o9,rfl,Jk,x',hb,ly,ra⟩;obtain⟨r,er,l,uu,rfl,hl,ru⟩:=al.at ex;have li:i<xs.length:=(List.getElem?_eq_some_iff.mp ex).1;have lxr:=al.1;have Qm:=R0.È (hv.ok r (List.mem_of_getElem? er));have smb:0<=((rs.take i).map R0.À).sum/\((rs.take i).map R0.À).sum<=80:=by
   refine⟨bK λ n hn=>?_,?_⟩
   ·obtain⟨r',Ś,rfl⟩:=List.mem_map.mp hn;have:=R0.È (hv.ok r' (List.mem_of_mem_take Ś));omega
   ·have h1:=lu (m:=20) (rs:=rs.take i) λ r' Ś=>(R0.È (hv.ok r' (List.mem_of_mem_take Ś))).2;have:(rs.take i).length<=4:=by rw [List.length_take];omega
    omega
  refine⟨l,_,rfl,Ã.of (ai _ _ _ _ (x' _ _ hl)),rfl,_,_,rfl,_,_,rfl,_,_,rfl,rfl,?_⟩;show wO K _ [some (.ref sA),some (.ref p),o2,some (.ref sv),o4,some (.ref bl),some (.int ((rs.take i).map R0.À).sum),some (.str r.word),some uu,some (.int r.À)] H';refine⟨_,rfl,.inl ⟨rfl,_,Ã.of hb⟩,_,rfl,_,rfl,_,rfl,_,rfl,_,_,rfl,rfl,_,_,rfl,λ rg Qn=>?_⟩;have x2:=Ext.new (o:=.ę ((rs.take i).map R0.À).sum (((rs.take i).map R0.À).sum+r.À)) Qn;have g2:ae H' rg (.ę ((rs.take i).map R0.À).sum (((rs.take i).map R0.À).sum+r.À)) rg=some (.ę ((rs.take i).map R0.À).sum (((rs.take i).map R0.À).sum+r.À)):=aL;have Ā:=Jk.ext x2;have ĺ:=x2 _ _ hb;generalize ae H' rg (.ę ((rs.take i).map R0.À).sum (((rs.take i).map R0.À).sum+r.À))=H2 at x2 g2 Ā ĺ ⊢;refine⟨rg,_,_,rfl,g2,by omega,by omega,λ pl ó=>?_⟩
  have ef:(((rs.take i).map R0.À).sum+r.À - ((rs.take i).map R0.À).sum).toNat=r.À.toNat:=by congr 1;omega
  rw [ef,lc];have x3:=Ext.new (o:=.lst ((bR ((rs.take i).map R0.À).sum r.À.toNat).map V.int)) ó;have g3:ae H2 pl (.lst ((bR ((rs.take i).map R0.À).sum r.À.toNat).map V.int)) pl=some (.lst ((bR ((rs.take i).map R0.À).sum r.À.toNat).map V.int)):=aL;have Ħ:=Ā.ext x3;have V4:=Ā.bx.ne ó;have V5:pl≠bl:=λ e=>by rw [e,ĺ] at ó;cases ó
  have Nl:=x3 _ _ ĺ;generalize ae H2 pl (.lst ((bR ((rs.take i).map R0.À).sum r.À.toNat).map V.int))=H3 at x3 g3 Ħ Nl ⊢;refine⟨by show 2<=sizeLine;decide,λ t ht=>?_⟩
  have x4:=Ext.new (o:=.tup [.str r.word,.ref pl]) ht;have g4:ae H3 t (.tup [.str r.word,.ref pl]) t=some (.tup [.str r.word,.ref pl]):=aL;have ų:=Ħ.ext x4;have V6:=Ħ.bx.ne ht;have V7:t≠bl:=λ e=>by rw [e,Nl] at ht;cases ht
  have Td:=x4 _ _ Nl;have OE:=x4 _ _ g3;generalize ae H3 t (.tup [.str r.word,.ref pl])=H4 at x4 g4 ų Td OE ⊢;have xx:=(x2.trans x3).trans x4;have xf:Ext (wo H p) (wo (ae H4 bl (.lst (ys ++ [.ref t]))) p):=λ b o e=>by
   have n1:b≠bl:=λ z=>by rw [z,V3] at e;cases e
   have e2:=(x'.trans (ba xx p)) _ _ e;exact aK (fF e) (by rw [ag n1];exact ai _ _ _ _ e2)
  refine⟨bl,ys,.ref t,rfl,rfl,Td,by rw [sizeLine_eq];omega,?_⟩
  refine⟨_,rfl,_,rfl,_,_,rfl,rfl,ys ++ [.ref t],some (.str r.word),some uu,some (.int r.À),?_,sc.OC xf (ų.bx.up nb),xf,aL,by rw [List.length_append,ly];rfl,?_⟩
  ·have et:((rs.take (i+1)).map R0.À).sum=((rs.take i).map R0.À).sum+r.À:=by
    rw [aA er,List.map_append,List.sum_append];simp
   rw [et];rfl
  ·rw [aA er,lZ,List.map_append];refine((ra.mono (iE xx p bl)).append (.cons ?_ .nil)).mono ja;exact nK (b:=(r.word,bR ((rs.take i).map R0.À).sum r.À.toNat)) (gu V6 V7 g4) (gu V4 V5 OE)
 ·rintro σ H' ⟨ys,o7,o8,o9,rfl,Jk,x',hb,ly,ra⟩;rw [al.1,List.take_length] at ra ⊢;exact k bl ys _ _ _ H' Jk x' (aK nb hb) (ra.mono (ai _ _))
variable {te:TE}{tt:TT}{cap:St}{D:Addr}{H1:Hp}{Q:Hp->Prop}{a:Addr}{xs:List V}
theorem vw (p:V->Bool)(hz:xs.length<sizeLine)(h1:H1 a=some (.lst xs))(hD:H1 D=none)
  (hs:∀(i:Nat) x H,xs[i]?=some x->Ext H1 H->∀ R:Bool->Hp->Prop,R (p x) H->tt (some x::cap) H R)
  (hd:∀ H,Ext H1 H->H D=some (.lst (xs.filter p))->Q H) :
  ∃ W:Nat->Nat->List V->Hp->Prop,(∃ m,W 0 m [] (ae H1 D (.lst []))) /\
   ∀ i m ys H2,W i m ys H2->H2 D=some (.lst ys)/\(((lS K a).stop i H2/\Q H2)\/((lS K a).go i H2/\ys.length<sizeLine /\
    ∀ x H3,(lS K a).Ŋ i H2 x H3->tt (some x::cap) H3 λ b H0=>(b=false->∃ m',m'<m/\W (i+1) m' ys H0) /\
     (b=true->af 0 (some x::cap) H0 λ y H4=>H4 D=some (.lst ys)/\∃ m',m'<m/\W (i+1) m' (ys ++ [y]) (ae H4 D (.lst (ys ++ [y])))))):=by
 refine⟨λ i m ys H=>m=xs.length-i/\i<=xs.length/\ys.length<=i/\H D=some (.lst ys)/\Ext H1 H/\ys=(xs.take i).filter p,⟨xs.length,by simp,Nat.zero_le _,Nat.le_refl _,aL,Ext.new hD,rfl⟩,?_⟩
 rintro i m ys H ⟨rfl,hi,hy,Ř,x',ey⟩;refine⟨Ř,?_⟩;have q:Ã K H a xs:=Ã.of (x' _ _ h1);by_cases þ:i<xs.length
 ·refine .inr ⟨⟨xs,xs[i],q,by simp [þ]⟩,by omega,λ x H' y=>?_⟩
  obtain⟨e,y⟩:=y;subst e;have ex:=y xs q;have et:(xs.take (i+1)).filter p=(xs.take i).filter p++(if p x then [x] else []):=by
   rw [aA ex,List.filter_append,List.filter_cons,List.filter_nil]
  refine hs i x _ ex x' _ ⟨λ b=>⟨xs.length-(i+1),by omega,rfl,þ,by omega,Ř,x',?_⟩,λ b=>⟨x,rfl,Ř,xs.length-(i+1),by omega,rfl,þ,by rw [List.length_append];show ys.length+1<=i+1;omega,aL,aP _ x' hD,?_⟩⟩
  ·rw [et,b,ey];simp
  ·rw [et,b,ey];simp
 ·have e:i=xs.length:=by omega
  subst e;rw [List.take_length] at ey;subst ey;exact .inl ⟨⟨xs,q,Nat.le_refl _⟩,hd H x' Ř⟩
theorem lY (p:V->Bool)(hz:xs.length<sizeLine)(h1:H1 a=some (.lst xs))(hD:H1 D=none)
  (hs:∀(i:Nat) x H,xs[i]?=some x->Ext H1 H->∀ R:Bool->Hp->Prop,R (p x) H->tt (some x::cap) H R)
  (hd:∀ H,Ext H1 H->H D=some (.lst (xs.filter p))->Q H) :
  ∃ W:Nat->Nat->List V->Hp->Prop,(∃ m,W 0 m [] (ae H1 D (.lst []))) /\
   ∀ i m ys H2,W i m ys H2->H2 D=some (.lst ys)/\(((lS K a).stop i H2/\Q H2)\/((lS K a).go i H2/\ys.length<sizeLine /\
    ∀ x H3,(lS K a).Ŋ i H2 x H3->∀ os:St,os.length=1->aW 0 x (os++cap) H3 λ Ù H0=>(∃ ß:St,ß.length=1/\Ù = ß ++ cap)/\tt Ù H0 λ b H5=>(b=false->∃ m',m'<m/\W (i+1) m' ys H5) /\
     (b=true->af 0 Ù H5 λ y H4=>H4 D=some (.lst ys)/\∃ m',m'<m/\W (i+1) m' (ys ++ [y]) (ae H4 D (.lst (ys ++ [y])))))):=by
 obtain⟨W,w0,turn⟩:=vw (K:=K) (tt:=tt) (cap:=cap) (D:=D) (H1:=H1) (Q:=Q) p hz h1 hD hs hd;refine⟨W,w0,λ i m ys H2 w=>?_⟩;obtain⟨Ĉ,alt⟩:=turn i m ys H2 w;refine⟨Ĉ,?_⟩;rcases alt with a | ⟨go,hl,st⟩
 ·exact .inl a
 ·refine .inr ⟨go,hl,λ x H3 y os á=>?_⟩;obtain⟨o,rfl⟩:∃ o,os=[o]:=by
   match os,á with
   | [o],_=>exact⟨o,rfl⟩
  exact⟨⟨[some x],rfl,rfl⟩,st x H3 y⟩
end
def Rl.plain1:Rl->Prop
 | .first _ _=>False
 | _=>True
def Rl.flat:Rl->Prop
 | .first t _=>t.plain1
 | _=>True
theorem Ru.wo {C:Nat->Addr}{H:Hp}{p:Addr}{t:Rl}{v:V}(h:Ru C H t v)(b:Ú H p):Ru C (wo H p) t v:=h.Ë λ a o e n=>by
 obtain⟨_,_,_,hp,_⟩:=b.ex;exact aK (λ z=>by subst z;rw [hp] at e;cases e;exact n _ rfl) e
section
variable {P:Program}{w:World}{K:Frag}{mg:Str->Option Value}{base:Heap}{C:Nat->Addr}{CR CN CS CT CM:Addr}{De:bA}{u:TS}{H:Hp}{sA p:Addr}{ns:List Int}{m:Int}{o0 o1 o2 o3 o4 o5 o6 o7 o8 o9:Option V}
theorem Af {σ:St}{sv:Addr}{rs:List R0}{Q:VK}(s3:σ[3]?=some (some (.ref sv)))(hv:Sv C (wo H p) sv rs)(k:∀ x H',Ext H H'->Ru C H' (.blocks rs) (.ref x)->Q (.ref x) H'):dE (C 3) (i6 K C CT CM) [] E0 (ah (eG (bC K (af 3)) 1 [] (aW 0) (vW K)) aF) σ H Q:=by
 obtain⟨xs,Ń,al⟩:=hv.ex;have l4:=hv.l4;have lx:=al.1;refine⟨_,s3,sv,rfl,⟨xs,Ã.of (ai _ _ _ _ Ń)⟩,λ D hD=>?_⟩;refine bQ (a:=sv) (xs:=xs) (λ i ys H'=>Ext H H'/\Ą C (wo H p) (rs.take i) ys) (by rw [sizeLine_eq];omega) ⟨Ext.new hD,rfl,λ i r w h=>by simp at h⟩ (λ i ys H' pv=>Ã.of (pv.1 _ _ (ai _ _ _ _ Ń))) ?_ ?_
 ·rintro i x ys H' ex ly Ô ⟨x',all⟩ os á R k';obtain⟨o0,rfl⟩:∃ o0,os=[o0]:=by
   match os,á with
   | [o0],_=>exact⟨o0,rfl⟩
  obtain⟨r,er,l,uu,rfl,hl,ru⟩:=al.at ex;refine⟨⟨[some (.ref l)],rfl,rfl⟩,_,rfl,l,_,_,_,rfl,rfl,Ã.of (x' _ _ (ai _ _ _ _ hl)),cX (j:=1) rfl,?_⟩;refine k' _ H' Ô ⟨aP _ x' hD,?_⟩;rw [aA er];exact nI all ru
 ·rintro ys H' ly Ô ⟨x',all⟩;rw [lx,List.take_length] at all;refine λ x dx hx hd ne=>i7 hx hd ne Ô (all.ext ((ai _ _).trans x')) ⟨hv.l1,by omega,hv.ok,hv.sm⟩ λ H2 x2 ru=>⟨rfl,k x H2 (x'.trans x2) ru⟩
theorem Ao (sc:Sc K H sA p ns){sv:Addr}{rs:List R0}(hv:Sv C (wo H p) sv rs)(k:∀ v t H',Sc K H' sA p ns->Ext (wo H p) (wo H' p)->Ru C (wo H' p) t v->t.plain1->t.ok->t.bl=fw rs->t.À =(rs.map R0.À).sum->u De [some (.ref sA),some (.ref p),o2,some (.ref sv),o4,o5,o6,o7,some v,o9] H') :
  aH (Bi K) (aH (uU K C CT CM) u) De [some (.ref sA),some (.ref p),o2,some (.ref sv),o4,o5,o6,o7,o8,o9] H:=by
 obtain⟨xs,Ń,al⟩:=hv.ex;have lx:=al.1;have l1:=hv.l1;have l0:0<xs.length:=by omega
 obtain⟨r0,V8,l,uu,e0,hl,ru⟩:=al.at (List.getElem?_eq_getElem l0);refine aQ (te:=aJ (cT K) (aJ (cT K) (af 3) (tC (.int 0))) (tC (.int 1))) (i:=8) ?_;refine⟨_,rfl,sv,_,_,_,rfl,rfl,Ã.of (ai _ _ _ _ Ń),cX (j:=0) (List.getElem?_eq_getElem l0),l,_,_,_,e0,rfl,Ã.of (ai _ _ _ _ hl),cX (j:=1) rfl,?_⟩;show aH (uU K C CT CM) u De [some (.ref sA),some (.ref p),o2,some (.ref sv),o4,o5,o6,o7,some uu,o9] H;have many:∀(H1:Hp)(o8:Option V)(OF:bA),OF.nx=u De->Sc K H1 sA p ns->Ext (wo H p) (wo H1 p)->cH (dE (C 3) (i6 K C CT CM) [] E0 (ah (eG (bC K (af 3)) 1 [] (aW 0) (vW K)) aF)) (aW 8) OF [some (.ref sA),some (.ref p),o2,some (.ref sv),o4,o5,o6,o7,o8,o9] H1:=by
  intro H1 o8 OF J8 é x1;refine Af (p:=p) rfl (hv.ext x1) λ x H2 x2 V9=>?_;show OF.nx [some (.ref sA),some (.ref p),o2,some (.ref sv),o4,o5,o6,o7,some (.ref x),o9] H2;rw [J8];have l4:=hv.l4;exact k (.ref x) (.blocks rs) H2 (é.ext x2) (x1.trans (ba x2 p)) (V9.wo (é.ext x2).bx) trivial ⟨hv.l1,by omega,hv.ok,hv.sm⟩ rfl rfl
 refine⟨_,rfl,sv,xs,rfl,.inl (Ã.of (ai _ _ _ _ Ń)),_,_,rfl,rfl,_,rfl,?_⟩;by_cases hx:((xs.length:Nat):Int)>1
 ·rw [decide_eq_true hx];exact cq (cq (many H _ _ rfl sc (Ext.refl _)))
 ·rw [decide_eq_false hx];refine bY (bp sc rfl rfl (λ R r=>r) (by decide) (by decide) λ z H1 z0 z3 é k1=>⟨rfl,_,rfl,?_⟩)
  by_cases ez:z=0
  ·rw [decide_eq_true (by rw [ez])]
   exact cq (many H1 _ _ rfl é (aB k1))
  ·rw [decide_eq_false (λ h=>ez (V.int.inj h))];have er:rs=[r0]:=by
    match rs,V8,(by omega:rs.length=1) with
    | [r],e,_=>cases e;rfl
   subst er;refine bY (k uu (.one r0) H1 é (aB k1) (ru.ext (aB k1)) trivial (hv.ok r0 (List.mem_singleton.mpr rfl)) ?_ ?_)
   ·show [(r0.word,bR 0 r0.À.toNat)]=fw [r0];rfl
   ·show r0.À =([r0].map R0.À).sum;simp
def HM (m:Int):V->Bool
 | .int i=>decide (i<m)
 | _=>false
theorem AL {bl:Addr}{ys:List V}{B:List Bk}{Q:VK}{σ:St}(s5:σ[5]?=some (some (.ref bl)))(s4:σ[4]?=some (some (.int m)))(b:Ú H p)(hb:wo H p bl=some (.lst ys))(ra:Á (wo H p) ys (B.map gy))(l6:B.length<=6)(Ő:∀ b∈B,b.2.length<=20)(k:∀ D zs H',Ext H H'->wo H' p D=some (.lst zs)->Á (wo H' p) zs ((hG m B).map gy)->Q (.ref D) H') :
  eG (bC K (af 5)) 2 [4] (Bh K) (vt K) σ H Q:=by
 have ly:=ra.length;rw [List.length_map] at ly;refine⟨_,s5,bl,rfl,⟨ys,Ã.of (ai _ _ _ _ hb)⟩,λ D hD=>?_⟩;have nD:=b.ne hD;have ec:cJ [4] σ=[some (.int m)]:=by unfold cJ;rw [List.map_cons,s4];rfl
 rw [ec];refine bQ (a:=bl) (xs:=ys) (λ i zs H'=>Ext H H'/\Á (wt H' p D) zs ((hG m (B.take i)).map gy)) (by rw [sizeLine_eq];omega) ⟨Ext.new hD,.nil⟩ (λ i zs H' pv=>Ã.of (pv.1 _ _ (ai _ _ _ _ hb))) ?_ ?_
 ·rintro i x zs H' ex lz Ô ⟨x',rz⟩ os á R k';obtain⟨o0,o1,rfl⟩:∃ o0 o1,os=[o0,o1]:=by
   match os,á with
   | [o0,o1],_=>exact⟨o0,o1,rfl⟩
  obtain⟨d,ed,rd⟩:=ra.get ex;rw [List.getElem?_map] at ed;obtain⟨bk,ebk,rfl⟩:=Option.map_eq_some_iff.mp ed;obtain⟨a,l,rfl,ha,hl⟩:=iC rd;have lb:=Ő bk (List.mem_of_getElem? ebk);refine⟨a,_,rfl,Ì.of (x' _ _ (ai _ _ _ _ ha)),rfl,_,_,rfl,_,_,rfl,rfl,⟨[some (.str bk.1),some (.ref l)],rfl,rfl⟩,_,rfl,?_⟩;refine⟨_,rfl,l,rfl,⟨_,Ã.of (x' _ _ (ai _ _ _ _ hl))⟩,λ D2 Ĉ=>?_⟩;refine lY (a:=l) (HM m) (by rw [sizeLine_eq,List.length_map];omega) (x' _ _ (ai _ _ _ _ hl)) Ĉ ?_ ?_
  ·rintro j v H2 ev x2 R2 r2;rw [List.getElem?_map] at ev;obtain⟨n,en,rfl⟩:=Option.map_eq_some_iff.mp ev;exact⟨_,rfl,_,rfl,_,_,rfl,rfl,_,rfl,r2⟩
  ·intro H2 x2 Nm;rw [dS (λ x=>decide (x<m)) (HM m) (λ _=>rfl)] at Nm;have Wa:D2≠D:=λ e=>by rw [e,Ô] at Ĉ;cases Ĉ
   have b2:=b.ext x';have Qo:=b2.ne Ĉ;refine⟨by show 2<=sizeLine;decide,λ t ht=>?_⟩
   have x3:=Ext.new (o:=.tup [.str bk.1,.ref D2]) ht;have g3:ae H2 t (.tup [.str bk.1,.ref D2]) t=some (.tup [.str bk.1,.ref D2]):=aL;have Qp:t≠D:=λ e=>by rw [e,x2 _ _ Ô] at ht;cases ht
   have Qq:=(b2.ext x2).ne ht;generalize ae H2 t (.tup [.str bk.1,.ref D2])=H3 at x3 g3 ⊢;have JP:=x2.trans x3;refine k' _ H3 (JP _ _ Ô) ⟨aP _ (x'.trans JP) hD,?_⟩;have et:hG m (B.take (i+1))=hG m (B.take i) ++ [(bk.1,bk.2.filter λ x=>decide (x<m))]:=by
    unfold hG;rw [aA ebk,List.map_append];rfl
   rw [et,List.map_append];refine((rz.mono (iE JP p D)).append (.cons ?_ .nil)).mono ja;exact nK (b:=(bk.1,bk.2.filter λ x=>decide (x<m))) (gu Qq Qp g3) (gu Qo Wa (x3 _ _ Nm))
 ·rintro zs H' lz Ô ⟨x',rz⟩;rw [ly,List.take_length] at rz;exact k D zs H' x' (aK nD Ô) (rz.mono (ai _ _))
theorem we {σ:St}{te:TE}{g:TG}(h:te σ H λ x H1=>g x σ H1 De.nx):cH te g De σ H:=h
theorem zy (sc:Sc K H sA p ns){bl:Addr}{ys:List V}{rs:List R0}{t:Rl}{v:V}(ru:Ru C (wo H p) t v)(pl:t.plain1)(ok:t.ok)(eb:t.bl=fw rs)(Qm:∀ r∈rs,r.ok)(l4:rs.length<=4)(hb:wo H p bl=some (.lst ys))(ra:Á (wo H p) ys ((fw rs).map gy))
  (k:∀ v t o4 bl ys B H',Sc K H' sA p ns->Ext (wo H p) (wo H' p)->Ru C (wo H' p) t v->t.flat->t.ok->B.length<=4->(∀ b∈B,b.2.length<=20)->wo H' p bl=some (.lst ys)->Á (wo H' p) ys (B.map gy)->gE B=t.bl->u De [some (.ref sA),some (.ref p),o2,o3,o4,some (.ref bl),o6,o7,some v,o9] H')(s6:o6=some (.int t.À)) :
  aH (BE K C CN) u De [some (.ref sA),some (.ref p),o2,o3,o4,some (.ref bl),o6,o7,some v,o9] H:=by
 subst s6;have fk:=Rl.È ok;have lB:(fw rs).length<=4:=by rw [nA];exact l4
 have Ő:∀ b∈fw rs,b.2.length<=20:=λ b hb=>jw _ 0 (λ n hn=>by
  obtain⟨r,hr,rfl⟩:=List.mem_map.mp hn;exact(R0.È (Qm r hr)).2) _ (List.of_mem_zip hb).2
 refine bp sc rfl rfl (λ R r=>r) (by decide) (by decide) λ z H1 z0 z3 é k1=>⟨rfl,_,rfl,?_⟩
 have xa:=aB k1;by_cases ez:z=0
 ·rw [decide_eq_true (by rw [ez])]
  refine cq ?_;refine aQ (te:=eV K (aJ (c8 λ i j=>.int (i+j)) (af 6) (tC (.int 1)))) (i:=4) ?_;refine bp (m:=t.À + 1) é rfl rfl (λ R r=>⟨_,rfl,_,_,rfl,rfl,r⟩) (by omega) (by omega) λ y H2 y0 ym Ā k2=>?_
  have xb:=xa.trans (aB k2);refine aQ (te:=dE (C 4) (mZ C CN) [] E0 (ah (af 8) (ah (af 4) aF))) (i:=8) ?_;have Te:(Rl.first t y).ok:=⟨ok,y0,by omega⟩
  refine⟨_,rfl,_,rfl,λ x dx hx hd ne=>qh hx hd ne ((ru.ext xb).ext (ai _ _)) Te λ H3 x3 Wb=>⟨rfl,?_⟩⟩;have Ħ:=Ā.ext x3;have xc:=xb.trans (ba x3 p);refine we (te:=eG (bC K (af 5)) 2 [4] (Bh K) (vt K)) (g:=aW 5) ?_;refine AL (p:=p) (m:=y) rfl rfl Ħ.bx (xc _ _ hb) (ra.mono xc) (by omega) Ő λ D zs H4 x4 hD rz=>?_
  have ų:=Ħ.ext x4;refine k (.ref x) (.first t y) (some (.int y)) D zs (hG y (fw rs)) H4 ų (xc.trans (ba x4 p)) ((Wb.wo Ħ.bx).ext (ba x4 p)) pl Te (by unfold hG;rw [List.length_map];exact lB) (λ b hb=>?_) hD rz (by show _=gE (hG y t.bl);rw [eb])
  obtain⟨b',Wc,rfl⟩:=List.mem_map.mp hb;exact Nat.le_trans (List.length_filter_le _ _) (Ő b' Wc)
 ·rw [decide_eq_false (λ h=>ez (V.int.inj h))];refine bY (k v t _ bl ys (fw rs) H1 é xa (ru.ext xa) ?_ ok lB Ő (xa _ _ hb) (ra.mono xa) (by rw [tL Qm,eb]))
  cases t with
  | one r=>trivial
  | blocks rs=>trivial
  | first t m=>exact pl.elim
theorem Aq (sc:Sc K H sA p ns){bl:Addr}{ys:List V}{B:List Bk}{v:V}(l4:B.length<=4)(Ő:∀ b∈B,b.2.length<=20)(hb:wo H p bl=some (.lst ys))(ra:Á (wo H p) ys (B.map gy))
  (k:∀ a D zs H',Ext H H'->H D=none->wo H' p a=some (.tup [v,.ref D])->wo H' p D=some (.lst zs)->Á (wo H' p) zs ((gE B).map gy)->De.rt (.ref a) H'):BI K De [o0,o1,o2,o3,o4,some (.ref bl),o6,o7,some v,o9] H:=by
 have ly:=ra.length;rw [List.length_map] at ly;refine⟨_,rfl,_,rfl,bl,rfl,⟨ys,Ã.of (ai _ _ _ _ hb)⟩,λ D hD=>?_⟩;have nD:=sc.bx.ne hD;refine qo (a:=bl) (xs:=ys) (λ i zs H'=>Ext H H'/\Á (wt H' p D) zs ((gE (B.take i)).map gy)) (by rw [sizeLine_eq];omega) ⟨Ext.new hD,.nil⟩ (λ i zs H' pv=>Ã.of (pv.1 _ _ (ai _ _ _ _ hb))) ?_ ?_
 ·rintro i x zs H' ex lz Ô ⟨x',rz⟩ os á N kN;obtain⟨o0,o1,rfl⟩:∃ o0 o1,os=[o0,o1]:=by
   match os,á with
   | [o0,o1],_=>exact⟨o0,o1,rfl⟩
  obtain⟨d,ed,rd⟩:=ra.get ex;rw [List.getElem?_map] at ed;obtain⟨bk,ebk,rfl⟩:=Option.map_eq_some_iff.mp ed;obtain⟨a,l,rfl,ha,hl⟩:=iC rd;refine⟨a,_,rfl,Ì.of (x' _ _ (ai _ _ _ _ ha)),rfl,_,_,rfl,_,_,rfl,rfl,⟨[some (.str bk.1),some (.ref l)],rfl,rfl⟩,_,rfl,by show 0<=sizeLine;decide,λ q hq=>?_⟩
  have x2:=Ext.new (o:=.lst []) hq;have g2:ae H' q (.lst []) q=some (.lst []):=aL;generalize ae H' q (.lst [])=H2 at x2 g2 ⊢;have et:gE (B.take (i+1))=gE (B.take i)++(if(!bk.2.isEmpty)=true then [bk] else []):=by
   unfold gE;rw [aA ebk,List.filter_append,List.filter_cons,List.filter_nil]
  refine⟨l,q,_,rfl,rfl,Ã.of (x2 _ _ (x' _ _ (ai _ _ _ _ hl))),Ã.of g2,_,rfl,?_⟩;have ee:(bk.2.map V.int).isEmpty=bk.2.isEmpty:=by cases bk.2 <;> rfl
  rw [ee];refine⟨λ hf=>kN zs H2 ⟨x'.trans x2,?_⟩ (by omega) (x2 _ _ Ô),λ ht=>?_⟩
  ·rw [et,if_neg (by rw [hf];decide),List.append_nil]
   exact rz.mono (iE x2 p D)
  ·refine⟨_,rfl,_,rfl,by show 2<=sizeLine;decide,λ tt OG=>?_⟩
   have x3:=Ext.new (o:=.tup [.str bk.1,.ref l]) OG;have g3:ae H2 tt (.tup [.str bk.1,.ref l]) tt=some (.tup [.str bk.1,.ref l]):=aL;have Qp:tt≠D:=λ e=>by rw [e,x2 _ _ Ô] at OG;cases OG
   have Qq:=(sc.bx.ext (x'.trans x2)).ne OG;generalize ae H2 tt (.tup [.str bk.1,.ref l])=H3 at x3 g3 ⊢;have JP:=x2.trans x3;have Qr:=JP _ _ Ô;refine⟨Qr,kN _ _ ⟨aP _ (x'.trans JP) hD,?_⟩ (by rw [List.length_append];show zs.length+1<=i+1;omega) aL⟩
   have lD:l≠D:=λ e=>by rw [e] at hl;have:=ai _ _ _ _ hl;rw [hD] at this;cases this
   rw [et,if_pos ht,List.map_append];refine((rz.mono (iE JP p D)).append (.cons ?_ .nil)).mono ja;exact nK (b:=bk) (gu Qq Qp g3) (gu (fF hl) lD (JP _ _ (x' _ _ (ai _ _ _ _ hl))))
 ·rintro zs H' lz Ô ⟨x',rz⟩;rw [ly,List.take_length] at rz;refine⟨by show 2<=sizeLine;decide,λ a ha=>?_⟩
  have x3:=Ext.new (o:=.tup [v,.ref D]) ha;have g3:ae H' a (.tup [v,.ref D]) a=some (.tup [v,.ref D]):=aL;have Wd:=(sc.bx.ext x').ne ha;exact k a D zs _ (x'.trans x3) hD (aK Wd g3) (aK nD (x3 _ _ Ô)) ((rz.mono (ai _ _)).mono (ba x3 p))
def zp (K:Frag)(C:Nat->Addr):Sp:=λ vs H Q _=>∃(s p:Addr)(ns:List Int)(m:Int),vs=[.ref s,.ref p,.int m]/\Sc K H s p ns/\1<=m/\m<=20/\∀ a v D zs t H',Sc K H' s p ns->Ext (wo H p) (wo H' p)->wo H p D=none->wo H' p a=some (.tup [v,.ref D])->Ru C (wo H' p) t v->t.flat->t.ok->wo H' p D=some (.lst zs)->Á (wo H' p) zs (t.bl.map gy)->Q (.ref a) H'
theorem zO (sc:Sc K H sA p ns)(m1:1<=m)(m2:m<=20)(q:∀ a v D zs t H',Sc K H' sA p ns->Ext (wo H p) (wo H' p)->wo H p D=none->wo H' p a=some (.tup [v,.ref D])->Ru C (wo H' p) t v->t.flat->t.ok->wo H' p D=some (.lst zs)->Á (wo H' p) zs (t.bl.map gy)->De.rt (.ref a) H') :
  Bx (HJ K C CN CT CM De [some (.ref sA),some (.ref p),some (.int m),o3,o4,o5,o6,o7,o8,o9] H):=by
 refine⟨yH sc m1 m2 λ sv rs H1 é x1 We=>?_⟩;refine Ab é m1 m2 We λ sv rs o4 H2 Ā x2 OH=>?_;refine Bp Ā OH λ bl ys o7 o8 o9 H3 Ħ x3 hb ra=>?_;refine Ao Ħ (OH.ext x3) λ v t H4 ų x4 ru pl ok eb ef=>?_;refine zy ų ru pl ok eb OH.ok OH.l4 (x4 _ _ hb) (ra.mono x4) (λ v t o4 bl ys B H5 IT x5 Wf fl Wg l4 Ő OI Wh ec=>?_) (by rw [ef])
 refine Aq IT l4 Ő OI Wh λ a D zs H6 x6 nD ha hD rz=>?_;have wn:wo H p D=none:=by
  cases e:wo H p D with
  | none=>rfl
  | some o=>rw [ai _ _ _ _ ((((x1.trans x2).trans x3).trans (x4.trans x5)) _ _ e)] at nD;cases nD
 have Nn:=ba x6 p;rw [ec] at rz;exact q a v D zs t H6 (IT.ext x6) ((((x1.trans x2).trans x3).trans (x4.trans x5)).trans Nn) wn ha (Wf.ext Nn) fl Wg hD rz
theorem B9 {f f0 f1 f2 f3 f4 a1 a2:Addr}{fd e0 e1 e2 e3 e4 d1 d2:FuncData}(F:Ö K "_law_rule" "_law_rule" lT f fd)(L:ze P w K mg base C CN CS CT CM f0 f1 f2 f3 f4 e0 e1 e2 e3 e4)(A1:Df P w K mg base av 1 "_law_take" ["_law_script","_law_pen","_law_many"] (dJ K) a1 d1)(A2:Df P w K mg base av 8 "_law_plain_rule" ["_law_script","_law_pen","_law_most"] (qY K C) a2 d2)(mr:mg "range" = none)(mm:mg "max" = none)(mi:mg "int" = none)(ml:mg "list" = none)(mn:mg "len" = none):Â P w K mg base av 9 f fd ["_law_script","_law_pen","_law_most"] (zp K C):=by
 refine F.ok Ę (λ vs H Q E h=>?_) (λ cdv A outer s H vs Q E hr h=>?_)
 ·obtain⟨_,_,_,_,rfl,_⟩:=h;rfl
 obtain⟨sA,p,ns,m,rfl,sc,m1,m2,q⟩:=h;exact gK (yz L A1 A2 hr mr mm mi ml mn) (zO sc m1 m2 q)
end
theorem bj (s:Int)(n:Nat):(bR s n).length=n:=by unfold bR;rw [List.length_map,List.length_range]
theorem f7 {s:Int}{n i:Nat}(h:i<n):(bR s n)[i]?=some (s+(i:Nat)):=by
 unfold bR;rw [List.getElem?_map,List.getElem?_range h];rfl
theorem lA (s:Int)(a b:Nat):bR s (a+b)=bR s a++bR (s+(a:Nat)) b:=by
 unfold bR;rw [List.range_add,List.map_append,List.map_map]
 congr 1
 apply List.map_congr_left;intro k _;show s+((a+k:Nat):Int)=s+(a:Nat)+(k:Nat);omega
theorem iR (s:Int)(n:Nat):bR s (n+1)=s::bR (s+1) n:=by
 rw [Nat.add_comm n 1,lA];show [s+((0:Nat):Int)]++_=_;simp
theorem ig:∀(n:Nat)(s m:Int),m<=s->(bR s n).filter (λ x=>decide (x<m))=[]
 | 0,s,m,h=>rfl
 | n+1,s,m,h=>by
  rw [iR,List.filter_cons,if_neg (by simp;omega)]
  exact ig n (s+1) m (by omega)
theorem jj:∀(n:Nat)(s m:Int),s+(n:Nat)<=m->(bR s n).filter (λ x=>decide (x<m))=bR s n
 | 0,s,m,h=>rfl
 | n+1,s,m,h=>by
  rw [iR,List.filter_cons,if_pos (by simp;omega),jj n (s+1) m (by omega)]
theorem ss (n:Nat)(s m:Int)(h1:s<=m)(h2:m<=s+(n:Nat)):(bR s n).filter (λ x=>decide (x<m))=bR s (m-s).toNat:=by
 obtain⟨a,ha⟩:∃ a:Nat,m-s=(a:Int):=⟨(m-s).toNat,by omega⟩
 obtain⟨b,rfl⟩:∃ b:Nat,n=a+b:=⟨n-a,by omega⟩
 rw [lA,List.filter_append,jj a s m (by omega),ig b _ m (by omega),List.append_nil,ha,Int.toNat_natCast]
theorem jM (m:Int)(p:List Int)(ps:List (List Int)):fO m (p::ps)=if 0<(p.filter λ x=>decide (x<m)).length then(p.filter λ x=>decide (x<m))::fO m ps else fO m ps:=by
 unfold fO;rw [List.map_cons,List.filter_cons];by_cases h:0<(p.filter λ x=>decide (x<m)).length
 ·rw [if_pos h,if_pos (decide_eq_true h)]
 ·rw [if_neg h,if_neg (by rw [decide_eq_false h];decide)]
theorem gV:∀(ns:List Int)(s m:Int),(∀ n∈ns,1<=n)->∃ â,(∀ n ∈ â,1<=n)/\fO m (bF s ns)=bF s â/\(s<=m->m<=s+ns.sum->s + â.sum=m)/\(m<=s->â=[])
 | [],s,m,_=>⟨[],(λ n h=>nomatch h),rfl,(λ h1 h2=>by simp at h2 ⊢;omega),λ _=>rfl⟩
 | n::ns,s,m,h=>by
  have hn:=h n (List.mem_cons_self ..);obtain⟨â,g1,g2,g3,g4⟩:=gV ns (s+n) m λ x hx=>h x (List.mem_cons_of_mem _ hx);show ∃ â,_/\fO m (bR s n.toNat::bF (s+n) ns)=_/\_/\_;rw [jM,g2];by_cases hs:s<m
  ·by_cases hm:s+n<=m
   ·refine⟨n :: â,λ x hx=>?_,?_,λ _ h2=>?_,λ h3=>absurd h3 (by omega)⟩
    ·rcases List.mem_cons.mp hx with rfl | hx
     ·exact hn
     ·exact g1 x hx
    ·rw [jj _ _ _ (by omega),bj,if_pos (by omega)]
     rfl
    ·rw [List.sum_cons] at h2 ⊢;have:=g3 (by omega) (by omega)
     omega
   ·have e:=g4 (by omega)
    subst e;refine⟨[m-s],λ x hx=>?_,?_,λ _ _=>?_,λ h3=>absurd h3 (by omega)⟩
    ·rw [List.mem_singleton.mp hx];omega
    ·rw [ss _ _ _ (by omega) (by omega),bj,if_pos (by omega)]
     rfl
    ·simp;omega
  ·have e:=g4 (by omega)
   subst e;refine⟨[],(λ n h=>nomatch h),?_,λ h1 h2=>?_,λ _=>rfl⟩
   ·rw [ig _ _ _ (by omega),if_neg (by simp)]
    rfl
   ·simp;omega
theorem lP:∀(ws:List Str)(ns:List Int)(s m:Int),(∀ n∈ns,1<=n)->gE (hG m (ws.zip (bF s ns)))=ws.zip (fO m (bF s ns))
 | [],ns,s,m,_=>by simp [gE,hG]
 | w::ws,[],s,m,_=>rfl
 | w::ws,n::ns,s,m,h=>by
  have hn:=h n (List.mem_cons_self ..);have h':∀ x∈ns,1<=x:=λ x hx=>h x (List.mem_cons_of_mem _ hx);have ih:=lP ws ns (s+n) m h';show gE (hG m ((w,bR s n.toNat)::ws.zip (bF (s+n) ns)))=(w::ws).zip (fO m (bR s n.toNat::bF (s+n) ns));rw [jM];show gE ((w,(bR s n.toNat).filter λ x=>decide (x<m))::hG m (ws.zip (bF (s+n) ns)))=_;unfold gE at ih ⊢;rw [List.filter_cons];by_cases hl:0<((bR s n.toNat).filter λ x=>decide (x<m)).length
  ·rw [if_pos hl,if_pos (by
    cases e:(bR s n.toNat).filter (λ x=>decide (x<m)) with
    | nil=>rw [e] at hl;exact absurd hl (by simp)
    | cons _ _=>rfl),List.zip_cons_cons]
   show _::_=_;rw [ih]
  ·rw [if_neg hl];have e:(bR s n.toNat).filter (λ x=>decide (x<m))=[]:=List.eq_nil_of_length_eq_zero (by omega)
   have ms:m<=s:=by
    rcases Int.lt_or_le s m with lt | ge
    ·exfalso;obtain⟨k,hk⟩:∃ k:Nat,n.toNat=k+1:=⟨n.toNat-1,by omega⟩
     rw [hk,iR,List.filter_cons,if_pos (by simpa using lt)] at e
     cases e
    ·exact ge
   rw [if_neg (by rw [e];exact Bool.false_ne_true),ih]
   obtain⟨â,_,g2,_,g4⟩:=gV ns (s+n) m h';rw [g2,g4 (by omega)]
   show ws.zip []=(w::ws).zip [];rw [List.zip_nil_right,List.zip_nil_right]
theorem eQ {rs:List R0}(ok:∀ r∈rs,r.ok):∀ n∈rs.map R0.À,1<=n:=λ n hn=>by
 obtain⟨r,hr,rfl⟩:=List.mem_map.mp hn;exact(R0.È (ok r hr)).1
theorem gA:∀{t:Rl},t.ok->t.flat->∃ ns,(∀ n∈ns,1<=n)/\t.parts=bF 0 ns/\ns.sum=t.À
 | .one r,h,_=>⟨[r.À],λ n hn=>by rw [List.mem_singleton.mp hn];exact(R0.È h).1,rfl,by simp [Rl.À]⟩
 | .blocks rs,h,_=>⟨rs.map R0.À,eQ h.2.2.1,rfl,rfl⟩
 | .first (.one r) m,h,_=>by
  obtain⟨â,g1,g2,g3,_⟩:=gV ([r].map R0.À) 0 m (eQ λ r' h'=>by rw [List.mem_singleton.mp h'];exact h.1)
  refine⟨â,g1,g2,?_⟩;have:=g3 h.2.1 (by have:=h.2.2;simp [Rl.À] at this ⊢;exact this)
  rw [Int.zero_add] at this;exact this
 | .first (.blocks rs) m,h,_=>by
  obtain⟨â,g1,g2,g3,_⟩:=gV (rs.map R0.À) 0 m (eQ h.1.2.2.1);refine⟨â,g1,g2,?_⟩;have:=g3 h.2.1 (by rw [Int.zero_add];exact h.2.2)
  rw [Int.zero_add] at this;exact this
 | .first (.first _ _) _,_,h=>h.elim
theorem sx:∀{t:Rl},t.ok->t.flat->t.bl=(t.base.map R0.word).zip t.parts
 | .one r,_,_=>rfl
 | .blocks rs,_,_=>rfl
 | .first (.one r) m,h,_=>lP ([r].map R0.word) ([r].map R0.À) 0 m (eQ λ r' h'=>by rw [List.mem_singleton.mp h'];exact h.1)
 | .first (.blocks rs) m,h,_=>lP (rs.map R0.word) (rs.map R0.À) 0 m (eQ h.1.2.2.1)
 | .first (.first _ _) _,_,h=>h.elim
theorem oj:∀{t:Rl},t.flat->t.parts.length<=t.base.length
 | .one r,_=>Nat.le_refl _
 | .blocks rs,_=>by show(bF 0 (rs.map R0.À)).length<=rs.length;rw [dL,List.length_map];exact Nat.le_refl _
 | .first (.one r) m,_=>by
  show(fO m [bR 0 r.À.toNat]).length<=1;unfold fO;exact Nat.le_trans (List.length_filter_le _ _) (by simp)
 | .first (.blocks rs) m,_=>by
  show(fO m (bF 0 (rs.map R0.À))).length<=rs.length;unfold fO;refine Nat.le_trans (List.length_filter_le _ _) ?_;rw [List.length_map,dL,List.length_map];exact Nat.le_refl _
 | .first (.first _ _) _,h=>h.elim
theorem dP {t:Rl}(ok:t.ok)(fl:t.flat):t.bl.map (·.2)=t.parts:=by
 rw [sx ok fl];exact List.map_snd_zip (by rw [List.length_map];exact oj fl)
def kL (b:Bk):Bool:=decide (V.str b.1=V.str "pairs")&&decide (b.2.length%2=0)
theorem tj:∀(ps:List (List Int))(rs:List R0),List.zipWith (λ (p:List Int)(r:R0)=>r.K5&&decide (p.length%2=0)) ps rs=((rs.map R0.word).zip ps).map kL
 | [],rs=>by simp
 | p::ps,[]=>by simp
 | p::ps,r::rs=>by
  show(r.K5&&decide (p.length%2=0))::_=kL (r.word,p)::_;rw [tj ps rs];unfold kL;rw [R0.JJ];rfl
theorem nP {t:Rl}(ok:t.ok)(fl:t.flat):nN t=t.bl.map kL:=by
 unfold nN;rw [sx ok fl];exact tj _ _
theorem f9:∀(ns:List Int)(s:Int),(∀ n∈ns,1<=n)->(bF s ns).flatten=bR s ns.sum.toNat
 | [],s,_=>rfl
 | n::ns,s,h=>by
  have hn:=h n (List.mem_cons_self ..);have h':∀ x∈ns,1<=x:=λ x hx=>h x (List.mem_cons_of_mem _ hx);have s0:0<=ns.sum:=bK λ x hx=>by have:=h' x hx;omega
  show(bR s n.toNat::bF (s+n) ns).flatten=_;rw [List.flatten_cons,f9 ns (s+n) h',List.sum_cons];have e:(n+ns.sum).toNat=n.toNat+ns.sum.toNat:=by omega
  rw [e,lA]
  congr 2
  omega
theorem k9 {t:Rl}(ok:t.ok)(fl:t.flat):(t.bl.map (·.2)).flatten=bR 0 t.À.toNat:=by
 obtain⟨ns,h1,h2,h3⟩:=gA ok fl;rw [dP ok fl,h2,f9 ns 0 h1,h3]
theorem jK:∀(B:List Bk),(∀ b∈B,b.2.length%2=0)->(B.map (·.2)).flatten.length%2=0
 | [],_=>rfl
 | b::B,h=>by
  have h1:=h b (List.mem_cons_self ..);have h2:=jK B λ x hx=>h x (List.mem_cons_of_mem _ hx);rw [List.map_cons,List.flatten_cons,List.length_append];omega
theorem sI {t:Rl}(ok:t.ok)(fl:t.flat){n:Nat}(e:t.À =(n:Nat))(al:(nN t).all id=true):n%2=0:=by
 rw [nP ok fl] at al;have h:=jK t.bl λ b hb=>by
  have:=List.all_eq_true.mp al (kL b) (List.mem_map.mpr ⟨b,hb,rfl⟩);unfold kL at this;simp only [id,Bool.and_eq_true,decide_eq_true_eq] at this;exact this.2
 rw [k9 ok fl,bj,e,Int.toNat_natCast] at h;exact h
def kH (o:Int × Bool):PyData:=.tuple [.int o.1,.bool o.2]
def sw (os:List (Int × Bool)):Prop:=∀ o∈os,-99<=o.1/\o.1<=99
theorem Dq {H:Hp}{xs:List V}{os:List (Int × Bool)}(h:Á H xs (os.map kH)):ė H xs os:=by
 have l:=h.length;rw [List.length_map] at l;refine⟨l,λ i x o h1 h2=>?_⟩;obtain⟨d,ed,rd⟩:=h.get h1;rw [List.getElem?_map,h2] at ed;cases ed;obtain⟨a,ys,rfl,ha,rs⟩:=kU rd;cases rs with
 | cons r1 rs=>cases rs with
  | cons r2 rs=>cases rs;cases r1;cases r2;exact⟨a,rfl,ha⟩
theorem ė.ext {H H':Hp}{xs:List V}{os:List (Int × Bool)}(h:ė H xs os)(x:Ext H H'):ė H' xs os:=⟨h.1,λ i y o h1 h2=>by
 obtain⟨a,e,ha⟩:=h.2 i y o h1 h2;exact⟨a,e,x _ _ ha⟩⟩
section
variable {P:Program}{w:World}{K:Frag}{mg:Str->Option Value}{base:Heap}{f a1:Addr}{fd d1:FuncData}
abbrev Fn:Stmt:=bX 66
theorem G2:ad ["_law_blocks"] ["_law_blocks"] (aa Fn):=aM
def xF:Sp:=λ vs H Q _=>∃(D:Addr)(zs:List V)(B:List Bk),vs=[.ref D]/\H D=some (.lst zs)/\Á H zs (B.map gy)/\B.length<=20/\∀ H',Ext H H'->Q (.int ((B.map (·.2)).flatten.length:Nat)) H'
abbrev EF:Scope:={ kind:=.function,names:=[(".0",.local),("_law_word",.local),("_law_folk_here",.local),("len",.globalImplicit)],isGenerator:=false,isCoroutine:=false }
theorem yw {X:Cx}:bu X EF [] ["_law_word","_law_folk_here"] [] []:=lL (L:=[(".0",.local),("_law_word",.local),("_law_folk_here",.local),("len",.globalImplicit)]) rfl rfl (by decide +kernel) (by decide +kernel) (by decide +kernel) rfl (by decide +kernel) (by decide +kernel)
def nB (K:Frag)(i:Nat):TE:=gH (λ xs H Q=>∃ p ys,xs=[.ref p]/\(Ã K H p ys\/Ì K H p ys)/\Q (.int ys.length) H) (ah (af i) aF)
theorem ET (F:Ö K "_law_folk" "_law_folk" Fn f fd)(ms:mg "sum" = none)(mn:mg "len" = none):Â P w K mg base av 1 f fd ["_law_blocks"] xF:=by
 refine F.ok G2 (λ vs H Q E h=>?_) (λ cdv A outer s H vs Q E hr h=>?_)
 ·obtain⟨_,_,_,rfl,_⟩:=h;rfl
 obtain⟨D,zs,B,rfl,hD,ra,Ő,q⟩:=h;refine⟨_,aY (cZ (am (gj rfl) rfl ms PyProof.Rows.boot_sum (ac (cR (te:=nB K 1) (g:=Bh K) rfl yw (aR (pv 0)) (λ s H C fp=>by exact bq rfl (dq (bV (i:=0) wj rfl (.inl rfl)) (dq (bV (i:=1) wj rfl (.inl rfl)) aU))) (λ s H C fp=>by exact am aG rfl mn PySem.boot_len (ac (pv 1) ak))) ak))),?_⟩
 have lz:=ra.length;rw [List.length_map] at lz;refine⟨_,rfl,D,rfl,⟨zs,Ã.of hD⟩,λ D2 Ĉ=>?_⟩;refine bQ (a:=D) (xs:=zs) (λ i ys H'=>Ext H H'/\ys=((B.take i).map λ b=>((b.2.length:Nat):Int)).map V.int) (by rw [sizeLine_eq];omega) ⟨Ext.new Ĉ,rfl⟩ (λ i ys H' pv=>Ã.of (pv.1 _ _ hD)) ?_ ?_
 ·rintro i x ys H' ex ly Ô ⟨x',ey⟩ os á R k;obtain⟨o0,o1,rfl⟩:∃ o0 o1,os=[o0,o1]:=by
   match os,á with
   | [o0,o1],_=>exact⟨o0,o1,rfl⟩
  obtain⟨d,ed,rd⟩:=ra.get ex;rw [List.getElem?_map] at ed;obtain⟨bk,ebk,rfl⟩:=Option.map_eq_some_iff.mp ed;obtain⟨a,l,rfl,ha,hl⟩:=iC rd;refine⟨a,_,rfl,Ì.of (x' _ _ ha),rfl,_,_,rfl,_,_,rfl,rfl,⟨[some (.str bk.1),some (.ref l)],rfl,rfl⟩,_,rfl,l,_,rfl,.inl (Ã.of (x' _ _ hl)),?_⟩;refine k _ H' Ô ⟨aP _ x' Ĉ,?_⟩;rw [aA ebk,List.map_append,List.map_append,<- ey,List.length_map];rfl
 ·rintro ys H' ly Ô ⟨x',ey⟩;rw [lz,List.take_length] at ey;rw [ey] at Ô;refine⟨D2,_,rfl,Ã.of Ô,?_⟩;have e:∀ B:List Bk,(B.map λ b=>((b.2.length:Nat):Int)).sum=(((B.map (·.2)).flatten.length:Nat):Int):=λ B=>by
   induction B with
   | nil=>rfl
   | cons b B ih =>
    rw [List.map_cons,List.sum_cons,ih,List.map_cons,List.flatten_cons,List.length_append];omega
  rw [e];exact q H' x'
abbrev Fp:Stmt:=bX 68
theorem F6:ad ["_law_one","_law_other"] ["_law_one","_law_other"] (aa Fp):=aM
def om:Sp:=λ vs H Q _=>∃ v1 v2 o p,vs=[v1,v2]/\Fu H v1 o/\Fu H v2 p/\Q (.int (nO o p)) H
theorem EE (F:Ö K "_law_stands" "_law_stands" Fp f fd)(mi:mg "int" = none):Â P w K mg base av 1 f fd ["_law_one","_law_other"] om:=by
 refine F.ok F6 (λ vs H Q E h=>?_) (λ cdv A outer s H vs Q E hr h=>?_)
 ·obtain⟨_,_,_,_,rfl,_⟩:=h;rfl
 obtain⟨v1,v2,o,p,rfl,⟨a1,rfl,h1⟩,⟨a2,rfl,h2⟩,q⟩:=h;refine⟨_,cw (bo (PW.pt (im (bI (cy gF (pv 1) ay)) (gh (ao fS (cy gF (pv 0) ay) (cy gF (pv 1) ay) (ar _))))) (aY (cZ ay)) gG)
  (aY (cZ (ax fR ay (aO gX rfl mi PyProof.Rows.boot_int (ac (dy (cy gF (pv 0) ay) (eD (cC fS (cy gF (pv 1) ay) (cy gF (pv 0) ay) (ar _)))) ak))))),?_⟩
 obtain⟨n1,s1⟩:=o;obtain⟨n2,s2⟩:=p;have fin:(s2&&decide (n1>n2))=false->Q (.int (if(s1&&decide (n2>n1))=true then -1 else 0)) H:=λ e=>by
  have:nO (n1,s1) (n2,s2)=if(s1&&decide (n2>n1))=true then -1 else 0:=by
   show xI n1 s1 n2 s2=_;unfold xI;rw [e];rfl
  rw [<- this];exact q
 have last:∀ D:bA,D.rt=Q->(s2&&decide (n1>n2))=false->bN (aJ (c8 λ i j=>.int (i-j)) (tC (.int 0)) (gH (λ xs H Q=>(∃ i,xs=[.int i]/\Q (.int i) H)\/∃ k,xs=[.bl k]/\Q (.int (if k then 1 else 0)) H) (ah (pO (aJ (jG K) (af 0) (tC (.int 1))) (aJ (c8 λ i j=>.bl (decide (i>j))) (aJ (jG K) (af 1) (tC (.int 0))) (aJ (jG K) (af 0) (tC (.int 0))))) aF))) D [some (.ref a1),some (.ref a2)] H:=by
  intro D hD e;have f:=fin e;refine⟨_,rfl,a1,_,_,_,rfl,rfl,Ì.of h1,cX (j:=1) rfl,_,rfl,?_⟩;cases s1 with
  | false =>
   refine bY (.inr ⟨_,rfl,_,_,rfl,rfl,?_⟩);show D.rt _ _;rw [hD];exact f
  | true =>
   refine cq ⟨_,rfl,a2,_,_,_,rfl,rfl,Ì.of h2,cX (j:=0) rfl,_,rfl,a1,_,_,_,rfl,rfl,Ì.of h1,cX (j:=0) rfl,_,_,rfl,rfl,.inr ⟨_,rfl,_,_,rfl,rfl,?_⟩⟩;show D.rt _ _;rw [hD];cases g:decide (n2>n1) with
   | true=>rw [g] at f;exact f
   | false=>rw [g] at f;exact f
 refine⟨_,rfl,a2,_,_,_,rfl,rfl,Ì.of h2,cX (j:=1) rfl,_,rfl,?_⟩;cases s2 with
 | false=>exact bY (bY (last _ rfl rfl))
 | true =>
  refine cq ⟨_,rfl,a1,_,_,_,rfl,rfl,Ì.of h1,cX (j:=0) rfl,_,rfl,a2,_,_,_,rfl,rfl,Ì.of h2,cX (j:=0) rfl,_,_,rfl,rfl,_,rfl,?_⟩;cases g:decide (n1>n2) with
  | true =>
   refine cq ?_;have:nO (n1,s1) (n2,true)=1:=by
    show xI n1 s1 n2 true=_;unfold xI;rw [g];rfl
   rw [this] at q;exact q
  | false=>exact bY (last _ rfl (by rw [g];rfl))
abbrev xX:Stmt:=bX 67
abbrev HE:List Str:=["_law_script","_law_pen","_law_folk_here","_law_sure","_law_wide","_law_found","_law_k","_law_number"]
theorem Np:ad HE ["_law_script","_law_pen","_law_folk_here","_law_sure"] (aa xX):=aM
def A6 (K:Frag):Sp:=λ vs H Q _=>∃(s p:Addr)(ns:List Int)(n:Nat)(b:Bool),vs=[.ref s,.ref p,.int (n:Nat),.bl b]/\Sc K H s p ns/\n<=1200/\∀ l xs os H',Sc K H' s p ns->Ext (wo H p) (wo H' p)->wo H p l=none->wo H' p l=some (.lst xs)->Á (wo H' p) xs (os.map kH)->sw os->os.length=n->Q (.ref l) H'
def IQ (K:Frag):TS:=cH (aJ (cT K) (bM (ah (tC (.int 2)) (ah (tC (.int 5)) (ah (tC (.int 19)) (ah (tC (.int 199)) aF))))) (eV K (tC (.int 4)))) (aW 4)
def Io:TS:=cH (bM aF) (aW 5)
def HS (K:Frag):TS:=cH (aJ (c8 λ i j=>.int (i-j)) (eV K (af 4)) (aJ (rI iG λ i j=>.int (i/j)) (af 4) (tC (.int 2)))) (aW 7)
def HN (K:Frag):TS:=iB (q8 K "list" gc (af 5) (ah (dw (ah (af 7) (ah (zu (af 3) (aJ (c8 λ i j=>.bl (decide (i>j))) (eV K (tC (.int 3))) (tC (.int 0)))) aF))) aF))
def HL (K:Frag):TS:=gC (nE (ah (af 2) aF)) (aW 6) (aH (HS K) (HN K))
def Ip (K:Frag):TS:=aH (IQ K) (aH Io (aH (HL K) (bN (af 5))))
section
variable {cdv:Value}{A:Around}{outer:List Env}{s:Shared}{H:Hp}{E:XK}
theorem AE (A1:Df P w K mg base av 1 "_law_take" ["_law_script","_law_pen","_law_many"] (dJ K) a1 d1)(mr:mg "range" = none)(hr:qI 1 "_law_outcomes" xX A s f cdv):Bx (ü (aV av P w K mg base HE "_law_outcomes" (aa xX) f cdv A outer s H E).ä (au xX) (Ip K)):=by
 have nd:=Np.nd;exact cI ⟨iI (i:=4) nd rfl (Or.inl rfl) (cy fL (cj (ac ay (ac ay (ac ay (ac ay ak))))) (bU A1.G hr rfl A1.m A1.kp A1.b .nil aj (ac (pv 0) (ac (pv 1) (ac ay ak)))))⟩
  (cI ⟨iI (i:=5) nd rfl (Or.inl rfl) (cj ak)⟩
  (cI ⟨bZ PassesOwn.never rfl (fY rfl mr (ac (pv 2) ak)) (bV (i:=6) nd rfl (Or.inl rfl))
   (cw (iI (i:=7) nd rfl (Or.inl rfl) (ax fR (bU A1.G hr rfl A1.m A1.kp A1.b .nil aj (ac (pv 0) (ac (pv 1) (ac (pv 4) ak)))) (ax fh (pv 4) ay)))
   (aY (aq (dF PySem.F.plainAttrs_list PySem.F.slot_list_append PySem.F.type_list_append bh (pv 5) (ac (aI (ac (pv 7) (ac (E1 (pv 3) (eD (cC fS (bU A1.G hr rfl A1.m A1.kp A1.b .nil aj (ac (pv 0) (ac (pv 1) (ac ay ak)))) ay (ar _)))) ak))) ak)))))⟩
  (be ⟨cZ (pv 5)⟩)))
end
theorem BH {σ:St}{H:Hp}{sA p:Addr}{ns:List Int}{b:Bool}{R:VK}(sc:Sc K H sA p ns)(h0:σ[0]?=some (some (.ref sA)))(h1:σ[1]?=some (some (.ref p)))(h3:σ[3]?=some (some (.bl b)))(k:∀ c H',Sc K H' sA p ns->Kept H H' p->R (.bl c) H'):zu (af 3) (aJ (c8 λ i j=>.bl (decide (i>j))) (eV K (tC (.int 3))) (tC (.int 0))) σ H R:=by
 refine⟨_,h3,_,rfl,?_⟩;cases b with
 | true=>exact cq (k true H sc (Kept.refl _ _))
 | false=>exact bY (bp sc h0 h1 (λ R r=>r) (by decide) (by decide) λ t H4 t0 t3 ų k4=>⟨_,_,rfl,rfl,k _ H4 ų k4⟩)
theorem Dh (F:Ö K "_law_outcomes" "_law_outcomes" xX f fd)(A1:Df P w K mg base av 1 "_law_take" ["_law_script","_law_pen","_law_many"] (dJ K) a1 d1)(mr:mg "range" = none):Â P w K mg base av 2 f fd ["_law_script","_law_pen","_law_folk_here","_law_sure"] (A6 K):=by
 refine F.ok Np (λ vs H Q E h=>?_) (λ cdv A outer s H vs Q E hr h=>?_)
 ·obtain⟨_,_,_,_,_,rfl,_⟩:=h;rfl
 obtain⟨sA,p,ns,n,sb,rfl,sc,hn,q⟩:=h;obtain⟨JK⟩:=AE A1 mr hr (f:=f) (cdv:=cdv) (A:=A) (outer:=outer) (s:=s) (H:=H) (E:=E);refine⟨_,JK,?_⟩;refine aQ (te:=aJ (cT K) (bM (ah (tC (.int 2)) (ah (tC (.int 5)) (ah (tC (.int 19)) (ah (tC (.int 199)) aF))))) (eV K (tC (.int 4)))) (i:=4) (D:=⟨_,Q,_,_⟩) (jp ⟨by show 4<=sizeLine;decide,λ l0 h0=>?_⟩)
 have x0:=Ext.new (o:=.lst [V.int 2,.int 5,.int 19,.int 199]) h0;have g0:ae H l0 (.lst [V.int 2,.int 5,.int 19,.int 199]) l0=some (.lst [V.int 2,.int 5,.int 19,.int 199]):=aL;show eV K (tC (.int 4)) _ (ae H l0 (.lst [V.int 2,.int 5,.int 19,.int 199])) _;generalize ae H l0 (.lst [V.int 2,.int 5,.int 19,.int 199])=H0 at x0 g0 ⊢;have Qh:l0≠p:=sc.bx.ne h0;refine bp (sc.ext x0) rfl rfl (λ R r=>r) (by decide) (by decide) λ r H1 r0 r4 é k1=>?_
 have g1:=k1 _ _ g0 Qh;obtain⟨wd,ew,w1,w2⟩:∃ wd:Int,([V.int 2,.int 5,.int 19,.int 199]:List V)[r.toNat]?=some (.int wd)/\2<=wd/\wd<=199:=by
  obtain⟨m,rfl⟩:∃ m:Nat,r=(m:Int):=⟨r.toNat,by omega⟩
  have hm:m<4:=by omega
  rw [Int.toNat_natCast]
  match m,hm with
  | 0,_=>exact⟨2,rfl,by decide,by decide⟩
  | 1,_=>exact⟨5,rfl,by decide,by decide⟩
  | 2,_=>exact⟨19,rfl,by decide,by decide⟩
  | 3,_=>exact⟨199,rfl,by decide,by decide⟩
 have er:r=(r.toNat:Int):=by omega
 refine⟨l0,_,r,.int wd,rfl,rfl,Ã.of g1,by rw [er];exact cX ew,?_⟩
 have xa:Ext (wo H p) (wo H1 p):=(ba x0 p).trans (aB k1);refine aQ (te:=bM aF) (i:=5) (D:=⟨_,Q,_,_⟩) ⟨by show 0<=sizeLine;decide,λ fl Ku=>?_⟩
 have x2:=Ext.new (o:=.lst []) Ku;have g2:ae H1 fl (.lst []) fl=some (.lst []):=aL;have nf:fl≠p:=é.bx.ne Ku;have Nq:wo H p fl=none:=by
  cases e:wo H p fl with
  | none=>rfl
  | some o=>have:=ai _ _ _ _ (xa _ _ e);rw [Ku] at this;cases this
 show aH (HL K) (bN (af 5)) _ [some (.ref sA),some (.ref p),some (.int (n:Nat)),some (.bl sb),some (.int wd),some (.ref fl),none,none] (ae H1 fl (.lst []));have Ā:=é.ext x2;generalize ae H1 fl (.lst [])=H2 at x2 g2 Ā ⊢;have xb:=xa.trans (ba x2 p);refine⟨_,rfl,(n:Int),rfl,by omega,by omega,?_⟩
 rw [Int.toNat_natCast];refine kr (lo:=0) (n:=n) (λ i σ H'=>∃ ys os o6 o7,σ=[some (.ref sA),some (.ref p),some (.int (n:Nat)),some (.bl sb),some (.int wd),some (.ref fl),o6,o7]/\Sc K H' sA p ns/\Ext (wo H p) (wo H' p)/\H' fl=some (.lst ys)/\Á (wt H' p fl) ys (os.map kH)/\sw os/\os.length=i/\ys.length=i) ⟨[],[],_,_,rfl,Ā,xb,g2,.nil,(λ o ho=>nomatch ho),rfl,rfl⟩ ?_ ?_
 ·rintro i σ H' hi ⟨ys,os,o6,o7,rfl,Jk,xt,gf,ra,ok,lo,ly⟩;show aH (HS K) (HN K) _ [some (.ref sA),some (.ref p),some (.int (n:Nat)),some (.bl sb),some (.int wd),some (.ref fl),some (.int (0+(i:Int))),o7] H';refine aQ (te:=aJ (c8 λ i j=>.int (i-j)) (eV K (af 4)) (aJ (rI iG λ i j=>.int (i/j)) (af 4) (tC (.int 2)))) (i:=7) (D:=⟨_,Q,_,_⟩) (jp (bp Jk rfl rfl (λ R r=>⟨_,rfl,r⟩) (by omega) (by omega) λ r H3 r0 Jd Ħ k3=>⟨_,rfl,_,_,rfl,rfl,⟨by decide,by decide⟩,_,_,rfl,rfl,?_⟩))
  have Tf:=k3 _ _ gf nf;refine⟨_,rfl,.inl ⟨rfl,_,Ã.of Tf⟩,_,rfl,?_⟩;refine BH Ħ rfl rfl rfl λ c H4 ų k4=>⟨by show 2<=sizeLine;decide,λ k hk=>?_⟩
  have Tg:=k4 _ _ Tf nf;have x5:=Ext.new (o:=.tup [.int (r-wd/2),.bl c]) hk;have g5:ae H4 k (.tup [.int (r-wd/2),.bl c]) k=some (.tup [.int (r-wd/2),.bl c]):=aL;have Wi:k≠fl:=λ e=>by rw [e,Tg] at hk;cases hk
  have Wj:k≠p:=ų.bx.ne hk;have IT:=ų.ext x5;generalize ae H4 k (.tup [.int (r-wd/2),.bl c])=H5 at x5 g5 IT ⊢;have Wk:=x5 _ _ Tg;have b:-99<=r-wd/2/\r-wd/2<=99:=by omega
  have xw:Ext (wt H' p fl) (wt H5 p fl):=((kY k3).trans (kY k4)).trans (iE x5 p fl);have Wl:Ext (wo H' p) (wo H5 p):=((aB k3).trans (aB k4)).trans (ba x5 p);have xf:Ext (wo H p) (wo (ae H5 fl (.lst (ys ++ [.ref k]))) p):=λ b o e=>by
   have n1:b≠fl:=λ z=>by rw [z,Nq] at e;cases e
   have e2:=(xt.trans Wl) _ _ e;exact aK (fF e) (by rw [ag n1];exact ai _ _ _ _ e2)
  refine⟨fl,ys,.ref k,rfl,rfl,Wk,by rw [sizeLine_eq];omega,ys ++ [.ref k],os ++ [(r-wd/2,c)],_,_,rfl,?_,?_,aL,?_,?_,by rw [List.length_append,lo];rfl,by rw [List.length_append,ly];rfl⟩
  ·exact sc.OC xf (IT.bx.up nf)
  ·exact xf
  ·rw [List.map_append];exact((ra.mono xw).append (.cons (.tup (gu Wj Wi g5) (.cons (.int _) (.cons (.bl _) .nil))) .nil)).mono ja
  ·intro o ho;rcases List.mem_append.mp ho with h | h
   ·exact ok o h
   ·rw [List.mem_singleton.mp h];exact b
 ·rintro σ H' ⟨ys,os,o6,o7,rfl,Jk,xt,gf,ra,ok,lo,ly⟩;exact⟨_,rfl,q fl ys os H' Jk xt Nq (aK nf gf) (ra.mono (ai (wo H' p) fl)) ok lo⟩
end
section
variable {P:Program}{w:World}{K:Frag}{mg:Str->Option Value}{base:Heap}{f a1 a2:Addr}{fd d1 d2:FuncData}
abbrev BX:Stmt:=bX 69
abbrev Ia:List Str:=["_law_numbers","_law_line","_law_found","_law_number","_law_first"]
theorem Nr:ad Ia ["_law_numbers"] (aa BX):=aM
def tz:Sp:=λ vs H Q _=>∃(a:Addr)(ns:List Int),vs=[.ref a]/\H a=some (.lst (ns.map V.int))/\ns.length<=20/\lQ H (ns.map (rk ns)) Q
def BK (K:Frag):TS:=aH (cH (aJ (c8 λ i j=>.int (i+j)) (q8 K "list" (pE K) (af 1) (ah (af 3) aF)) (tC (.int 1))) (aW 4))
 (iB (q8 K "list" gc (af 2) (ah (aJ (c8 λ i j=>.int (i-j)) (aJ (c8 λ i j=>.int (i+j)) (aJ (rI ÿ λ i j=>.int (i*j)) (tC (.int 2)) (af 4)) (q8 K "list" (oX K) (af 1) (ah (af 3) aF))) (tC (.int 1))) aF)))
def IE (K:Frag):TS:=aH (cH (gH (jz K) (ah (af 0) aF)) (aW 1)) (aH (cH (bM aF) (aW 2)) (aH (gC (bC K (af 0)) (aW 3) (BK K)) (bN (af 2))))
theorem BG {cdv:Value}{A:Around}{outer:List Env}{s:Shared}{H:Hp}{E:XK}(ms:mg "sorted" = none):Bx (ü (aV av P w K mg base Ia "_law_ranks" (aa BX) f cdv A outer s H E).ä (au BX) (IE K)):=by
 have nd:=Nr.nd;exact cI (aX (i:=1) nd rfl (Or.inl rfl) ⟨am iW rfl ms PyProof.Rows.boot_sorted (ac (pv 0) ak)⟩) (cI (aX (i:=2) nd rfl (Or.inl rfl) ⟨cj ak⟩)
  (cI ⟨bZ PassesOwn.never rfl (aR (pv 0)) (bV (i:=3) nd rfl (Or.inl rfl)) (cw (iI (i:=4) nd rfl (Or.inl rfl) (ax bt (dF PySem.F.plainAttrs_list PySem.F.slot_list_index PySem.F.type_list_index pG (pv 1) (ac (pv 3) ak)) ay))
   (aY (aq (dF PySem.F.plainAttrs_list PySem.F.slot_list_append PySem.F.type_list_append bh (pv 2) (ac (ax fR (ax bt (ax eI ay (pv 4)) (dF PySem.F.plainAttrs_list PySem.F.slot_list_count PySem.F.type_list_count nq (pv 1) (ac (pv 3) ak))) ay) ak)))))⟩ (be ⟨cZ (pv 2)⟩)))
theorem Ee (F:Ö K "_law_ranks" "_law_ranks" BX f fd)(ms:mg "sorted" = none):Â P w K mg base av 1 f fd ["_law_numbers"] tz:=by
 refine F.ok Nr (λ vs H Q E h=>?_) (λ cdv A outer s H vs Q E hr h=>?_)
 ·obtain⟨_,_,rfl,_⟩:=h;rfl
 obtain⟨a,ns,rfl,ha,Ő,q⟩:=h;obtain⟨JK⟩:=BG ms (f:=f) (cdv:=cdv) (A:=A) (outer:=outer) (s:=s) (H:=H) (E:=E) (P:=P) (w:=w) (base:=base) (K:=K);refine⟨_,JK,?_⟩;have sz:=sizeLine_eq;refine aQ (te:=gH (jz K) (ah (af 0) aF)) (i:=1) (D:=⟨_,Q,_,_⟩) ⟨_,rfl,a,ns,rfl,Ã.of ha,by omega,λ l â hl pm pw=>?_⟩
 have x1:=Ext.new (o:=.lst (â.map V.int)) hl;have g1:ae H l (.lst (â.map V.int)) l=some (.lst (â.map V.int)):=aL;refine aQ (te:=bM aF) (i:=2) (D:=⟨_,Q,_,_⟩) ⟨by show 0<=sizeLine;decide,λ fl Ku=>?_⟩
 show aH (gC (bC K (af 0)) (aW 3) (BK K)) (bN (af 2)) _ [some (.ref a),some (.ref l),some (.ref fl),none,none] (ae (ae H l (.lst (â.map V.int))) fl (.lst []));have Ti:H fl=none:=by
  cases e:H fl with
  | none=>rfl
  | some o=>rw [x1 _ _ e] at Ku;cases Ku
 have x2:=Ext.new (o:=.lst []) Ku;have g2:ae (ae H l (.lst (â.map V.int))) fl (.lst []) fl=some (.lst []):=aL;have nl:fl≠l:=λ e=>by rw [e,g1] at Ku;cases Ku
 have Tj:=x2 _ _ g1;have ç:=x1.trans x2;generalize ae (ae H l (.lst (â.map V.int))) fl (.lst [])=H2 at x2 g2 Tj ç ⊢;refine⟨_,rfl,a,rfl,⟨_,Ã.of (ç _ _ ha)⟩,cL (xs:=ns.map V.int) (λ i σ H'=>∃ o3 o4,σ=[some (.ref a),some (.ref l),some (.ref fl),o3,o4]/\Ext H H'/\H' l=some (.lst (â.map V.int))/\H' fl=some (.lst (((ns.take i).map (rk ns)).map V.int))) ⟨_,_,rfl,ç,Tj,g2⟩ ?_ ?_ ?_⟩
 ·rintro i σ H' _ ⟨o3,o4,rfl,x',_⟩;exact Ã.of (x' _ _ ha)
 ·rintro i x σ H' ex ⟨o3,o4,rfl,x',J7,Nt⟩;rw [List.getElem?_map] at ex;obtain⟨n,en,rfl⟩:=Option.map_eq_some_iff.mp ex;have mem:n ∈ â:=pm.mem_iff.mpr (List.mem_of_getElem? en);have li:i<ns.length:=(List.getElem?_eq_some_iff.mp en).1;show BK K _ [some (.ref a),some (.ref l),some (.ref fl),some (.int n),o4] H';refine aQ (te:=aJ (c8 λ i j=>.int (i+j)) (q8 K "list" (pE K) (af 1) (ah (af 3) aF)) (tC (.int 1))) (i:=4) ?_;refine⟨_,rfl,.inl ⟨rfl,_,Ã.of J7⟩,_,rfl,l,â,n,rfl,rfl,Ã.of J7,mem,_,_,rfl,rfl,?_⟩;refine⟨_,rfl,.inl ⟨rfl,_,Ã.of Nt⟩,_,rfl,_,_,rfl,rfl,.inl ⟨by decide,by decide⟩,?_⟩
  refine⟨_,rfl,.inl ⟨rfl,_,Ã.of J7⟩,_,rfl,l,_,_,rfl,rfl,Ã.of J7,by rw [List.all_eq_true];intro z hz;obtain⟨_,_,rfl⟩:=List.mem_map.mp hz;rfl,rfl,_,_,rfl,rfl,_,_,rfl,rfl,?_⟩
  refine⟨fl,_,_,rfl,rfl,Nt,by rw [List.length_map,List.length_map,List.length_take];omega,_,_,rfl,aP _ x' Ti,by rw [ag nl.symm];exact J7,?_⟩
  rw [aL,aA en,List.map_append,List.map_append];have e1:rk ns n=2*((â.idxOf n:Nat)+1)+((â.map V.int).countP λ z=>oS z (.int n):Nat)-1:=by
   unfold rk;rw [jx pw mem,mX,pm.countP_eq,pm.countP_eq];omega
  show _=some (HO.lst (_ ++ [V.int (rk ns n)]));rw [e1]
 ·rintro σ H' ⟨o3,o4,rfl,x',J7,Nt⟩;rw [List.length_map,List.take_length] at Nt;exact⟨_,rfl,q fl H' x' Ti Nt⟩
abbrev nM:Stmt:=bX 70
abbrev AX (i:Nat):Stmt:=(au nM).getD i (.Pass ⟨0,0,0,0⟩)
abbrev xY:List Str:=["_law_word","_law_blocks","_law_outcomes_here","_law_places","_law_kind","_law_folk_here","_law_found","_law_at","_law_place"]
theorem IU:ad xY ["_law_word","_law_blocks","_law_outcomes_here"] (aa nM):=aM
abbrev GT:Scope:={ kind:=.function,names:=[(".0",.local),("_law_one",.local),("_law_outcomes_here",.free)],isGenerator:=false,isCoroutine:=false }
abbrev Hf:Scope:={ kind:=.function,names:=[(".0",.local),("_law_other",.local),("_law_stands",.globalImplicit),("_law_outcomes_here",.free),("_law_place",.free)],isGenerator:=false,isCoroutine:=false }
theorem Hg:((["_law_one"]:List Str)++(["_law_outcomes_here"]:List Str)).Nodup:=by decide +kernel
theorem FJ:((["_law_other"]:List Str)++(["_law_outcomes_here","_law_place"]:List Str)).Nodup:=by decide +kernel
def wm (K:Frag):TS:=gC (bC K (af 1)) (ib K 2 (bE (aW 4) (bE (aW 5) gI))) (iB (q8 K "list" pW (af 3) (ah (af 5) aF)))
def qL (z:Str):TT:=tB (aJ pP (af 0) (tC (.str z)))
def yG (K:Frag):TE:=aJ (jG K) (aJ (cT K) (af 1) (af 0)) (tC (.int 0))
def CY (K:Frag):TE:=gn om [] E0 (ah (aJ (cT K) (af 1) (af 2)) (ah (aJ (cT K) (af 1) (af 0)) aF))
def HY (K:Frag):TS:=j8 (af 6) (af 8) (aJ (jG K) (aJ (cT K) (af 2) (af 8)) (tC (.int 0)))
def Gj (K:Frag):TS:=j8 (af 6) (af 8) (aJ (cT K) (gn tz [] E0 (ah (eG (bC K (af 3)) 1 [2] (aW 0) (yG K)) aF)) (af 7))
def HD (K:Frag):TS:=j8 (af 6) (af 8) (gH (sy K) (ah (eG (bC K (af 3)) 1 [2,8] (aW 0) (CY K)) aF))
def Id (K:Frag):TS:=j8 (af 6) (af 8) (gn om [] E0 (ah (aJ (cT K) (af 2) (af 8)) (ah (aJ (cT K) (af 2) (aJ (cT K) (af 5) (aJ (c8 λ i j=>.int (i-j)) (aJ (c8 λ i j=>.int (i+j)) (af 7) (tC (.int 1))) (aJ (rI ÿ λ i j=>.int (i*j)) (tC (.int 2)) (aJ (rI (λ _ j=>0<j) λ i j=>.int (i%j)) (af 7) (tC (.int 2))))))) aF)))
def Ig (K:Frag):TG:=ib K 2 (bE (aW 7) (bE (aW 8) gI))
def Ar (K:Frag):TS:=gC (lV K (ah (af 3) aF)) (Ig K) (dz (qL "sum") (HY K) (dz (qL "ranks") (Gj K) (dz (qL "wins") (HD K) bS)))
def yf (K:Frag):TS:=gC (bC K (af 1)) (ib K 2 (bE (aW 4) (bE (aW 5) gI))) (gC (lV K (ah (af 5) aF)) (Ig K) (dz (qL "signs") (Id K) bS))
def Hy (K:Frag):TS:=aH (cH (bM aF) (aW 3)) (aH (wm K) (aH (cH nS (aW 6)) (aH (Ar K) (aH (yf K) (bN (af 6))))))
section
variable {cdv:Value}{A:Around}{outer:List Env}{s:Shared}{H:Hp}{E:XK}
theorem AO:bu (aV av P w K mg base xY "_law_scores" (aa nM) f cdv A outer s H E).ä GT [("_law_outcomes_here",s.heap.objs.size+1)] ["_law_one"] ["_law_outcomes_here"] [2] :=
 iw (M:=["_law_outcomes_here"]) (L:=[(".0",.local),("_law_one",.local),("_law_outcomes_here",.cell)]) rfl rfl (by decide +kernel) (by decide +kernel) (by decide +kernel) rfl rfl rfl (by decide +kernel) (by decide +kernel) rfl rfl rfl
theorem zS:bu (aV av P w K mg base xY "_law_scores" (aa nM) f cdv A outer s H E).ä Hf [("_law_place",s.heap.objs.size+2),("_law_outcomes_here",s.heap.objs.size+1)] ["_law_other"] ["_law_outcomes_here","_law_place"] [2,8] :=
 iw (M:=["_law_place","_law_outcomes_here"]) (L:=[(".0",.local),("_law_other",.local),("_law_stands",.globalImplicit),("_law_outcomes_here",.cell),("_law_place",.cell)]) rfl rfl (by decide +kernel) (by decide +kernel) (by decide +kernel) rfl rfl rfl (by decide +kernel) (by decide +kernel) rfl rfl rfl
theorem Gx:Bx (PS (aV av P w K mg base xY "_law_scores" (aa nM) f cdv A outer s H E).ä (AX 1) (wm K)):=by
 have nd:=IU.nd;exact⟨bZ PassesOwn.never rfl (aR (pv 1)) (bq rfl (dq (bV (i:=4) nd rfl (Or.inl rfl)) (dq (bV (i:=5) nd rfl (Or.inl rfl)) aU))) (aY (aq (dF PySem.F.plainAttrs_list PySem.F.slot_list_extend PySem.F.type_list_extend qT (pv 3) (ac (pv 5) ak))))⟩
theorem Hx (A1:Df P w K mg base av 1 "_law_ranks" ["_law_numbers"] tz a1 d1)(A2:Df P w K mg base av 1 "_law_stands" ["_law_one","_law_other"] om a2 d2)(me:mg "enumerate" = none)(ms:mg "sum" = none)(hr:qI 1 "_law_scores" nM A s f cdv):Bx (PS (aV av P w K mg base xY "_law_scores" (aa nM) f cdv A outer s H E).ä (AX 3) (Ar K)):=by
 have nd:=IU.nd;have hu:(A.deeper (PyProof.Rows.envOfC "_law_scores" (aa nM) s.heap.objs.size f cdv)).units+1<cLine:=by have:=hr.un;omega
 exact⟨bZ PassesOwn.never rfl (f6 rfl me (ac (pv 3) ak)) (bq rfl (dq (bV (i:=7) nd rfl (Or.inl rfl)) (dq (bV (i:=8) nd rfl (Or.inr rfl)) aU)))
  (aY (bo (ao cr (pv 0) aw (ar _)) (aY (iO hu (pv 6) (pv 8) (cy gF (cy fL (pv 2) (pv 8)) ay) rfl))
  (aY (bo (ao cr (pv 0) aw (ar _)) (aY (iO hu (pv 6) (pv 8) (cy fL (bU A1.G hr rfl A1.m A1.kp A1.b .nil aj (ac (cR (te:=yG K) (g:=aW 0) rfl AO (aR (pv 3)) (λ s H C fp=>by exact bV (i:=0) Hg rfl (.inl rfl)) (λ s H C fp=>by exact cy gF (cy fL (pv 1) (pv 0)) ay)) ak)) (pv 7)) rfl))
  (aY (bo (ao cr (pv 0) aw (ar _)) (aY (iO hu (pv 6) (pv 8) (am (gj rfl) rfl ms PyProof.Rows.boot_sum (ac (cR (te:=CY K) (g:=aW 0) rfl zS (aR (pv 3)) (λ s H C fp=>by exact bV (i:=0) FJ rfl (.inl rfl)) (λ s H C fp=>by exact bU A2.G hr rfl A2.m A2.kp A2.b .nil aj (ac (cy fL (pv 1) (pv 2)) (ac (cy fL (pv 1) (pv 0)) ak)))) ak)) rfl)) gG))))))⟩
theorem GS (A2:Df P w K mg base av 1 "_law_stands" ["_law_one","_law_other"] om a2 d2)(me:mg "enumerate" = none)(hr:qI 1 "_law_scores" nM A s f cdv):Bx (PS (aV av P w K mg base xY "_law_scores" (aa nM) f cdv A outer s H E).ä (AX 4) (yf K)):=by
 have nd:=IU.nd;have hu:(A.deeper (PyProof.Rows.envOfC "_law_scores" (aa nM) s.heap.objs.size f cdv)).units+1<cLine:=by have:=hr.un;omega
 exact⟨bZ PassesOwn.never rfl (aR (pv 1)) (bq rfl (dq (bV (i:=4) nd rfl (Or.inl rfl)) (dq (bV (i:=5) nd rfl (Or.inl rfl)) aU)))
  (aY (bZ PassesOwn.never rfl (f6 rfl me (ac (pv 5) ak)) (bq rfl (dq (bV (i:=7) nd rfl (Or.inl rfl)) (dq (bV (i:=8) nd rfl (Or.inr rfl)) aU)))
  (aY (bo (ao cr (pv 0) aw (ar _)) (aY (iO hu (pv 6) (pv 8) (bU A2.G hr rfl A2.m A2.kp A2.b .nil aj (ac (cy fL (pv 2) (pv 8)) (ac (cy fL (pv 2) (cy fL (pv 5) (ax fR (ax bt (pv 7) ay) (ax eI ay (ax dC (pv 7) ay))))) ak))) rfl)) gG))))⟩
theorem zr (A1:Df P w K mg base av 1 "_law_ranks" ["_law_numbers"] tz a1 d1)(A2:Df P w K mg base av 1 "_law_stands" ["_law_one","_law_other"] om a2 d2)(me:mg "enumerate" = none)(ms:mg "sum" = none)(hr:qI 1 "_law_scores" nM A s f cdv):Bx (ü (aV av P w K mg base xY "_law_scores" (aa nM) f cdv A outer s H E).ä (au nM) (Hy K)) :=
 cI (aX (i:=3) IU.nd rfl (Or.inl rfl) ⟨cj ak⟩) (cI Gx (cI (aX (i:=6) IU.nd rfl (Or.inl rfl) ⟨r6⟩) (cI (Hx A1 A2 me ms hr) (cI (GS A2 me hr) (be ⟨cZ (pv 6)⟩)))))
end
end
theorem pM {k:Nat}(hk:k<4)(os:List (Int × Bool)):(tw k os).length=os.length:=by
 match k,hk with
 | 0,_=>exact List.length_map _
 | 1,_=>exact List.length_map _
 | 2,_=>exact List.length_map _
 | 3,_=>exact List.length_mapIdx
section
variable {P:Program}{w:World}{K:Frag}{mg:Str->Option Value}{base:Heap}{De:bA}{u:TS}{H Hb:Hp}{a D pl d:Addr}{xs zs:List V}{os:List (Int × Bool)}{B:List Bk}{o0 o1 o2 o3 o4 o5 o6 o7 o8:Option V}{kvs:List (Key × V)}
theorem Bv (hD:H D=some (.lst zs))(ra:Á H zs (B.map gy))(Ő:B.length<=20)(lf:(B.map (·.2)).flatten.length<=20)(k:∀ pl o4 o5 H',Ext H H'->H pl=none->H' pl=some (.lst ((B.map (·.2)).flatten.map V.int))->u De [o0,some (.ref D),o2,some (.ref pl),o4,o5,o6,o7,o8] H') :
  aH (cH (bM aF) (aW 3)) (aH (wm K) u) De [o0,some (.ref D),o2,o3,o4,o5,o6,o7,o8] H:=by
 refine aQ (te:=bM aF) (i:=3) ⟨by show 0<=sizeLine;decide,λ pl ó=>?_⟩
 have x1:=Ext.new (o:=.lst []) ó;have g1:ae H pl (.lst []) pl=some (.lst []):=aL;show aH (wm K) u De [o0,some (.ref D),o2,some (.ref pl),o4,o5,o6,o7,o8] (ae H pl (.lst []));generalize ae H pl (.lst [])=H1 at x1 g1 ⊢;have sz:=sizeLine_eq;have lz:=ra.length;rw [List.length_map] at lz;refine⟨_,rfl,D,rfl,⟨zs,Ã.of (x1 _ _ hD)⟩,cL (xs:=zs) (λ i σ H'=>∃ o4 o5,σ=[o0,some (.ref D),o2,some (.ref pl),o4,o5,o6,o7,o8]/\Ext H H'/\H' pl=some (.lst (((B.take i).map (·.2)).flatten.map V.int))) ⟨_,_,rfl,x1,g1⟩ ?_ ?_ ?_⟩
 ·rintro i σ H' _ ⟨o4,o5,rfl,x',_⟩;exact Ã.of (x' _ _ hD)
 ·rintro i x σ H' ex ⟨o4,o5,rfl,x',hp⟩;obtain⟨dd,ed,rd⟩:=ra.get ex;rw [List.getElem?_map] at ed;obtain⟨bk,ebk,rfl⟩:=Option.map_eq_some_iff.mp ed;obtain⟨a,l,rfl,ha,hl⟩:=iC rd;refine⟨a,_,rfl,Ì.of (x' _ _ ha),rfl,_,_,rfl,_,_,rfl,rfl,?_⟩;have le:((B.take (i+1)).map (·.2)).flatten.length<=20:=by
   refine Nat.le_trans ?_ lf
   conv=>rhs;rw [<- List.take_append_drop (i+1) B]
   rw [List.map_append,List.flatten_append,List.length_append];omega
  rw [aA ebk,List.map_append,List.flatten_append,List.length_append] at le;simp only [List.map_cons,List.map_nil,List.flatten_cons,List.flatten_nil,List.append_nil] at le;refine⟨_,rfl,.inl ⟨rfl,_,Ã.of hp⟩,_,rfl,pl,l,_,_,rfl,rfl,hp,x' _ _ hl,by rw [List.length_map,List.length_map];omega,_,_,rfl,aP _ x' ó,?_⟩
  rw [aL,aA ebk,List.map_append,List.flatten_append,List.map_append];simp
 ·rintro σ H' ⟨o4,o5,rfl,x',hp⟩;rw [lz,List.take_length] at hp;exact k pl _ _ H' x' ó hp
theorem rj {σ:St}{H1:Hp}{v:V}{i:Int}(s6:σ[6]?=some (some (.ref d)))(s8:σ[8]?=some (some (.int i)))(hd:H1 d=some (.dK kvs))(l:kvs.length<sizeLine)(q:De.nx σ (ae H1 d (.dK (dQ kvs (.inl i) v)))) :
  (λ v H1=>af 6 σ H1 λ x H2=>af 8 σ H2 λ y H3=>∃ a H4,x=.ref a/\vq H3 a y v H4/\De.nx σ H4) v H1:=⟨_,s6,_,s8,d,_,rfl,.inl ⟨kvs,.inl i,hd,rfl,l,rfl⟩,q⟩
theorem pi {σ:St}{td ty tv:TE}(h:tv σ H λ v H1=>td σ H1 λ x H2=>ty σ H2 λ y H3=>∃ a H4,x=.ref a/\vq H3 a y v H4/\De.nx σ H4):j8 td ty tv De σ H:=h
theorem rA {σ:St}{sp:Sp}{te:TE}{Q:VK}{E:XK}(h:te σ H λ x H1=>sp [x] H1 Q E):gn sp [] E (ah te aF) σ H Q:=h
theorem i5 (oc:ė H xs os){i:Nat}(hi:i<os.length):∃ b,xs[i]?=some (.ref b)/\H b=some (.tup [.int os[i].1,.bl os[i].2]):=by
 have li:i<xs.length:=by rw [oc.1];exact hi
 obtain⟨b,e,hb⟩:=oc.2 i xs[i] os[i] (List.getElem?_eq_getElem li) (List.getElem?_eq_getElem hi);exact⟨b,by rw [List.getElem?_eq_getElem li,e],hb⟩
theorem Dr (ha:H a=some (.lst xs))(oc:ė H xs os){i:Nat}(hi:i<os.length)(hd:H d=some (.dK kvs))(l:kvs.length<sizeLine)
  (q:De.nx [o0,o1,some (.ref a),o3,o4,o5,some (.ref d),o7,some (.int (i:Nat))] (ae H d (.dK (dQ kvs (.inl (i:Nat)) (.int os[i].1))))):HY K De [o0,o1,some (.ref a),o3,o4,o5,some (.ref d),o7,some (.int (i:Nat))] H:=by
 obtain⟨b,ex,hb⟩:=i5 oc hi;exact⟨_,rfl,_,rfl,a,xs,_,_,rfl,rfl,Ã.of ha,cX ex,b,_,_,_,rfl,rfl,Ì.of hb,cX (j:=0) rfl,rj (De:=De) rfl rfl hd l q⟩
theorem DF {σ:St}{Q:VK}(s2:σ[2]?=some (some (.ref a)))(s3:σ[3]?=some (some (.ref pl)))(ha:H a=some (.lst xs))(oc:ė H xs os)(lo:os.length<=20)(hp:H pl=some (.lst ((bR 0 os.length).map V.int)))(q:lQ H (os.map (·.1)) Q):eG (bC K (af 3)) 1 [2] (aW 0) (yG K) σ H Q:=by
 have sz:=sizeLine_eq;refine⟨_,s3,pl,rfl,⟨_,Ã.of hp⟩,λ D2 Ĉ=>?_⟩;have ec:cJ [2] σ=[some (.ref a)]:=by unfold cJ;rw [List.map_cons,s2];rfl
 rw [ec];refine bQ (a:=pl) (xs:=(bR 0 os.length).map V.int) (λ i ys H'=>Ext H H'/\ys=((os.take i).map (·.1)).map V.int) (by rw [List.length_map,bj];omega) ⟨Ext.new Ĉ,rfl⟩ (λ i ys H' pv=>Ã.of (pv.1 _ _ hp)) ?_ ?_
 ·rintro i x ys H' ex ly Ô ⟨x',ey⟩ Ĺ á R k;obtain⟨q0,rfl⟩:∃ o0,Ĺ=[o0]:=by
   match Ĺ,á with
   | [o0],_=>exact⟨o0,rfl⟩
  have li:i<os.length:=by have:=(List.getElem?_eq_some_iff.mp ex).1;rw [List.length_map,bj] at this;exact this
  rw [List.getElem?_map,f7 li,Int.zero_add] at ex;cases ex;obtain⟨b,Qs,hb⟩:=i5 oc li;refine⟨⟨[_],rfl,rfl⟩,_,rfl,_,rfl,a,xs,_,_,rfl,rfl,Ã.of (x' _ _ ha),cX Qs,b,_,_,_,rfl,rfl,Ì.of (x' _ _ hb),cX (j:=0) rfl,?_⟩;refine k _ H' Ô ⟨aP _ x' Ĉ,?_⟩;rw [aA (List.getElem?_eq_getElem li),List.map_append,List.map_append,<- ey];rfl
 ·rintro ys H' ly Ô ⟨x',ey⟩;rw [List.length_map,bj,List.take_length] at ey;rw [ey] at Ô;exact q D2 H' x' Ĉ Ô
theorem BZ (ha:H a=some (.lst xs))(oc:ė H xs os)(lo:os.length<=20)(hp:H pl=some (.lst ((bR 0 os.length).map V.int))){i:Nat}(hi:i<os.length)(hd:H d=some (.dK kvs))(l:kvs.length<sizeLine)
  (q:∀ H',Ext H H'->De.nx [o0,o1,some (.ref a),some (.ref pl),o4,o5,some (.ref d),some (.int (i:Nat)),some (.int (i:Nat))] (ae H' d (.dK (dQ kvs (.inl (i:Nat)) (.int (rk (os.map (·.1)) os[i].1)))))):Gj K De [o0,o1,some (.ref a),some (.ref pl),o4,o5,some (.ref d),some (.int (i:Nat)),some (.int (i:Nat))] H:=by
 unfold Gj;refine pi ?_;refine jp ?_;refine rA ?_;refine DF (σ:=[o0,o1,some (.ref a),some (.ref pl),o4,o5,some (.ref d),some (.int (i:Nat)),some (.int (i:Nat))]) rfl rfl ha oc lo hp ?_;refine λ l0 H1 x1 n1 g1=>⟨l0,os.map (·.1),rfl,g1,by rw [List.length_map];exact lo,λ l2 H2 x2 n2 g2=>?_⟩
 have Qt:uf (((os.map (·.1)).map (rk (os.map (·.1)))).map V.int) ((i:Nat):Int)=some (.int (rk (os.map (·.1)) os[i].1)):=cX (by
  rw [List.getElem?_map,List.getElem?_map,List.getElem?_map,List.getElem?_eq_getElem hi];rfl)
 generalize ((os.map (·.1)).map (rk (os.map (·.1)))).map V.int=rs at g2 Qt;generalize rk (os.map (·.1)) os[i].1=rv at q Qt;have hd2:=(x1.trans x2) _ _ hd;have q2:=q H2 (x1.trans x2);exact⟨_,rfl,l2,rs,(i:Nat),.int rv,rfl,rfl,Ã.of g2,Qt,_,rfl,_,rfl,d,_,rfl,.inl ⟨kvs,.inl (i:Nat),hd2,rfl,l,rfl⟩,q2⟩
theorem B4 (ha:H a=some (.lst xs))(oc:ė H xs os)(lo:os.length<=20)(hp:H pl=some (.lst ((bR 0 os.length).map V.int))){i:Nat}(hi:i<os.length)(hd:H d=some (.dK kvs))(l:kvs.length<sizeLine)
  (q:∀ H',Ext H H'->De.nx [o0,o1,some (.ref a),some (.ref pl),o4,o5,some (.ref d),o7,some (.int (i:Nat))] (ae H' d (.dK (dQ kvs (.inl (i:Nat)) (.int (os.map λ p=>nO os[i] p).sum))))):HD K De [o0,o1,some (.ref a),some (.ref pl),o4,o5,some (.ref d),o7,some (.int (i:Nat))] H:=by
 have sz:=sizeLine_eq;refine⟨_,rfl,pl,rfl,⟨_,Ã.of hp⟩,λ D2 Ĉ=>?_⟩;refine bQ (a:=pl) (xs:=(bR 0 os.length).map V.int) (cap:=[some (.ref a),some (.int (i:Nat))]) (λ j ys H'=>Ext H H'/\ys=((os.take j).map λ p=>nO os[i] p).map V.int) (by rw [List.length_map,bj];omega) ⟨Ext.new Ĉ,rfl⟩ (λ i ys H' pv=>Ã.of (pv.1 _ _ hp)) ?_ ?_
 ·rintro j x ys H' ex ly Ô ⟨x',ey⟩ Ĺ á R k;obtain⟨q0,rfl⟩:∃ o0,Ĺ=[o0]:=by
   match Ĺ,á with
   | [o0],_=>exact⟨o0,rfl⟩
  have lj:j<os.length:=by have:=(List.getElem?_eq_some_iff.mp ex).1;rw [List.length_map,bj] at this;exact this
  rw [List.getElem?_map,f7 lj,Int.zero_add] at ex;cases ex;obtain⟨b,Qs,hb⟩:=i5 oc hi;obtain⟨b2,Qu,ĺ⟩:=i5 oc lj;refine⟨⟨[_],rfl,rfl⟩,_,rfl,_,rfl,a,xs,_,_,rfl,rfl,Ã.of (x' _ _ ha),cX Qs,_,rfl,_,rfl,a,xs,_,_,rfl,rfl,Ã.of (x' _ _ ha),cX Qu,_,_,os[i],os[j],rfl,⟨b,rfl,x' _ _ hb⟩,⟨b2,rfl,x' _ _ ĺ⟩,?_⟩;refine k _ H' Ô ⟨aP _ x' Ĉ,?_⟩;rw [aA (List.getElem?_eq_getElem lj),List.map_append,List.map_append,<- ey];rfl
 ·rintro ys H' ly Ô ⟨x',ey⟩;rw [List.length_map,bj,List.take_length] at ey;rw [ey] at Ô;exact⟨D2,_,rfl,Ã.of Ô,rj (De:=De) rfl rfl (x' _ _ hd) l (q H' x')⟩
def ì (k:Nat)(os:List (Int × Bool))(n:Nat)(kvs:List (Key × V)):Prop:=kvs.length<=n/\∀ j:Nat,j<n->dR kvs (.inl (j:Int))=some (.int ((tw k os).getD j 0))
theorem ì.put {k n:Nat}{v:Int}(h:ì k os n kvs)(e:(tw k os)[n]?=some v):ì k os (n+1) (dQ kvs (.inl ((n:Nat):Int)) (.int v)):=by
 refine⟨Nat.le_trans (dk kvs _ _) (Nat.succ_le_succ h.1),λ j hj=>?_⟩;rw [mv];by_cases ej:j=n
 ·subst ej;rw [if_pos rfl,List.getD_eq_getElem?_getD,e];rfl
 ·rw [if_neg (λ z=>ej (by have:=Key.inl.inj z;omega))]
  exact h.2 j (by omega)
theorem lX {k:Nat}{z:Str}{Q:Bool->Hp->Prop}{σ:St}(s0:σ[0]?=some (some (.str (aE k))))(q:Q (decide (V.str (aE k)=V.str z)) H):qL z σ H Q:=⟨_,s0,rfl,_,rfl,q⟩
theorem iS:∀ k j:Nat,k<4->j<4->decide (V.str (aE k)=V.str (aE j))=decide (k=j)
 | 0,0,_,_=>decide_eq_true rfl
 | 1,1,_,_=>decide_eq_true rfl
 | 2,2,_,_=>decide_eq_true rfl
 | 3,3,_,_=>decide_eq_true rfl
 | 0,1,_,_=>decide_eq_false λ z=>absurd (V.str.inj z) (by decide +kernel:(("sum" : String):Str)≠(("ranks" : String):Str))
 | 0,2,_,_=>decide_eq_false λ z=>absurd (V.str.inj z) (by decide +kernel:(("sum" : String):Str)≠(("wins" : String):Str))
 | 0,3,_,_=>decide_eq_false λ z=>absurd (V.str.inj z) (by decide +kernel:(("sum" : String):Str)≠(("signs" : String):Str))
 | 1,0,_,_=>decide_eq_false λ z=>absurd (V.str.inj z) (by decide +kernel:(("ranks" : String):Str)≠(("sum" : String):Str))
 | 1,2,_,_=>decide_eq_false λ z=>absurd (V.str.inj z) (by decide +kernel:(("ranks" : String):Str)≠(("wins" : String):Str))
 | 1,3,_,_=>decide_eq_false λ z=>absurd (V.str.inj z) (by decide +kernel:(("ranks" : String):Str)≠(("signs" : String):Str))
 | 2,0,_,_=>decide_eq_false λ z=>absurd (V.str.inj z) (by decide +kernel:(("wins" : String):Str)≠(("sum" : String):Str))
 | 2,1,_,_=>decide_eq_false λ z=>absurd (V.str.inj z) (by decide +kernel:(("wins" : String):Str)≠(("ranks" : String):Str))
 | 2,3,_,_=>decide_eq_false λ z=>absurd (V.str.inj z) (by decide +kernel:(("wins" : String):Str)≠(("signs" : String):Str))
 | 3,0,_,_=>decide_eq_false λ z=>absurd (V.str.inj z) (by decide +kernel:(("signs" : String):Str)≠(("sum" : String):Str))
 | 3,1,_,_=>decide_eq_false λ z=>absurd (V.str.inj z) (by decide +kernel:(("signs" : String):Str)≠(("ranks" : String):Str))
 | 3,2,_,_=>decide_eq_false λ z=>absurd (V.str.inj z) (by decide +kernel:(("signs" : String):Str)≠(("wins" : String):Str))
theorem Bs {k:Nat}(hk:k<4)(xb:Ext Hb H)(nd:Hb d=none)(ha:Hb a=some (.lst xs))(oc:ė Hb xs os)(lo:os.length<=20)(hp:Hb pl=some (.lst ((bR 0 os.length).map V.int)))(hd:H d=some (.dK []))
  (q:∀ kvs o7 o8 H',Ext Hb H'->H' d=some (.dK kvs)->(k=3->kvs=[])->(k≠3->ì k os os.length kvs)->u De [some (.str (aE k)),o1,some (.ref a),some (.ref pl),o4,o5,some (.ref d),o7,o8] H') :
  aH (Ar K) u De [some (.str (aE k)),o1,some (.ref a),some (.ref pl),o4,o5,some (.ref d),o7,o8] H:=by
 have sz:=sizeLine_eq;refine⟨_,rfl,pl,rfl,⟨_,Ã.of (xb _ _ hp)⟩,fW (xs:=(bR 0 os.length).map V.int) (λ i σ H'=>∃ kvs o7 o8,σ=[some (.str (aE k)),o1,some (.ref a),some (.ref pl),o4,o5,some (.ref d),o7,o8]/\Ext Hb H'/\H' d=some (.dK kvs)/\(k=3->kvs=[])/\(k≠3->ì k os i kvs)) ⟨[],_,_,rfl,xb,hd,λ _=>rfl,λ _=>⟨Nat.le_refl _,λ j h=>absurd h (Nat.not_lt_zero _)⟩⟩ ?_ ?_ ?_⟩
 ·rintro i σ H' _ ⟨kvs,o7,o8,rfl,x',_⟩;exact Ã.of (x' _ _ hp)
 ·rintro i x σ H' t ex ⟨kvs,o7,o8,rfl,x',Jm,k3,kn⟩ ht;have li:i<os.length:=by have:=(List.getElem?_eq_some_iff.mp ex).1;rw [List.length_map,bj] at this;exact this
  rw [List.getElem?_map,f7 li,Int.zero_add] at ex;cases ex;have xt:=Ext.new (o:=.tup [.int (i:Nat),.int (i:Nat)]) ht;have gt:ae H' t (.tup [.int (i:Nat),.int (i:Nat)]) t=some (.tup [.int (i:Nat),.int (i:Nat)]):=aL;generalize ae H' t (.tup [.int (i:Nat),.int (i:Nat)])=H2 at xt gt ⊢;refine⟨t,_,rfl,Ì.of gt,rfl,_,_,rfl,_,_,rfl,rfl,?_⟩;have x2:=x'.trans xt;have hd2:=xt _ _ Jm;refine lX (z:=aE 0) rfl ?_;rw [iS k 0 hk (by decide)]
  by_cases e0:k=0
  ·subst e0;have g:=kn (by decide)
   have gl:=g.1;refine cq (Dr (x2 _ _ ha) (oc.ext x2) li hd2 (by omega) ⟨_,_,_,rfl,aP _ x2 nd,aL,(λ z=>by cases z),λ _=>g.put ?_⟩)
   show(os.map (·.1))[i]?=_;rw [List.getElem?_map,List.getElem?_eq_getElem li];rfl
  rw [decide_eq_false e0];refine bY (lX (z:=aE 1) rfl ?_);rw [iS k 1 hk (by decide)]
  by_cases e1:k=1
  ·subst e1;have g:=kn (by decide)
   have gl:=g.1;refine cq (BZ (x2 _ _ ha) (oc.ext x2) lo (x2 _ _ hp) li hd2 (by omega) λ H3 x3=>⟨_,_,_,rfl,aP _ (x2.trans x3) nd,aL,(λ z=>by cases z),λ _=>g.put ?_⟩)
   show(os.map λ o=>rk (os.map (·.1)) o.1)[i]?=_;rw [List.getElem?_map,List.getElem?_eq_getElem li];rfl
  rw [decide_eq_false e1];refine bY (lX (z:=aE 2) rfl ?_);rw [iS k 2 hk (by decide)]
  by_cases e2:k=2
  ·subst e2;have g:=kn (by decide)
   have gl:=g.1;refine cq (B4 (x2 _ _ ha) (oc.ext x2) lo (x2 _ _ hp) li hd2 (by omega) λ H3 x3=>⟨_,_,_,rfl,aP _ (x2.trans x3) nd,aL,(λ z=>by cases z),λ _=>g.put ?_⟩)
   show(lK os)[i]?=_;unfold lK;rw [List.getElem?_map,List.getElem?_eq_getElem li];rfl
  rw [decide_eq_false e2];have e3:k=3:=by omega
  refine bY ⟨kvs,_,_,rfl,x2,hd2,k3,λ z=>absurd e3 z⟩
 ·rintro σ H' ⟨kvs,o7,o8,rfl,x',Jm,k3,kn⟩;rw [List.length_map,bj] at kn;exact q kvs _ _ H' x' Jm k3 kn
theorem jl:∀(ns:List Int)(s:Int)(i:Nat){n:Int},ns[i]?=some n->(bF s ns)[i]?=some (bR (s+(ns.take i).sum) n.toNat)
 | [],_,_,_,h=>by simp at h
 | m::ns,s,0,n,h=>by cases h;simp [bF]
 | m::ns,s,i+1,n,h=>by
  show(bF (s+m) ns)[i]?=_;rw [jl ns (s+m) i (by simpa using h),List.take_succ_cons,List.sum_cons]
  congr 2
  omega
theorem mw:∀{ns:List Int},(∀ n∈ns,1<=n/\n%2=0)->ns.sum%2=0/\0<=ns.sum
 | [],_=>⟨rfl,Int.le_refl _⟩
 | n::ns,h=>by
  have h1:=h n (List.mem_cons_self ..);have h2:=mw λ x hx=>h x (List.mem_cons_of_mem _ hx);rw [List.sum_cons];omega
theorem rK {s j:Nat}(h:s%2=0):eL (s+j)=s+eL j:=by
 unfold eL;by_cases e:j%2=0
 ·rw [if_pos e,if_pos (by omega)];omega
 ·rw [if_neg e,if_neg (by omega)];omega
theorem t6 (j:Nat):((j:Int)+1-2*((j:Int)%2))=(eL j:Nat):=by
 unfold eL;by_cases e:j%2=0
 ·rw [if_pos e];omega
 ·rw [if_neg e];omega
end
def Fx (B:List Bk):Prop:=∃ ns,(∀ n∈ns,1<=n/\n%2=0)/\B.map (·.2)=bF 0 ns
theorem ix:∀(ns:List Int)(i:Nat),(∀ n∈ns,1<=n)->(ns.take i).sum<=ns.sum
 | [],i,_=>by simp
 | n::ns,0,h=>by
  have:=bK (ns:=n::ns) λ x hx=>by have:=h x hx;omega
  simpa using this
 | n::ns,i+1,h=>by
  have:=ix ns i λ x hx=>h x (List.mem_cons_of_mem _ hx);rw [List.take_succ_cons,List.sum_cons,List.sum_cons];omega
theorem kB:∀(ns:List Int)(s:Int)(i:Nat),(bF s ns).take i=bF s (ns.take i)
 | [],s,i=>by simp [bF]
 | n::ns,s,0=>rfl
 | n::ns,s,i+1=>by
  show bR s n.toNat::(bF (s+n) ns).take i=bR s n.toNat::bF (s+n) (ns.take i);rw [kB ns (s+n) i]
section
variable {P:Program}{w:World}{K:Frag}{mg:Str->Option Value}{base:Heap}{De:bA}{u:TS}{H Hb:Hp}{a D pl d:Addr}{xs zs:List V}{os:List (Int × Bool)}{B:List Bk}{o0 o1 o2 o3 o4 o5 o6 o7 o8:Option V}{kvs:List (Key × V)}
theorem DO {l:Addr}{s n j:Nat}(ha:H a=some (.lst xs))(oc:ė H xs os)(hl:H l=some (.lst ((bR (s:Nat) n).map V.int)))(hj:j<n)(en:n%2=0)(hs:s+n<=os.length)(es:s%2=0)(hd:H d=some (.dK kvs))(lk:kvs.length<sizeLine)
  (q:De.nx [o0,o1,some (.ref a),o3,o4,some (.ref l),some (.ref d),some (.int (j:Nat)),some (.int ((s+j:Nat)))] (ae H d (.dK (dQ kvs (.inl ((s+j:Nat))) (.int ((iu os).getD (s+j) 0)))))):Id K De [o0,o1,some (.ref a),o3,o4,some (.ref l),some (.ref d),some (.int (j:Nat)),some (.int ((s+j:Nat)))] H:=by
 have hm:=pL hj en;obtain⟨b,ex,hb⟩:=i5 oc (show s+j<os.length by omega)
 obtain⟨b2,LJ,ĺ⟩:=i5 oc (show s+eL j<os.length by omega)
 have ev:(iu os).getD (s+j) 0=nO os[s+j] os[s+eL j]:=by
  unfold iu;rw [List.getD_eq_getElem?_getD,List.getElem?_mapIdx,List.getElem?_eq_getElem (show s+j<os.length by omega)]
  show nO os[s+j] (os.getD (eL (s+j)) (0,false))=_;rw [rK es,List.getD_eq_getElem?_getD,List.getElem?_eq_getElem (show s+eL j<os.length by omega)]
  rfl
 rw [ev] at q;have at2:uf ((bR (s:Nat) n).map V.int) ((j:Int)+1-2*((j:Int)%2))=some (.int ((s+eL j:Nat))):=by
  rw [t6];refine cX ?_;rw [List.getElem?_map,f7 hm];rfl
 generalize (bR (s:Nat) n).map V.int=ls at hl at2;generalize os[s+j]=oa at q hb;generalize os[s+eL j]=ob at q ĺ;refine pi ?_;refine⟨_,rfl,_,rfl,a,xs,_,_,rfl,rfl,Ã.of ha,cX ex,_,rfl,_,rfl,_,rfl,_,_,rfl,rfl,_,rfl,_,_,rfl,rfl,(by show(0:Int)<2;decide),_,_,rfl,rfl,.inl ⟨by decide,by decide⟩,_,_,rfl,rfl,l,ls,_,_,rfl,rfl,Ã.of hl,at2,a,xs,_,_,rfl,rfl,Ã.of ha,cX LJ,_,_,oa,ob,rfl,⟨b,rfl,hb⟩,⟨b2,rfl,ĺ⟩,?_⟩
 exact⟨_,rfl,_,rfl,d,_,rfl,.inl ⟨kvs,.inl ((s+j:Nat)),hd,rfl,lk,rfl⟩,q⟩
theorem xV {k:Nat}(hk:k<4)(xb:Ext Hb H)(nd:Hb d=none)(hD:Hb D=some (.lst zs))(ra:Á Hb zs (B.map gy))(lB:∀ b∈B,b.2.length<=20)(ha:Hb a=some (.lst xs))(oc:ė Hb xs os)(lo:os.length<=20)(fl:(B.map (·.2)).flatten=bR 0 os.length)(ev:k=3->Fx B)(hd:H d=some (.dK kvs))(k3:k=3->kvs=[])(kn:k≠3->ì k os os.length kvs)
  (q:∀ kvs o4 o5 o7 o8 H',Ext Hb H'->H' d=some (.dK kvs)->ì k os os.length kvs->u De [some (.str (aE k)),some (.ref D),some (.ref a),o3,o4,o5,some (.ref d),o7,o8] H') :
  aH (yf K) u De [some (.str (aE k)),some (.ref D),some (.ref a),o3,o4,o5,some (.ref d),o7,o8] H:=by
 have sz:=sizeLine_eq;have lz:=ra.length;rw [List.length_map] at lz;refine⟨_,rfl,D,rfl,⟨_,Ã.of (xb _ _ hD)⟩,cL (xs:=zs) (λ i σ H'=>∃ kvs o4 o5 o7 o8,σ=[some (.str (aE k)),some (.ref D),some (.ref a),o3,o4,o5,some (.ref d),o7,o8]/\Ext Hb H'/\H' d=some (.dK kvs)/\(k=3->ì k os (((B.take i).map (·.2)).flatten.length) kvs)/\(k≠3->ì k os os.length kvs)) ⟨kvs,_,_,_,_,rfl,xb,hd,(λ z=>by rw [k3 z];exact⟨Nat.le_refl _,λ j h=>absurd h (Nat.not_lt_zero _)⟩),kn⟩ ?_ ?_ ?_⟩
 ·rintro i σ H' _ ⟨kvs,o4,o5,o7,o8,rfl,x',_⟩;exact Ã.of (x' _ _ hD)
 ·rintro i x σ H' ex ⟨kvs,o4,o5,o7,o8,rfl,x',Jm,k3,kn⟩;obtain⟨dd,ed,rd⟩:=ra.get ex;rw [List.getElem?_map] at ed;obtain⟨bk,ebk,rfl⟩:=Option.map_eq_some_iff.mp ed;obtain⟨b,l,rfl,hb,hl⟩:=iC rd;have lbk:=lB bk (List.mem_of_getElem? ebk);refine⟨b,_,rfl,Ì.of (x' _ _ hb),rfl,_,_,rfl,_,_,rfl,rfl,?_⟩;have L4:((B.take (i+1)).map (·.2)).flatten.length=((B.take i).map (·.2)).flatten.length+bk.2.length:=by
   rw [aA ebk,List.map_append,List.flatten_append,List.length_append];simp
  refine⟨_,rfl,l,rfl,⟨_,Ã.of (x' _ _ hl)⟩,fW (xs:=bk.2.map V.int) (λ j σ H'=>∃ kvs o7 o8,σ=[some (.str (aE k)),some (.ref D),some (.ref a),o3,some (.str bk.1),some (.ref l),some (.ref d),o7,o8]/\Ext Hb H'/\H' d=some (.dK kvs)/\(k=3->ì k os (((B.take i).map (·.2)).flatten.length+j) kvs)/\(k≠3->ì k os os.length kvs)) ⟨kvs,_,_,rfl,x',Jm,k3,kn⟩ ?_ ?_ ?_⟩
  ·rintro j σ H2 _ ⟨kvs,o7,o8,rfl,x2,_⟩;exact Ã.of (x2 _ _ hl)
  ·rintro j y σ H2 t ey ⟨kvs,o7,o8,rfl,x2,hd2,k3,kn⟩ ht;have lj:j<bk.2.length:=by have:=(List.getElem?_eq_some_iff.mp ey).1;rw [List.length_map] at this;exact this
   have xt:=Ext.new (o:=.tup [.int (j:Nat),y]) ht;have gt:ae H2 t (.tup [.int (j:Nat),y]) t=some (.tup [.int (j:Nat),y]):=aL;generalize ae H2 t (.tup [.int (j:Nat),y])=H3 at xt gt ⊢;refine⟨t,_,rfl,Ì.of gt,rfl,_,_,rfl,_,_,rfl,rfl,?_⟩;have x3:=x2.trans xt;have Tn:=xt _ _ hd2;refine lX (z:=aE 3) rfl ?_;rw [iS k 3 hk (by decide)]
   by_cases e3:k=3
   ·subst e3;obtain⟨ns,Mh,OJ⟩:=ev rfl;have g:=k3 rfl;have li:i<ns.length:=by
     have:=congrArg List.length OJ;rw [List.length_map,dL] at this;have:=(List.getElem?_eq_some_iff.mp ebk).1;omega
    have h1:∀ n∈ns,1<=n:=λ n hn=>(Mh n hn).1;have Kv:bk.2=bR ((ns.take i).sum) (ns[i]).toNat:=by
     have z:=jl ns 0 i (List.getElem?_eq_getElem li);rw [<- OJ,List.getElem?_map,ebk,Int.zero_add] at z;exact Option.some.inj z
    obtain⟨se,s0⟩:=mw (ns:=ns.take i) λ n hn=>Mh n (List.mem_of_mem_take hn);obtain⟨s,es⟩:∃ s:Nat,(ns.take i).sum=(s:Int):=⟨_,(Int.toNat_of_nonneg s0).symm⟩;have hi:=Mh ns[i] (List.getElem_mem li);obtain⟨n,To⟩:∃ n:Nat,ns[i]=(n:Int):=⟨_,(Int.toNat_of_nonneg (show 0<=ns[i] by omega)).symm⟩
    rw [es,To,Int.toNat_natCast] at Kv;have eo:((B.take i).map (·.2)).flatten.length=s:=by
     have z:(B.take i).map (·.2)=bF 0 (ns.take i):=by
      rw [List.map_take,OJ];exact kB ns 0 i
     rw [z,f9 _ 0 (λ n hn=>h1 n (List.mem_of_mem_take hn)),bj,es,Int.toNat_natCast]
    have tot:ns.sum.toNat=os.length:=by
     have z:=congrArg List.length fl;rw [OJ,f9 ns 0 h1,bj,bj] at z;exact z
    have le:=ix ns (i+1) h1;rw [List.take_succ_eq_append_getElem li,List.sum_append,es,To] at le;simp only [List.sum_cons,List.sum_nil] at le;rw [eo] at g;rw [Kv,bj] at lj;rw [Kv,List.getElem?_map,f7 lj] at ey;cases ey;rw [Kv] at hl;have gl:=g.1;have Wm:s+n<=os.length:=by omega
    have key:=DO (K:=K) (De:={ De with nx:=λ σ H'=>∃ kvs o7 o8,σ=[some (.str (aE 3)),some (.ref D),some (.ref a),o3,some (.str bk.1),some (.ref l),some (.ref d),o7,o8]/\Ext Hb H'/\H' d=some (.dK kvs)/\((3:Nat)=3->ì 3 os (((B.take i).map (·.2)).flatten.length+(j+1)) kvs)/\((3:Nat)≠3->ì 3 os os.length kvs) })
     (o0:=some (.str (aE 3))) (o1:=some (.ref D)) (o3:=o3) (o4:=some (.str bk.1)) (x3 _ _ ha) (oc.ext x3) (x3 _ _ hl) lj (by omega) Wm (by omega) Tn (by omega)
     ⟨_,_,_,rfl,aP _ x3 nd,aL,λ _=>(by
      rw [eo,<- Nat.add_assoc];refine g.put ?_;have Wn:s+j<(iu os).length:=by unfold iu;rw [List.length_mapIdx];omega
      show(iu os)[s+j]?=_;rw [List.getD_eq_getElem?_getD,List.getElem?_eq_getElem Wn];rfl),λ z=>absurd rfl z⟩
    exact cq key
   ·rw [decide_eq_false e3];refine bY ⟨kvs,_,_,rfl,x3,Tn,(λ z=>absurd z e3),kn⟩
  ·rintro σ H2 ⟨kvs,o7,o8,rfl,x2,hd2,k3,kn⟩;refine⟨kvs,_,_,_,_,rfl,x2,hd2,λ z=>?_,kn⟩;have:=k3 z;rw [List.length_map] at this;rw [L4];exact this
 ·rintro σ H' ⟨kvs,o4,o5,o7,o8,rfl,x',Jm,k3,kn⟩;refine q kvs _ _ _ _ H' x' Jm ?_;by_cases e3:k=3
  ·have g:=k3 e3;rw [lz,List.take_length,fl,bj] at g;exact g
  ·exact kn e3
def tJ:Sp:=λ vs H Q _=>∃(k:Nat)(D:Addr)(zs:List V)(B:List Bk)(a:Addr)(xs:List V)(os:List (Int × Bool)),k<4/\vs=[.str (aE k),.ref D,.ref a]/\H D=some (.lst zs)/\Á H zs (B.map gy)/\B.length<=20/\(∀ b∈B,b.2.length<=20)/\(B.map (·.2)).flatten=bR 0 os.length/\H a=some (.lst xs)/\ė H xs os/\os.length<=20/\(k=3->Fx B) /\
 ∀ d kvs H',Ext H H'->H d=none->H' d=some (.dK kvs)->ì k os os.length kvs->Q (.ref d) H'
theorem Da {f a1 a2:Addr}{fd d1 d2:FuncData}(F:Ö K "_law_scores" "_law_scores" nM f fd)(A1:Df P w K mg base av 1 "_law_ranks" ["_law_numbers"] tz a1 d1)(A2:Df P w K mg base av 1 "_law_stands" ["_law_one","_law_other"] om a2 d2)(me:mg "enumerate" = none)(ms:mg "sum" = none):Â P w K mg base av 2 f fd ["_law_word","_law_blocks","_law_outcomes_here"] tJ:=by
 refine F.ok IU (λ vs H Q E h=>?_) (λ cdv A outer s H vs Q E hr h=>?_)
 ·obtain⟨_,_,_,_,_,_,_,_,rfl,_⟩:=h;rfl
 obtain⟨k,D,zs,B,a,xs,os,hk,rfl,hD,ra,Ő,lB,fl,ha,oc,lo,ev,q⟩:=h;refine gK (zr A1 A2 me ms hr) ⟨?_⟩;refine Bv hD ra Ő (by rw [fl,bj];exact lo) λ pl o4 o5 H1 x1 n1 g1=>?_
 rw [fl] at g1;refine aQ (te:=nS) (i:=6) λ d hd=>?_;have x2:=Ext.new (o:=.dK []) hd;have g2:ae H1 d (.dK []) d=some (.dK []):=aL;have hb:=x1;refine Bs (Hb:=H1) hk x2 hd (x1 _ _ ha) (oc.ext x1) lo g1 g2 λ kvs o7 o8 H3 x3 g3 k3 kn=>?_;refine xV (Hb:=H1) hk x3 hd (x1 _ _ hD) (ra.mono x1) lB (x1 _ _ ha) (oc.ext x1) lo fl ev g3 k3 kn λ kvs o4 o5 o7 o8 H4 x4 g4 good=>?_;refine⟨_,rfl,q d kvs H4 (x1.trans x4) ?_ g4 good⟩;cases e:H d with
 | none=>rfl
 | some o=>rw [x1 _ _ e] at hd;cases hd
end
def oo (k:Nat)(B:List Bk)(os:List (Int × Bool)):List Bool:=if k=3 then B.map kL else if k=2 then [] else os.map (·.2)
def sK (k:Nat):Str:=if k=3 then "pairs" else "sure"
section
variable {P:Program}{w:World}{K:Frag}{mg:Str->Option Value}{base:Heap}{f:Addr}{fd:FuncData}
abbrev wI:Stmt:=bX 71
abbrev Dd (i:Nat):Stmt:=(au wI).getD i (.Pass ⟨0,0,0,0⟩)
abbrev FB:List Str:=["_law_word","_law_blocks","_law_outcomes_here","_law_number","_law_kind","_law_folk_here","_law_place"]
theorem L5:ad FB ["_law_word","_law_blocks","_law_outcomes_here"] (aa wI):=aM
def GB (K:Frag):TT:=qX (qL "signs") (xh (tB (aJ Fw (af 4) (tC (.str "pairs")))) (tB (aJ pP (aJ (rI (λ _ j=>0<j) λ i j=>.int (i%j)) (nB K 5) (tC (.int 2))) (tC (.int 1)))))
def xW (K:Frag):TS:=gC (lV K (ah (af 1) aF)) (ib K 2 (bE (aW 3) (bE (ib K 2 (bE (aW 4) (bE (aW 5) gI))) gI))) (dz (GB K) (bN (dw (ah (tC (.str "pairs")) (ah (af 3) aF)))) bS)
def FY (K:Frag):TT:=qX (tB (aJ (HT K false) (af 0) (dw (ah (tC (.str "sum")) (ah (tC (.str "ranks")) aF))))) (qW (tB (aJ (jG K) (aJ (cT K) (af 2) (af 6)) (tC (.int 1)))))
def wU (K:Frag):TS:=dz (FY K) (bN (dw (ah (tC (.str "sure")) (ah (af 6) aF)))) bS
def AC (K:Frag):TS:=gC (bC K (af 1)) (ib K 2 (bE (aW 4) (bE (aW 5) gI))) (gC (bC K (af 5)) (aW 6) (wU K))
def IH (K:Frag):TS:=aH (xW K) (aH (AC K) (bN (tC .Æ)))
section
variable {cdv:Value}{A:Around}{outer:List Env}{s:Shared}{H:Hp}{E:XK}
theorem GJ (me:mg "enumerate" = none)(mn:mg "len" = none):Bx (PS (aV av P w K mg base FB "_law_refused_by" (aa wI) f cdv A outer s H E).ä (Dd 0) (xW K)):=by
 have nd:=L5.nd;exact⟨bZ PassesOwn.never rfl (f6 rfl me (ac (pv 1) ak)) (bq rfl (dq (bV (i:=3) nd rfl (Or.inl rfl)) (dq (bq rfl (dq (bV (i:=4) nd rfl (Or.inl rfl)) (dq (bV (i:=5) nd rfl (Or.inl rfl)) aU))) aU)))
  (aY (bo (PW.pt (im (ao cr (pv 0) aw (ar _)) (gh (PW.pt (fD (ao jr (pv 4) aw (ar _)) (fc (ao cr (ax dC (am aG rfl mn PySem.boot_len (ac (pv 5) ak)) ay) ay (ar _)))))))) (aY (cZ (aI (ac aw (ac (pv 3) ak))))) gG))⟩
theorem Gh:Bx (PS (aV av P w K mg base FB "_law_refused_by" (aa wI) f cdv A outer s H E).ä (Dd 1) (AC K)):=by
 have nd:=L5.nd;exact⟨bZ PassesOwn.never rfl (aR (pv 1)) (bq rfl (dq (bV (i:=4) nd rfl (Or.inl rfl)) (dq (bV (i:=5) nd rfl (Or.inl rfl)) aU)))
  (aY (bZ PassesOwn.never rfl (aR (pv 5)) (bV (i:=6) nd rfl (Or.inl rfl)) (aY (bo (PW.pt (im (ao qF (pv 0) (aI (ac aw (ac aw ak))) rfl) (gh (cu (bI (cy gF (cy fL (pv 2) (pv 6)) ay)))))) (aY (cZ (aI (ac aw (ac (pv 6) ak))))) gG))))⟩
theorem zi (me:mg "enumerate" = none)(mn:mg "len" = none):Bx (ü (aV av P w K mg base FB "_law_refused_by" (aa wI) f cdv A outer s H E).ä (au wI) (IH K)) :=
 cI (GJ me mn) (cI Gh (be ⟨cZ gz⟩))
variable {De:bA}{u:TS}{Hb:Hp}{a D:Addr}{xs zs:List V}{os:List (Int × Bool)}{B:List Bk}{k:Nat}{o3 o4 o5 o6:Option V}
theorem xC {b:Bk}:kL b = !((!decide (V.str b.1=V.str "pairs"))||decide (V.int ((b.2.length:Int)%2)=V.int 1)):=by
 unfold kL;cases decide (V.str b.1=V.str "pairs") with
 | false=>rfl
 | true =>
  by_cases e:b.2.length%2=0
  ·rw [decide_eq_true e,decide_eq_false (λ z=>by have:=V.int.inj z;omega)];rfl
  ·rw [decide_eq_false e,decide_eq_true (congrArg V.int (by omega))];rfl
theorem zc (hk:k<4)(hD:H D=some (.lst zs))(ra:Á H zs (B.map gy))(q0:∀ o3 o4 o5 H',Ext H H'->(k=3->(B.map kL).all id=true)->u De [some (.str (aE k)),some (.ref D),some (.ref a),o3,o4,o5,o6] H')
  (q1:k=3->∀ i,cG (B.map kL) i->∀ c H',Ext H H'->H c=none->H' c=some (.tup [.str "pairs",.int (i:Nat)])->De.rt (.ref c) H'):aH (xW K) u De [some (.str (aE k)),some (.ref D),some (.ref a),o3,o4,o5,o6] H:=by
 have lz:=ra.length;rw [List.length_map] at lz;refine⟨_,rfl,D,rfl,⟨_,Ã.of hD⟩,fW (xs:=zs) (λ i σ H'=>∃ o3 o4 o5,σ=[some (.str (aE k)),some (.ref D),some (.ref a),o3,o4,o5,o6]/\Ext H H'/\(k=3->∀(j:Nat) b,j<i->(B.map kL)[j]?=some b->b=true)) ⟨_,_,_,rfl,Ext.refl _,λ _ j b h=>absurd h (Nat.not_lt_zero _)⟩ ?_ ?_ ?_⟩
 ·rintro i σ H' _ ⟨o3,o4,o5,rfl,x',_⟩;exact Ã.of (x' _ _ hD)
 ·rintro i x σ H' t ex ⟨o3,o4,o5,rfl,x',good⟩ ht;obtain⟨dd,ed,rd⟩:=ra.get ex;rw [List.getElem?_map] at ed;obtain⟨bk,ebk,rfl⟩:=Option.map_eq_some_iff.mp ed;obtain⟨b,l,rfl,hb,hl⟩:=iC rd;have xt:=Ext.new (o:=.tup [.int (i:Nat),.ref b]) ht;have gt:ae H' t (.tup [.int (i:Nat),.ref b]) t=some (.tup [.int (i:Nat),.ref b]):=aL;generalize ae H' t (.tup [.int (i:Nat),.ref b])=H2 at xt gt ⊢;have x2:=x'.trans xt;have em:(B.map kL)[i]?=some (kL bk):=by rw [List.getElem?_map,ebk];rfl
  refine⟨t,_,rfl,Ì.of gt,rfl,_,_,rfl,_,_,rfl,⟨b,_,rfl,Ì.of (x2 _ _ hb),rfl,_,_,rfl,_,_,rfl,rfl,rfl,?_⟩⟩;refine lX (z:=aE 3) rfl ?_;rw [iS k 3 hk (by decide)]
  by_cases e3:k=3
  ·rw [decide_eq_true e3];refine cq ⟨_,rfl,rfl,_,rfl,?_⟩;have nx:kL bk=true->∃ Wo Wq Wr,[some (.str (aE k)),some (.ref D),some (.ref a),some (.int (i:Nat)),some (.str bk.1),some (.ref l),o6]=[some (.str (aE k)),some (.ref D),some (.ref a),Wo,Wq,Wr,o6]/\Ext H H2/\(k=3->∀(j:Nat) b,j<i+1->(B.map kL)[j]?=some b->b=true):=λ hb=>⟨_,_,_,rfl,x2,λ z j b hj e=>by
    rcases Nat.lt_or_ge j i with lt | ge
    ·exact good z j b lt e
    ·have:j=i:=by omega
     subst this;rw [em,hb] at e;cases e;rfl⟩
   have rt:kL bk=false->dw (ah (tC (.str "pairs")) (ah (af 3) aF)) [some (.str (aE k)),some (.ref D),some (.ref a),some (.int (i:Nat)),some (.str bk.1),some (.ref l),o6] H2 De.rt:=λ hb=>⟨_,rfl,by show 2<=sizeLine;decide,λ c hc=>by
    have x3:=Ext.new (o:=.tup [.str "pairs",.int (i:Nat)]) hc;refine q1 e3 i ⟨good e3,by rw [em,hb]⟩ c _ (x2.trans x3) ?_ aL
    cases e:H c with
    | none=>rfl
    | some o=>rw [x2 _ _ e] at hc;cases hc⟩
   have ep:=xC (b:=bk);cases g:decide (V.str bk.1=V.str "pairs") with
   | false =>
    rw [g] at ep;exact cq (cq (rt ep))
   | true =>
    rw [g] at ep;refine bY ⟨_,rfl,l,_,rfl,.inl (Ã.of (x2 _ _ hl)),_,_,rfl,rfl,(by show(0:Int)<2;decide),rfl,_,rfl,?_⟩
    rw [List.length_map];cases g2:decide (V.int ((bk.2.length:Int)%2)=V.int 1) with
    | true=>rw [g2] at ep;exact cq (rt ep)
    | false=>rw [g2] at ep;exact bY (nx ep)
  ·rw [decide_eq_false e3];exact bY (bY ⟨_,_,_,rfl,x2,λ z=>absurd z e3⟩)
 ·rintro σ H' ⟨o3,o4,o5,rfl,x',good⟩;refine q0 _ _ _ H' x' λ z=>?_;rw [List.all_eq_true];intro b hb;obtain⟨j,hj,e⟩:=List.getElem_of_mem hb;exact good z j b (by rw [lz];rw [List.length_map] at hj;exact hj) (by rw [List.getElem?_eq_getElem hj,e])
theorem BR:∀ k:Nat,k<4->Ft (.str (aE k)) [.str "sum",.str "ranks"]=decide (k<2)
 | 0,_=>by decide +kernel
 | 1,_=>by decide +kernel
 | 2,_=>by decide +kernel
 | 3,_=>by decide +kernel
theorem wq {i:Nat}{bk:Bk}(e:B[i]?=some bk){j:Nat}{n:Int}(ej:bk.2[j]?=some n):((B.map (·.2)).flatten)[((B.take i).map (·.2)).flatten.length+j]?=some n:=by
 have li:i<B.length:=(List.getElem?_eq_some_iff.mp e).1;have eb:B[i]=bk:=by rw [List.getElem?_eq_getElem li] at e;exact Option.some.inj e
 have eB:B=B.take i++bk::B.drop (i+1):=by
  rw [<- eb,List.getElem_cons_drop,List.take_append_drop]
 have e2:(B.map (·.2)).flatten=((B.take i).map (·.2)).flatten++(bk.2++((B.drop (i+1)).map (·.2)).flatten):=by
  conv=>lhs;rw [eB]
  rw [List.map_append,List.flatten_append];rfl
 rw [e2,List.getElem?_append_right (by omega),Nat.add_sub_cancel_left,List.getElem?_append_left (List.getElem?_eq_some_iff.mp ej).1]
 exact ej
theorem Br (hk:k<4)(hD:H D=some (.lst zs))(ra:Á H zs (B.map gy))(ha:H a=some (.lst xs))(oc:ė H xs os)(fl:(B.map (·.2)).flatten=bR 0 os.length)(q0:∀ o4 o5 o6 H',Ext H H'->(k<2->(os.map (·.2)).all id=true)->u De [some (.str (aE k)),some (.ref D),some (.ref a),o3,o4,o5,o6] H')
  (q1:k<2->∀ i,cG (os.map (·.2)) i->∀ c H',Ext H H'->H c=none->H' c=some (.tup [.str "sure",.int (i:Nat)])->De.rt (.ref c) H'):aH (AC K) u De [some (.str (aE k)),some (.ref D),some (.ref a),o3,o4,o5,o6] H:=by
 have lz:=ra.length;rw [List.length_map] at lz;refine⟨_,rfl,D,rfl,⟨_,Ã.of hD⟩,cL (xs:=zs) (λ i σ H'=>∃ o4 o5 o6,σ=[some (.str (aE k)),some (.ref D),some (.ref a),o3,o4,o5,o6]/\Ext H H'/\(k<2->∀(j:Nat) b,j<((B.take i).map (·.2)).flatten.length->(os.map (·.2))[j]?=some b->b=true)) ⟨_,_,_,rfl,Ext.refl _,λ _ j b h=>absurd h (Nat.not_lt_zero _)⟩ ?_ ?_ ?_⟩
 ·rintro i σ H' _ ⟨o3,o4,o5,rfl,x',_⟩;exact Ã.of (x' _ _ hD)
 ·rintro i x σ H' ex ⟨o4,o5,o6,rfl,x',good⟩;obtain⟨dd,ed,rd⟩:=ra.get ex;rw [List.getElem?_map] at ed;obtain⟨bk,ebk,rfl⟩:=Option.map_eq_some_iff.mp ed;obtain⟨b,l,rfl,hb,hl⟩:=iC rd;refine⟨b,_,rfl,Ì.of (x' _ _ hb),rfl,_,_,rfl,_,_,rfl,rfl,?_⟩;have L4:((B.take (i+1)).map (·.2)).flatten.length=((B.take i).map (·.2)).flatten.length+bk.2.length:=by
   rw [aA ebk,List.map_append,List.flatten_append,List.length_append];simp
  refine⟨_,rfl,l,rfl,⟨_,Ã.of (x' _ _ hl)⟩,cL (xs:=bk.2.map V.int) (λ j σ H'=>∃ o6,σ=[some (.str (aE k)),some (.ref D),some (.ref a),o3,some (.str bk.1),some (.ref l),o6]/\Ext H H'/\(k<2->∀(j':Nat) b,j'<((B.take i).map (·.2)).flatten.length+j->(os.map (·.2))[j']?=some b->b=true)) ⟨_,rfl,x',good⟩ ?_ ?_ ?_⟩
  ·rintro j σ H2 _ ⟨o6,rfl,x2,_⟩;exact Ã.of (x2 _ _ hl)
  ·rintro j y σ H2 ey ⟨o6,rfl,x2,good2⟩;rw [List.getElem?_map] at ey;obtain⟨n,en,rfl⟩:=Option.map_eq_some_iff.mp ey;have ef:=wq ebk en;rw [fl] at ef;have lo:((B.take i).map (·.2)).flatten.length+j<os.length:=by have:=(List.getElem?_eq_some_iff.mp ef).1;rw [bj] at this;exact this
   rw [f7 lo,Int.zero_add] at ef;generalize ho:((B.take i).map (·.2)).flatten.length+j=pl at ef lo good2;have ef:((pl:Nat):Int)=n:=Option.some.inj ef;subst ef;obtain⟨b3,Ws,Nl⟩:=i5 oc lo;show wU K _ [some (.str (aE k)),some (.ref D),some (.ref a),o3,some (.str bk.1),some (.ref l),some (.int (pl:Nat))] H2;refine⟨_,rfl,by show 2<=sizeLine;decide,λ t ht=>?_⟩
   have xt:=Ext.new (o:=.tup [V.str "sum",.str "ranks"]) ht;have gt:ae H2 t (.tup [V.str "sum",.str "ranks"]) t=some (.tup [V.str "sum",.str "ranks"]):=aL;generalize ae H2 t (.tup [V.str "sum",.str "ranks"])=H3 at xt gt ⊢;have x3:=x2.trans xt;refine⟨t,_,rfl,.inr (Ì.of gt),rfl,rfl,_,rfl,?_⟩;show(if(Ft (V.str (aE k)) [V.str "sum",V.str "ranks"])=true then _ else _)
   rw [BR k hk];have em:(os.map (·.2))[pl]?=some os[pl].2:=by rw [List.getElem?_map,List.getElem?_eq_getElem lo];rfl
   by_cases e2:k<2
   ·rw [decide_eq_true e2];refine cq ⟨_,rfl,_,rfl,a,xs,_,_,rfl,rfl,Ã.of (x3 _ _ ha),cX Ws,b3,_,_,_,rfl,rfl,Ì.of (x3 _ _ Nl),cX (j:=1) rfl,_,rfl,?_⟩;cases hs:os[pl].2 with
    | true =>
     refine bY ⟨_,rfl,x3,λ z j' b' hj e=>?_⟩;rcases Nat.lt_or_ge j' pl with lt | ge
     ·exact good2 z j' b' lt e
     ·have:j'=pl:=by omega
      subst this;rw [em,hs] at e;cases e;rfl
    | false =>
     refine cq ⟨_,rfl,by show 2<=sizeLine;decide,λ c hc=>?_⟩
     have x4:=Ext.new (o:=.tup [.str "sure",.int (pl:Nat)]) hc;refine q1 e2 pl ⟨good2 e2,by rw [em,hs]⟩ c _ (x3.trans x4) ?_ aL
     cases e:H c with
     | none=>rfl
     | some o=>rw [x3 _ _ e] at hc;cases hc
   ·rw [decide_eq_false e2];exact bY (bY ⟨_,rfl,x3,λ z=>absurd z e2⟩)
  ·rintro σ H2 ⟨o6,rfl,x2,good2⟩;refine⟨_,_,_,rfl,x2,λ z j b hj e=>good2 z j b ?_ e⟩;rw [L4] at hj;rw [List.length_map];exact hj
 ·rintro σ H' ⟨o4,o5,o6,rfl,x',good⟩;refine q0 _ _ _ H' x' λ z=>?_;rw [lz,List.take_length,fl,bj] at good;rw [List.all_eq_true];intro b hb;obtain⟨j,hj,e⟩:=List.getElem_of_mem hb;rw [List.length_map] at hj;exact good z j b hj (by rw [List.getElem?_eq_getElem (by rw [List.length_map];exact hj),e])
end
def qy:Sp:=λ vs H Q _=>∃(k:Nat)(D:Addr)(zs:List V)(B:List Bk)(a:Addr)(xs:List V)(os:List (Int × Bool)),k<4/\vs=[.str (aE k),.ref D,.ref a]/\H D=some (.lst zs)/\Á H zs (B.map gy)/\(B.map (·.2)).flatten=bR 0 os.length/\H a=some (.lst xs)/\ė H xs os /\
 ((oo k B os).all id=true->∀ H',Ext H H'->Q .Æ H')/\∀ i,cG (oo k B os) i->∀ c H',Ext H H'->H c=none->H' c=some (.tup [.str (sK k),.int (i:Nat)])->Q (.ref c) H'
theorem DZ (F:Ö K "_law_refused_by" "_law_refused_by" wI f fd)(me:mg "enumerate" = none)(mn:mg "len" = none):Â P w K mg base av 1 f fd ["_law_word","_law_blocks","_law_outcomes_here"] qy:=by
 refine F.ok L5 (λ vs H Q E h=>?_) (λ cdv A outer s H vs Q E hr h=>?_)
 ·obtain⟨_,_,_,_,_,_,_,_,rfl,_⟩:=h;rfl
 obtain⟨k,D,zs,B,a,xs,os,hk,rfl,hD,ra,fl,ha,oc,q0,q1⟩:=h;refine gK (zi me mn) ⟨?_⟩;refine zc hk hD ra (λ o3 o4 o5 H1 x1 al=>?_) λ e3 i fi c H' x' nc hc=>?_
 ·refine Br hk (x1 _ _ hD) (ra.mono x1) (x1 _ _ ha) (oc.ext x1) fl (λ o4 o5 o6 H2 x2 OK=>?_) λ e2 i fi c H' x' nc hc=>?_
  ·refine q0 ?_ H2 (x1.trans x2);unfold oo;by_cases e3:k=3
   ·rw [if_pos e3];exact al e3
   ·rw [if_neg e3];by_cases e2:k=2
    ·rw [if_pos e2];rfl
    ·rw [if_neg e2];exact OK (by omega)
  ·have n3:k≠3:=by omega
   refine q1 i (by unfold oo;rw [if_neg n3,if_neg (by omega)];exact fi) c H' (x1.trans x') ?_ (by unfold sK;rw [if_neg n3];exact hc)
   cases e:H c with
   | none=>rfl
   | some o=>rw [x1 _ _ e] at nc;cases nc
 ·exact q1 i (by unfold oo;rw [if_pos e3];exact fi) c H' x' nc (by unfold sK;rw [if_pos e3];exact hc)
end
section
variable {P:Program}{w:World}{K:Frag}{mg:Str->Option Value}{base:Heap}{C MC:Nat->Addr}{f S g:Addr}{fd gd:FuncData}
abbrev uw:Stmt:=az (bX 56) 0
def mY (MC:Nat->Addr):Sp:=λ vs H Q _=>∃ x v k dx,k<4/\vs=[.ref x,v]/\H x=some (.ins (MC k) dx [])/\Q .Æ (ae H x (.ins (MC k) dx [("mark",v)]))
theorem CC:ad ["self","mark"] ["self","mark"] (aa uw):=aM
theorem BO (Z:KM K MC)(F:Ö K "__init__" "Measure.__init__" uw f fd):Â P w K mg base av 1 f fd ["self","mark"] (mY MC):=by
 refine F.ok CC (λ vs H Q E h=>?_) (λ cdv A outer s H vs Q E hr h=>?_)
 ·obtain⟨_,_,_,_,_,rfl,_⟩:=h;rfl
 obtain⟨x,v,k,dx,hk,rfl,hx,q⟩:=h;exact⟨_,aY (eF (pv 0) (pv 1) rfl),_,rfl,_,rfl,x,_,dx,[],rfl,hx,Z.cls k hk,Z.no k hk,by decide,q⟩
def gv (MC:Nat->Addr)(k:Nat):Sp:=λ vs H Q _=>∃ x dx,vs=[.ref x]/\H x=some (.ins (MC k) dx [])/\∀ m H',Kept H H' x->H' m=some (.tup [.str (aE k)])->H' x=some (.ins (MC k) dx [("mark",.ref m)])->Q .Æ H'
abbrev uY:Stmt:=az (bX 57) 0
theorem Dj:ad ["self"] ["self"] (aa uY):=aM
theorem yO (F:Ö K "__init__" "Sum.__init__" uY f fd)(Cf:fG K S "__init__" g)(G:Â P w K mg base av 1 g gd ["self","mark"] (mY MC))(bG:Binds K gd ["self","mark"] [])(mS:mg "Measure" = some (.ref S)):Â P w K mg base av 2 f fd ["self"] (gv MC 0):=by
 refine F.ok Dj (λ vs H Q E h=>?_) (λ cdv A outer s H vs Q E hr h=>?_)
 ·obtain⟨_,_,rfl,_⟩:=h;rfl
 obtain⟨x,dx,rfl,hx,q⟩:=h;refine⟨_,aY (aq (bL Cf G hr rfl mS bG .nil aj (ac (pv 0) (ac (aI (ac aw ak)) ak)))),?_⟩;refine⟨_,rfl,by show 1<=sizeLine;decide,λ t ht=>?_⟩
 have x1:=Ext.new (o:=.tup [.str "sum"]) ht;have ne:t≠x:=λ e=>by rw [e,hx] at ht;cases ht
 refine⟨x,_,0,dx,by decide,rfl,x1 _ _ hx,q t _ ((x1.kept x).trans (br _)) ?_ aL⟩
 rw [ag ne];exact aL
abbrev uy:Stmt:=az (bX 58) 0
theorem DT:ad ["self"] ["self"] (aa uy):=aM
theorem BB (F:Ö K "__init__" "Ranks.__init__" uy f fd)(Cf:fG K S "__init__" g)(G:Â P w K mg base av 1 g gd ["self","mark"] (mY MC))(bG:Binds K gd ["self","mark"] [])(mS:mg "Measure" = some (.ref S)):Â P w K mg base av 2 f fd ["self"] (gv MC 1):=by
 refine F.ok DT (λ vs H Q E h=>?_) (λ cdv A outer s H vs Q E hr h=>?_)
 ·obtain⟨_,_,rfl,_⟩:=h;rfl
 obtain⟨x,dx,rfl,hx,q⟩:=h;refine⟨_,aY (aq (bL Cf G hr rfl mS bG .nil aj (ac (pv 0) (ac (aI (ac aw ak)) ak)))),?_⟩;refine⟨_,rfl,by show 1<=sizeLine;decide,λ t ht=>?_⟩
 have x1:=Ext.new (o:=.tup [.str "ranks"]) ht;have ne:t≠x:=λ e=>by rw [e,hx] at ht;cases ht
 refine⟨x,_,1,dx,by decide,rfl,x1 _ _ hx,q t _ ((x1.kept x).trans (br _)) ?_ aL⟩
 rw [ag ne];exact aL
abbrev uk:Stmt:=az (bX 59) 0
theorem B6:ad ["self"] ["self"] (aa uk):=aM
theorem Bg (F:Ö K "__init__" "Wins.__init__" uk f fd)(Cf:fG K S "__init__" g)(G:Â P w K mg base av 1 g gd ["self","mark"] (mY MC))(bG:Binds K gd ["self","mark"] [])(mS:mg "Measure" = some (.ref S)):Â P w K mg base av 2 f fd ["self"] (gv MC 2):=by
 refine F.ok B6 (λ vs H Q E h=>?_) (λ cdv A outer s H vs Q E hr h=>?_)
 ·obtain⟨_,_,rfl,_⟩:=h;rfl
 obtain⟨x,dx,rfl,hx,q⟩:=h;refine⟨_,aY (aq (bL Cf G hr rfl mS bG .nil aj (ac (pv 0) (ac (aI (ac aw ak)) ak)))),?_⟩;refine⟨_,rfl,by show 1<=sizeLine;decide,λ t ht=>?_⟩
 have x1:=Ext.new (o:=.tup [.str "wins"]) ht;have ne:t≠x:=λ e=>by rw [e,hx] at ht;cases ht
 refine⟨x,_,2,dx,by decide,rfl,x1 _ _ hx,q t _ ((x1.kept x).trans (br _)) ?_ aL⟩
 rw [ag ne];exact aL
abbrev wk:Stmt:=az (bX 60) 0
theorem Ct:ad ["self"] ["self"] (aa wk):=aM
theorem yD (F:Ö K "__init__" "Signs.__init__" wk f fd)(Cf:fG K S "__init__" g)(G:Â P w K mg base av 1 g gd ["self","mark"] (mY MC))(bG:Binds K gd ["self","mark"] [])(mS:mg "Measure" = some (.ref S)):Â P w K mg base av 2 f fd ["self"] (gv MC 3):=by
 refine F.ok Ct (λ vs H Q E h=>?_) (λ cdv A outer s H vs Q E hr h=>?_)
 ·obtain⟨_,_,rfl,_⟩:=h;rfl
 obtain⟨x,dx,rfl,hx,q⟩:=h;refine⟨_,aY (aq (bL Cf G hr rfl mS bG .nil aj (ac (pv 0) (ac (aI (ac aw ak)) ak)))),?_⟩;refine⟨_,rfl,by show 1<=sizeLine;decide,λ t ht=>?_⟩
 have x1:=Ext.new (o:=.tup [.str "signs"]) ht;have ne:t≠x:=λ e=>by rw [e,hx] at ht;cases ht
 refine⟨x,_,3,dx,by decide,rfl,x1 _ _ hx,q t _ ((x1.kept x).trans (br _)) ?_ aL⟩
 rw [ag ne];exact aL
structure HP (P:Program)(w:World)(K:Frag)(mg:Str->Option Value)(base:Heap)(MC:Nat->Addr)(f0 f1 f2 f3:Addr)(e0 e1 e2 e3:FuncData):Prop where
 k0:Mk K (MC 0) f0
 k1:Mk K (MC 1) f1
 k2:Mk K (MC 2) f2
 k3:Mk K (MC 3) f3
 g0:Â P w K mg base av 2 f0 e0 ["self"] (gv MC 0)
 g1:Â P w K mg base av 2 f1 e1 ["self"] (gv MC 1)
 g2:Â P w K mg base av 2 f2 e2 ["self"] (gv MC 2)
 g3:Â P w K mg base av 2 f3 e3 ["self"] (gv MC 3)
 b0:Binds K e0 ["self"] []
 b1:Binds K e1 ["self"] []
 b2:Binds K e2 ["self"] []
 b3:Binds K e3 ["self"] []
 m0:mg "Sum" = some (.ref (MC 0))
 m1:mg "Ranks" = some (.ref (MC 1))
 m2:mg "Wins" = some (.ref (MC 2))
 m3:mg "Signs" = some (.ref (MC 3))
theorem Dk {H:Hp}{x dx:Addr}{R:VK}{E:XK}{k:Nat}(hx:H x=none)(hd:H dx=none)(ne:dx≠x)(q:∀ H',Ext H H'->Me MC H' k (.ref x)->R .Æ H'):gv MC k [.ref x] (ae (ae H dx (.own x)) x (.ins (MC k) dx [])) R E:=by
 have xe:=eY (u:=.own x) (v:=.ins (MC k) dx []) hx hd ne;exact⟨x,dx,rfl,aL,λ m H' kp hm Jo=>q H' (xe.kp hx kp) ⟨x,dx,m,rfl,Jo,hm⟩⟩
theorem wB {σ:St}{te:TE}{De:bA}{H:Hp}(h:te σ H De.rt):bN te De σ H:=h
theorem gW {σ:St}{te:TE}{t:TA}{H:Hp}{R:List V->Hp->Prop}(h:te σ H λ x H1=>t σ H1 λ xs H2=>R (x::xs) H2):ah te t σ H R:=h
abbrev FE:Stmt:=bX 74
theorem Ge:ad [] [] (aa FE):=aM
def ő (MC:Nat->Addr)(H:Hp)(k:Nat)(v:V):Prop:=∃ a u,v=.ref a/\H a=some (.tup [.str (aE k),u])/\Me MC H k u
theorem ő.ext {H H':Hp}{k:Nat}{v:V}(h:ő MC H k v)(x:Ext H H'):ő MC H' k v:=by
 obtain⟨a,u,e,ha,m⟩:=h;exact⟨a,u,e,x _ _ ha,m.ext x⟩
def wr (MC:Nat->Addr):Sp:=λ vs H Q _=>vs=[]/\∀ l v0 v1 v2 v3 H',Ext H H'->H' l=some (.lst [v0,v1,v2,v3])->ő MC H' 0 v0->ő MC H' 1 v1->ő MC H' 2 v2->ő MC H' 3 v3->Q (.ref l) H'
def Cw (MC:Nat->Addr)(k:Nat):TE:=dw (ah (tC (.str (aE k))) (ah (dE (MC k) (gv MC k) [] E0 aF) aF))
theorem pS {σ:St}{H:Hp}{k:Nat}{Q:VK}(q:∀ v H',Ext H H'->ő MC H' k v->Q v H'):Cw MC k σ H Q:=by
 refine λ x dx hx hd ne=>Dk hx hd ne λ H1 x1 me=>⟨rfl,by show 2<=sizeLine;decide,λ a ha=>?_⟩
 have x2:=Ext.new (o:=.tup [.str (aE k),.ref x]) ha;exact q (.ref a) _ (x1.trans x2) ⟨a,.ref x,rfl,aL,me.ext x2⟩
theorem D8 {f0 f1 f2 f3:Addr}{e0 e1 e2 e3:FuncData}(F:Ö K "_law_measures" "_law_measures" FE f fd)(L:HP P w K mg base MC f0 f1 f2 f3 e0 e1 e2 e3):Â P w K mg base av 4 f fd [] (wr MC):=by
 refine F.ok Ge (λ vs H Q E h=>?_) (λ cdv A outer s H vs Q E hr h=>?_)
 ·obtain⟨rfl,_⟩:=h;rfl
 obtain⟨rfl,q⟩:=h;refine gK (t:=bN (bM (ah (Cw MC 0) (ah (Cw MC 1) (ah (Cw MC 2) (ah (Cw MC 3) aF)))))) (be (hI (io (eN ⟨aI (ac aw (ac (gP L.k0 L.g0 hr rfl L.m0 L.b0 .nil aj) ak))⟩ (eN ⟨aI (ac aw (ac (gP L.k1 L.g1 hr rfl L.m1 L.b1 .nil aj) ak))⟩ (eN ⟨aI (ac aw (ac (gP L.k2 L.g2 hr rfl L.m2 L.b2 .nil aj) ak))⟩ (eN ⟨aI (ac aw (ac (gP L.k3 L.g3 hr rfl L.m3 L.b3 .nil aj) ak))⟩ bH))))))) ⟨?_⟩;refine wB (z9 (gW (pS λ v0 H0 x0 p0=>gW (pS λ v1 H1 x1 p1=>gW (pS λ v2 H2 x2 p2=>gW (pS λ v3 H3 x3 p3=>⟨by show 4<=sizeLine;decide,λ l hl=>?_⟩))))))
 have x4:=Ext.new (o:=.lst [v0,v1,v2,v3]) hl;exact q l v0 v1 v2 v3 _ ((((x0.trans x1).trans x2).trans x3).trans x4) aL (((p0.ext x1).ext x2).ext x3 |>.ext x4) (((p1.ext x2).ext x3).ext x4) ((p2.ext x3).ext x4) (p3.ext x4)
abbrev Fs:Stmt:=bX 62
theorem G7:ad ["_law_found"] ["_law_found"] (aa Fs):=aM
def uj:Sp:=λ vs H Q _=>∃ n:Int,vs=[.int n]/\Q (.bl true) H
theorem Ek (N:qG K)(F:Ö K "_law_whole" "_law_whole" Fs f fd)(mi:mg "isinstance" = none)(m1:mg "int" = none)(m2:mg "bool" = none):Â P w K mg base av 1 f fd ["_law_found"] uj:=by
 refine F.ok G7 (λ vs H Q E h=>?_) (λ cdv A outer s H vs Q E hr h=>?_)
 ·obtain⟨_,rfl,_⟩:=h;rfl
 obtain⟨n,rfl,q⟩:=h;refine⟨_,aY (cZ (dy (am (cg N) rfl mi PyProof.Rows.boot_isinstance (ac (pv 0) (ac (fX rfl m1 PyProof.Rows.boot_int) ak)))
  (eD (oV (am (cg N) rfl mi PyProof.Rows.boot_isinstance (ac (pv 0) (ac (fX rfl m2 PyProof.Rows.boot_bool) ak))))))),?_⟩
 exact⟨_,rfl,_,_,_,_,rfl,.inl (.int n),EB,_,rfl,⟨_,rfl,_,_,_,_,rfl,.inl (.int n),AG,_,rfl,q⟩⟩
structure yT (K:Frag)(mg:Str->Option Value)(D CU CP CW CO CF:Addr):Prop where
 cU:gs K CU
 cP:gs K CP
 cW:gs K CW
 cO:gs K CO
 cF:gs K CF
 cD:gs K D
 fU:re K CU "place"
 fP:re K CP "block"
 uu:mroIn K CU (.ref CU)=some true
 pu:mroIn K CP (.ref CU)=some false
 pp:mroIn K CP (.ref CP)=some true
 mU:mg "NotSure" = some (.ref CU)
 mP:mg "NoPairs" = some (.ref CP)
 mW:mg "NoWeights" = some (.ref CW)
 mO:mg "NoOutcome" = some (.ref CO)
 mF:mg "NoFolk" = some (.ref CF)
 mD:mg "DealError" = some (.ref D)
def Db (K:Frag)(z fld:Str):TS:=cH (dw (ah (tC (.str z)) (ah (sd K (af 4) fld) aF))) (aW 3)
def IP:TS:=cH (dw (ah (tC (.str "other")) (ah (tC .Æ) aF))) (aW 3)
abbrev xT:Stmt:=bX 72
abbrev Il:List Str:=["_law_measure","_law_rule_here","_law_outcomes_here","_law_told_here","e"]
theorem Nu:ad Il ["_law_measure","_law_rule_here","_law_outcomes_here"] (aa xT):=aM
structure IV (C MC:Nat->Addr)(H:Hp)(k:Nat)(v r:V)(t:Rl)(a:Addr)(xs:List V)(os:List (Int × Bool)):Prop where
 hk:k<4
 me:Me MC H k v
 ru:Ru C H t r
 ok:t.ok
 fl:t.flat
 ha:H a=some (.lst xs)
 oc:ė H xs os
 bd:sw os
 fk:t.À =(os.length:Nat)
theorem IV.lo {H:Hp}{k:Nat}{v r:V}{t:Rl}{a:Addr}{xs:List V}{os:List (Int × Bool)}(h:IV C MC H k v r t a xs os):os.length<=20:=by
 have:=Rl.È h.ok;have:=h.fk;omega
def rS (C MC:Nat->Addr):Sp:=λ vs H Q _=>∃ k v r t a xs os,vs=[v,r,.ref a]/\IV C MC H k v r t a xs os/\((oR k t os).all id=true->∀ p l H',Ext H H'->H l=none->H' l=some (.lst ((tw k os).map V.int))->H' p=some (.tup [.str "scores",.ref l])->Q (.ref p) H') /\
 ∀ i,cG (oR k t os) i->∀ p H',Ext H H'->H' p=some (.tup [.str (sK k),.int (i:Nat)])->Q (.ref p) H'
def Jf (K:Frag)(D CU CP CW CO CF:Addr):TH:=BV K CU 4 (Db K "sure" "place") (BV K CP 4 (Db K "pairs" "block") (BV K CW 4 (Db K "weights" "found") (BV K CO 4 (Db K "outcome" "place") (BV K CF 4 (Db K "folk" "found") (HK K D IP DL)))))
def By (C MC:Nat->Addr)(CU CP:Addr)(E:XK):TS:=cH (dw (ah (tC (.str "scores")) (ah (cE (j5 MC) "scores" (λ _=>jZ C MC CU CP) E (af 0) (ah (af 1) (ah (af 2) aF))) aF))) (aW 3)
variable {D CU CP CW CO CF:Addr}{cdv:Value}{A:Around}{outer:List Env}{s:Shared}{H:Hp}{E:XK}
theorem zJ (Z:yT K mg D CU CP CW CO CF)(M:bJ P w K mg base (cK P w) 9 "scores" ["self","rule","outcomes"] (j5 MC) (λ _=>jZ C MC CU CP))(hr:qI 9 "_law_told" xT A s f cdv) :
  Bx (ü (aV av P w K mg base Il "_law_told" (aa xT) f cdv A outer s H E).ä (au xT) (aH (cH (tC .Æ) (aW 3)) (aH (tY (By C MC CU CP) (Jf K D CU CP CW CO CF)) (bN (af 3))))):=by
 have nd:=Nu.nd;exact cI (aX (i:=3) nd rfl (Or.inl rfl) ⟨gz⟩) (cI ⟨ut (tb:=By C MC CU CP) (th:=Jf K D CU CP CW CO CF) rfl rfl
   (λ σ E' pn xe hp=>vo (i:=3) nd rfl (Or.inl rfl) (yF (lU (wL aw) (lU (r9 (E:=E') (wL (pv 0)) M hr hp (tE (ac (pv 1) (ac (pv 2) ak)))) (tE ak)))))
   (ji (i:=4) nd rfl rfl Z.cU rfl Z.mU (λ x=>aY (iI (i:=3) nd rfl (Or.inl rfl) (aI (ac aw (ac (fQ (pv 4) rfl) ak)))))
   (ji (i:=4) nd rfl rfl Z.cP rfl Z.mP (λ x=>aY (iI (i:=3) nd rfl (Or.inl rfl) (aI (ac aw (ac (fQ (pv 4) rfl) ak)))))
   (ji (i:=4) nd rfl rfl Z.cW rfl Z.mW (λ x=>aY (iI (i:=3) nd rfl (Or.inl rfl) (aI (ac aw (ac (fQ (pv 4) rfl) ak)))))
   (ji (i:=4) nd rfl rfl Z.cO rfl Z.mO (λ x=>aY (iI (i:=3) nd rfl (Or.inl rfl) (aI (ac aw (ac (fQ (pv 4) rfl) ak)))))
   (ji (i:=4) nd rfl rfl Z.cF rfl Z.mF (λ x=>aY (iI (i:=3) nd rfl (Or.inl rfl) (aI (ac aw (ac (fQ (pv 4) rfl) ak)))))
   (zR Z.cD rfl Z.mD (λ x=>aY (iI (i:=3) nd rfl (Or.inl rfl) (aI (ac aw (ac gz ak))))) wy))))))⟩ (be ⟨cZ (pv 3)⟩))
theorem DD {σ:St}{De:bA}(h:cE (j5 MC) "scores" (λ _=>jZ C MC CU CP) E (af 0) (ah (af 1) (ah (af 2) aF)) σ H λ x H1=>2<=sizeLine/\∀ p,H1 p=none->De.nx (σ.set 3 (some (.ref p))) (ae H1 p (.tup [.str "scores",x]))):By C MC CU CP E De σ H:=h
theorem vQ {tb:XK->TS}{th:TH}{De:bA}{σ:St}(h:tb (tm th De σ) De σ H):tY tb th De σ H:=h
theorem Cb (F:Ö K "_law_told" "_law_told" xT f fd)(Z:yT K mg D CU CP CW CO CF)(M:bJ P w K mg base (cK P w) 9 "scores" ["self","rule","outcomes"] (j5 MC) (λ _=>jZ C MC CU CP)):Â P w K mg base av 10 f fd ["_law_measure","_law_rule_here","_law_outcomes_here"] (rS C MC):=by
 refine F.ok Nu (λ vs H Q E h=>?_) (λ cdv A outer s H vs Q E hr h=>?_)
 ·obtain⟨_,_,_,_,_,_,_,rfl,_⟩:=h;rfl
 obtain⟨k,v,r,t,a,xs,os,rfl,pre,q1,q2⟩:=h;refine gK (zJ Z M hr) ⟨?_⟩;have hk:=pre.hk;refine aQ (te:=tC .Æ) (i:=3) (AW (vQ (DD (eR (by decide +kernel) hk pre.me (λ R r=>⟨_,rfl,r⟩) ⟨_,rfl,_,rfl,?_⟩))))
 refine⟨k,v,r,t,a,xs,os,hk,rfl,pre.me,pre.ru,(Rl.sm pre.ok).1,(Rl.sm pre.ok).2,pre.ha,pre.oc,pre.bd,pre.lo,pre.fk,λ _ al=>sI pre.ok pre.fl pre.fk al,λ al l H1 x1 nl hl=>⟨by show 2<=sizeLine;decide,λ p hp=>?_⟩,λ i fi H1 x1=>?_⟩
 ·have x2:=Ext.new (o:=.tup [.str "scores",.ref l]) hp;exact⟨_,rfl,q1 al p l _ (x1.trans x2) nl (x2 _ _ hl) aL⟩
 ·have q:=q2 i fi;unfold sK at q;unfold oO oI;by_cases e3:k=3
  ·rw [if_pos e3] at q ⊢;rw [if_pos e3];refine rG λ e dx H2 x2 fe fd=>⟨e,CP,rfl,rfl,false,Z.pu,bY ⟨true,Z.pp,cq ⟨_,rfl,e,CP,dx,_,_,rfl,fe,fd,rfl,Z.fP.it,Z.fP.hd,Z.fP.nf,by show 2<=sizeLine;decide,λ p hp=>?_⟩⟩⟩
   exact⟨_,rfl,q p _ ((x1.trans x2).trans (Ext.new hp)) aL⟩
  ·rw [if_neg e3] at q ⊢;rw [if_neg e3];refine rG λ e dx H2 x2 fe fd=>⟨e,CU,rfl,rfl,true,Z.uu,cq ⟨_,rfl,e,CU,dx,_,_,rfl,fe,fd,rfl,Z.fU.it,Z.fU.hd,Z.fU.nf,by show 2<=sizeLine;decide,λ p hp=>?_⟩⟩
   exact⟨_,rfl,q p _ ((x1.trans x2).trans (Ext.new hp)) aL⟩
end
def w3 (H:Hp)(p a c:Addr):Hp:=wo (wo (wo H p) a) c
theorem mQ {H:Hp}{p a c b:Addr}{o:HO}(n1:b≠p)(n2:b≠a)(n3:b≠c)(e:H b=some o):w3 H p a c b=some o:=aK n3 (aK n2 (aK n1 e))
theorem tI {H:Hp}{p a c b:Addr}{o:HO}(e:w3 H p a c b=some o):b≠p/\b≠a/\b≠c/\H b=some o:=by
 have h1:=ai _ _ _ _ e;have h2:=ai _ _ _ _ h1;exact⟨fF h2,fF h1,fF e,ai _ _ _ _ h2⟩
theorem oy {H H':Hp}{p a c:Addr}(x:Ext (wo H p) (wo H' p)):Ext (w3 H p a c) (w3 H' p a c):=λ b o e=>by
 obtain⟨n1,n2,n3,h⟩:=tI e;exact mQ n1 n2 n3 (ai _ _ _ _ (x _ _ (aK n1 h)))
theorem Aa {H:Hp}{p a c:Addr}{o:HO}:Ext (w3 H p a c) (w3 (ae H a o) p a c):=λ b u e=>by
 obtain⟨n1,n2,n3,h⟩:=tI e;exact mQ n1 n2 n3 (by rw [ag n2];exact h)
theorem yq {H:Hp}{p a c:Addr}{o:HO}:Ext (w3 H p a c) (w3 (ae H c o) p a c):=λ b u e=>by
 obtain⟨n1,n2,n3,h⟩:=tI e;exact mQ n1 n2 n3 (by rw [ag n3];exact h)
theorem Cy {H:Hp}{p a c:Addr}:Ext (w3 H p a c) (wo H p):=(ai _ _).trans (ai _ _)
theorem tF {H H':Hp}{p:Addr}(b:Ú H p)(x:Ext (wo H p) (wo H' p)):rV H H':=λ a o e n=>by
 obtain⟨_,_,_,hp,_⟩:=b.ex;exact ai _ _ _ _ (x _ _ (aK (λ z=>by subst z;rw [hp] at e;cases e;exact n _ rfl) e))
structure IW (K:Frag)(C:Nat->Addr)(H0 H:Hp)(sA p:Addr)(ns:List Int)(sv bl:Addr)(n:Int)(rs:List R0):Prop where
 s0:Sc K H0 sA p ns
 sc:Sc K H sA p ns
 x:Ext (wo H0 p) (wo H p)
 hs:∃ ws,H sv=some (.lst ws)/\Ą C H rs ws
 hb:∃ zs,H bl=some (.lst zs)/\Á (w3 H p sv bl) zs ((fw rs).map gy)
 n1:sv≠p
 n2:bl≠p
 n3:sv≠bl
 z1:wo H0 p sv=none
 z2:wo H0 p bl=none
 ok:∀ r∈rs,r.ok
 sm:(rs.map R0.À).sum<=n
 l6:rs.length<=6
 l5:(rs.map R0.À).sum<n->rs.length<=5
section
variable {P:Program}{w:World}{K:Frag}{mg:Str->Option Value}{base:Heap}{C:Nat->Addr}{CR CN CS CT CM:Addr}{De:bA}{H0 H H1:Hp}{sA p sv bl:Addr}{ns:List Int}{n size:Int}{rs:List R0}{o6:Option V}
theorem IW.go (h:IW K C H0 H sA p ns sv bl n rs)(sc:Sc K H1 sA p ns)(x1:Ext (wo H p) (wo H1 p)):IW K C H0 H1 sA p ns sv bl n rs:=by
 obtain⟨ws,hs,al⟩:=h.hs;obtain⟨zs,hb,ra⟩:=h.hb;exact⟨h.s0,sc,h.x.trans x1,⟨ws,ai _ _ _ _ (x1 _ _ (aK h.n1 hs)),al.Ë (tF h.sc.bx x1)⟩,⟨zs,ai _ _ _ _ (x1 _ _ (aK h.n2 hb)),ra.mono (oy x1)⟩,h.n1,h.n2,h.n3,h.z1,h.z2,h.ok,h.sm,h.l6,h.l5⟩
def jb (K:Frag)(i:Nat)(te:TE):TS:=iB (q8 K "list" gc (af i) (ah te aF))
def su (z:Str):TE:=dw (ah (tC (.str z)) (ah (gH sg (ah (gH sF (ah (af 5) (ah (aJ (c8 λ i j=>.int (i+j)) (af 5) (af 6)) aF))) aF)) aF))
theorem rF {te:TE}{z:Str}(h:IW K C H0 H sA p ns sv bl n rs)(le:(rs.map R0.À).sum+size<=n)(Ŧ:n<=20)(l5:rs.length<=5)(Mj:rs.length=5->(rs.map R0.À).sum+size=n)
  (ht:∀ R:VK,(∀ x r H1,r.word=z->r.À = size->r.ok->Sc K H1 sA p ns->Ext (wo H p) (wo H1 p)->Đ C H1 r (.ref x)->R (.ref x) H1)->te [some (.ref sA),some (.ref p),some (.int n),some (.ref sv),some (.ref bl),some (.int (rs.map R0.À).sum),some (.int size)] H R)
  (nx:∀ r H',r.À = size->IW K C H0 H' sA p ns sv bl n (rs ++ [r])->De.nx [some (.ref sA),some (.ref p),some (.int n),some (.ref sv),some (.ref bl),some (.int (rs.map R0.À).sum),some (.int size)] H') :
  aH (jb K 3 te) (jb K 4 (su z)) De [some (.ref sA),some (.ref p),some (.int n),some (.ref sv),some (.ref bl),some (.int (rs.map R0.À).sum),some (.int size)] H:=by
 have sz:=sizeLine_eq;obtain⟨ws,hs,al⟩:=h.hs;obtain⟨zs,hb,ra⟩:=h.hb;have lw:=al.1;have lz:=ra.length;rw [List.length_map,nA] at lz;have s0:0<=(rs.map R0.À).sum:=bK λ m hm=>by
  obtain⟨r',Ś,rfl⟩:=List.mem_map.mp hm;have:=R0.È (h.ok r' Ś);omega
 refine⟨_,rfl,.inl ⟨rfl,_,Ã.of hs⟩,ht _ λ x r H1 ez Tp ok é x1 ru=>?_⟩;subst ez;have es:=Tp.symm;have rf:=R0.È ok;have p1:=h.go é x1;have Pt:H1 sv=some (.lst ws):=ai _ _ _ _ (x1 _ _ (aK h.n1 hs));have Wt:H1 bl=some (.lst zs):=ai _ _ _ _ (x1 _ _ (aK h.n2 hb));have Wu:=al.Ë (tF h.sc.bx x1);refine⟨sv,ws,.ref x,rfl,rfl,Pt,by omega,?_⟩
 have k2:=Ic (.lst (ws ++ [.ref x])) Pt;have g2:ae H1 sv (.lst (ws ++ [.ref x])) sv=some (.lst (ws ++ [.ref x])):=aL;have ĺ:ae H1 sv (.lst (ws ++ [.ref x])) bl=some (.lst zs):=by rw [ag h.n3.symm];exact Wt
 have LW:=é.bx.up (l:=sv) (o:=.lst (ws ++ [.ref x])) h.n1;have w2:Ext (w3 H p sv bl) (w3 (ae H1 sv (.lst (ws ++ [.ref x]))) p sv bl):=(oy x1).trans Aa;have e2:Ext (wo H0 p) (wo (ae H1 sv (.lst (ws ++ [.ref x]))) p):=λ b o e=>by
  have nb:b≠sv:=λ z=>by rw [z,h.z1] at e;cases e
  exact aK (fF e) (by rw [ag nb];exact ai _ _ _ _ (p1.x _ _ e))
 have OK:Ą C (ae H1 sv (.lst (ws ++ [.ref x]))) (rs ++ [r]) (ws ++ [.ref x]):=nI (Wu.Ë k2) (ru.Ë k2);show jb K 4 (su r.word) De _ (ae H1 sv (.lst (ws ++ [.ref x])));generalize ae H1 sv (.lst (ws ++ [.ref x]))=H2 at k2 g2 ĺ LW w2 e2 OK ⊢;refine⟨_,rfl,.inl ⟨rfl,_,Ã.of ĺ⟩,_,rfl,_,rfl,_,rfl,_,_,rfl,rfl,_,_,rfl,λ rg Qn=>?_⟩;have x3:=Ext.new (o:=.ę (rs.map R0.À).sum ((rs.map R0.À).sum+size)) Qn;have g3:ae H2 rg (.ę (rs.map R0.À).sum ((rs.map R0.À).sum+size)) rg=some (.ę (rs.map R0.À).sum ((rs.map R0.À).sum+size)):=aL;generalize ae H2 rg (.ę (rs.map R0.À).sum ((rs.map R0.À).sum+size))=H3 at x3 g3 ⊢;refine⟨rg,_,_,rfl,g3,by omega,by omega,λ pl ó=>?_⟩
 have ef:((rs.map R0.À).sum+size-(rs.map R0.À).sum).toNat=r.À.toNat:=by congr 1;omega
 rw [ef,lc];have x4:=Ext.new (o:=.lst ((bR (rs.map R0.À).sum r.À.toNat).map V.int)) ó;have g4:ae H3 pl (.lst ((bR (rs.map R0.À).sum r.À.toNat).map V.int)) pl=some (.lst ((bR (rs.map R0.À).sum r.À.toNat).map V.int)):=aL;have m1:pl≠p:=(LW.ext x3).ne ó;have m2:pl≠sv:=λ e=>by rw [e,x3 _ _ g2] at ó;cases ó
 have m3:pl≠bl:=λ e=>by rw [e,x3 _ _ ĺ] at ó;cases ó
 generalize ae H3 pl (.lst ((bR (rs.map R0.À).sum r.À.toNat).map V.int))=H4 at x4 g4 ⊢;have Kw:=x3.trans x4;refine⟨by show 2<=sizeLine;decide,λ t K0=>?_⟩
 have x5:=Ext.new (o:=.tup [.str r.word,.ref pl]) K0;have g5:ae H4 t (.tup [.str r.word,.ref pl]) t=some (.tup [.str r.word,.ref pl]):=aL;have t1:t≠p:=(LW.ext Kw).ne K0;have t2:t≠sv:=λ e=>by rw [e,Kw _ _ g2] at K0;cases K0
 have t3:t≠bl:=λ e=>by rw [e,Kw _ _ ĺ] at K0;cases K0
 have Tq:=x5 _ _ g4;generalize ae H4 t (.tup [.str r.word,.ref pl])=H5 at x5 g5 Tq ⊢;have Kx:=Kw.trans x5;have OI:=Kx _ _ ĺ;refine⟨bl,zs,.ref t,rfl,rfl,OI,by omega,nx r _ Tp ?_⟩
 have e6:Ext (wo H0 p) (wo (ae H5 bl (.lst (zs ++ [.ref t]))) p):=λ b o e=>by
  have nb:b≠bl:=λ z=>by rw [z,h.z2] at e;cases e
  exact aK (fF e) (by rw [ag nb];exact ai _ _ _ _ ((ba Kx p) _ _ (e2 _ _ e)))
 have Md:((rs ++ [r]).map R0.À).sum=(rs.map R0.À).sum+size:=by rw [List.map_append,List.sum_append,es];simp
 refine⟨h.s0,h.s0.OC e6 ((LW.ext Kx).up h.n2),e6,⟨ws ++ [.ref x],by rw [ag h.n3];exact Kx _ _ g2,(OK.ext Kx).Ë (Ic _ OI)⟩,⟨zs ++ [.ref t],aL,?_⟩,h.n1,h.n2,h.n3,h.z1,h.z2,λ r' Ś=>?_,by rw [Md];exact le,by rw [List.length_append];show rs.length+1<=6;omega,λ lt=>?_⟩
 ·rw [lZ,List.map_append];refine(((ra.mono w2).mono (oy (ba Kx p))).append (.cons ?_ .nil)).mono yq;exact nK (b:=(r.word,bR (rs.map R0.À).sum r.À.toNat)) (mQ t1 t2 t3 g5) (mQ m1 m2 m3 Tq)
 ·rcases List.mem_append.mp Ś with h' | h'
  ·exact h.ok r' h'
  ·rw [List.mem_singleton.mp h'];exact ok
 ·rw [Md] at lt;rw [List.length_append];show rs.length+1<=5;by_cases e5:rs.length=5
  ·have:=Mj e5;omega
  ·omega
end
section
variable {P:Program}{w:World}{K:Frag}{mg:Str->Option Value}{base:Heap}{C:Nat->Addr}{CR CN CS CT CM f f0 f1 f2 f3 f4 a1:Addr}{fd e0 e1 e2 e3 e4 d1:FuncData}
abbrev vG:Stmt:=bX 73
abbrev Gy (i:Nat):Stmt:=(au vG).getD i (.Pass ⟨0,0,0,0⟩)
abbrev Gp:List Str:=["_law_script","_law_pen","_law_folk_here","_law_several","_law_blocks","_law_ahead","_law_size"]
theorem L6:ad Gp ["_law_script","_law_pen","_law_folk_here"] (aa vG):=aM
def uK:TE:=aJ (c8 λ i j=>.int (i-j)) (af 2) (af 5)
def DX (K:Frag):TS:=cH (jg (eV K uK)) (aW 6)
def DQ (K:Frag):TS:=dz (tB (aJ pP (nB K 3) (tC (.int 5)))) (cH uK (aW 6)) bS
def Ca (C:Nat->Addr)(CN CS:Addr):TE:=dE (C 1) (kA C CN CS) [] E0 (ah (aJ (rI iG λ i j=>.int (i/j)) (af 6) (tC (.int 2))) (ah (lF 1 2) aF))
def At (K:Frag)(C:Nat->Addr)(CN:Addr):TE:=dE (C 0) (mq C CN) [] E0 (ah (af 6) (ah (eV K (aJ (c8 λ i j=>.int (i+j)) (af 6) (tC (.int 1)))) aF))
def GI (K:Frag):TT:=qX (tB (aJ pP (aJ (rI (λ _ j=>0<j) λ i j=>.int (i%j)) (af 6) (tC (.int 2))) (tC (.int 0)))) (tB (aJ pP (eV K (tC (.int 2))) (tC (.int 0))))
def uE (K:Frag)(C:Nat->Addr)(CN CS:Addr):TS:=dz (GI K) (aH (jb K 3 (Ca C CN CS)) (jb K 4 (su "pairs"))) (aH (jb K 3 (At K C CN)) (jb K 4 (su "split")))
def Ak:TS:=cH (aJ (c8 λ i j=>.int (i+j)) (af 5) (af 6)) (aW 5)
def zH (K:Frag)(C:Nat->Addr)(CN CS:Addr):TS:=oh (tB (aJ (c8 λ i j=>.bl (decide (i<j))) (af 5) (af 2))) (aH (DX K) (aH (DQ K) (aH (uE K C CN CS) Ak)))
def Ew (K:Frag)(C:Nat->Addr)(CT CM:Addr):TS:=bN (dw (ah (dE (C 3) (i6 K C CT CM) [] E0 (ah (af 3) aF)) (ah (af 4) aF)))
def Ih (K:Frag)(C:Nat->Addr)(CN CS CT CM:Addr):TS:=aH (cH (bM aF) (aW 3)) (aH (cH (bM aF) (aW 4)) (aH (cH (tC (.int 0)) (aW 5)) (aH (zH K C CN CS) (Ew K C CT CM))))
section
variable {cdv:Value}{A:Around}{outer:List Env}{s:Shared}{H:Hp}{E:XK}(L:ze P w K mg base C CN CS CT CM f0 f1 f2 f3 f4 e0 e1 e2 e3 e4)(A1:Df P w K mg base av 1 "_law_take" ["_law_script","_law_pen","_law_many"] (dJ K) a1 d1)(hr:qI 7 "_law_parted" vG A s f cdv)
include L A1 hr
theorem F8 (mn:mg "len" = none)(ml:mg "list" = none)(mr:mg "range" = none):Bx (PS (aV av P w K mg base Gp "_law_parted" (aa vG) f cdv A outer s H E).ä (Gy 3) (zH K C CN CS)):=by
 have nd:=L6.nd;have Û:Ä 1 _:=hr.mono (by decide)
 have JL:Ä 5 _:=hr.mono (by decide)
 exact⟨jF PassesOwn.never (ao pN (pv 5) (pv 2) (ar _))
  (cw (iI (i:=6) nd rfl (Or.inl rfl) (ax bt ay (bU A1.G Û rfl A1.m A1.kp A1.b .nil aj (ac (pv 0) (ac (pv 1) (ac (ax fR (pv 2) (pv 5)) ak))))))
  (cw (bo (ao cr (am aG rfl mn PySem.boot_len (ac (pv 3) ak)) ay (ar _)) (aY (iI (i:=6) nd rfl (Or.inl rfl) (ax fR (pv 2) (pv 5)))) gG)
  (cw (bo (PW.pt (im (ao cr (ax dC (pv 6) ay) ay (ar _)) (gh (ao cr (bU A1.G Û rfl A1.m A1.kp A1.b .nil aj (ac (pv 0) (ac (pv 1) (ac ay ak)))) ay (ar _)))))
   (cw (aq (dF PySem.F.plainAttrs_list PySem.F.slot_list_append PySem.F.type_list_append bh (pv 3) (ac (dU L.k1 L.g1 hr rfl L.m1 L.b1 .nil gr (ac (ax fh (pv 6) ay) (ac (aI (ac ay (ac ay ak))) ak))) ak)))
   (aY (aq (dF PySem.F.plainAttrs_list PySem.F.slot_list_append PySem.F.type_list_append bh (pv 4) (ac (aI (ac aw (ac (aO (ij rfl) rfl ml PyProof.Rows.boot_list (ac (aO gi rfl mr PyProof.Rows.boot_range (ac (pv 5) (ac (ax bt (pv 5) (pv 6)) ak))) ak)) ak))) ak)))))
   (cw (aq (dF PySem.F.plainAttrs_list PySem.F.slot_list_append PySem.F.type_list_append bh (pv 3) (ac (dU L.k0 L.g0 JL rfl L.m0 L.b0 .nil gr (ac (pv 6) (ac (bU A1.G Û rfl A1.m A1.kp A1.b .nil aj (ac (pv 0) (ac (pv 1) (ac (ax bt (pv 6) ay) ak)))) ak))) ak)))
   (aY (aq (dF PySem.F.plainAttrs_list PySem.F.slot_list_append PySem.F.type_list_append bh (pv 4) (ac (aI (ac aw (ac (aO (ij rfl) rfl ml PyProof.Rows.boot_list (ac (aO gi rfl mr PyProof.Rows.boot_range (ac (pv 5) (ac (ax bt (pv 5) (pv 6)) ak))) ak)) ak))) ak))))))
  (aY (iI (i:=5) nd rfl (Or.inl rfl) (ax bt (pv 5) (pv 6)))))))⟩
theorem yd (mn:mg "len" = none)(ml:mg "list" = none)(mr:mg "range" = none):Bx (ü (aV av P w K mg base Gp "_law_parted" (aa vG) f cdv A outer s H E).ä (au vG) (Ih K C CN CS CT CM)):=by
 have nd:=L6.nd;have JL:Ä 5 _:=hr.mono (by decide)
 exact cI (aX (i:=3) nd rfl (Or.inl rfl) ⟨cj ak⟩) (cI (aX (i:=4) nd rfl (Or.inl rfl) ⟨cj ak⟩) (cI (aX (i:=5) nd rfl (Or.inl rfl) ⟨ay⟩) (cI (F8 L A1 hr mn ml mr)
  (be (hI (dZ (eN ⟨dU L.k3 L.g3 JL rfl L.m3 L.b3 .nil gr (ac (pv 3) ak)⟩ (eN ⟨pv 4⟩ bH))))))))
end
section
variable {De:bA}{H0 H H1:Hp}{sA p sv bl:Addr}{ns:List Int}{n size:Int}{rs:List R0}{o6:Option V}
theorem yR {σ:St}{R:VK}(sc:Sc K H sA p ns)(s6:σ[6]?=some (some (.int size)))(h1:1<=size/2)(h2:size/2<=10)(k:∀ x H1,Sc K H1 sA p ns->Ext (wo H p) (wo H1 p)->Đ C H1 (.pairs (size/2) 1 2) (.ref x)->R (.ref x) H1):Ca C CN CS σ H R:=by
 refine⟨_,s6,_,_,rfl,rfl,⟨by decide,by decide⟩,by show 2<=sizeLine;decide,λ t ht=>?_⟩
 have x1:=Ext.new (o:=.tup [.int 1,.int 2]) ht;have g1:ae H t (.tup [.int 1,.int 2]) t=some (.tup [.int 1,.int 2]):=aL;refine λ x dx hx hd ne=>kD hx hd ne (.tup g1 (.cons (.int _) (.cons (.int _) .nil))) ⟨h1,h2,by decide⟩ λ H2 x2 ru=>⟨rfl,?_⟩
 have ç:=x1.trans x2;exact k x H2 (sc.ext ç) (ba ç p) ru
theorem AK {σ:St}{R:VK}(sc:Sc K H sA p ns)(s0:σ[0]?=some (some (.ref sA)))(s1:σ[1]?=some (some (.ref p)))(s6:σ[6]?=some (some (.int size)))(h1:1<=size)(h2:size<=20)(k:∀ x j H1,0<=j->j<=size->Sc K H1 sA p ns->Ext (wo H p) (wo H1 p)->Đ C H1 (.split size j) (.ref x)->R (.ref x) H1):At K C CN σ H R:=by
 refine⟨_,s6,?_⟩;refine bp (m:=size+1) sc s0 s1 (λ R r=>⟨_,s6,_,_,rfl,rfl,r⟩) (by omega) (by omega) λ j H1 j0 j1 é k1=>?_
 refine λ x dx hx hd ne=>jX hx hd ne ⟨h1,h2,j0,by omega⟩ λ H2 x2 ru=>⟨rfl,?_⟩
 exact k x j H2 j0 (by omega) (é.ext x2) ((aB k1).trans (ba x2 p)) ru
theorem pF {σ:St}{t u:TS}(h:t { De with nx:=u De } σ H):aH t u De σ H:=h
theorem xN (h:IW K C H0 H sA p ns sv bl n rs)(s1:1<=size)(le:(rs.map R0.À).sum+size<=n)(Ŧ:n<=20)(l5:rs.length<=5)(Mj:rs.length=5->(rs.map R0.À).sum+size=n)
  (nx:∀ r H',r.À = size->IW K C H0 H' sA p ns sv bl n (rs ++ [r])->De.nx [some (.ref sA),some (.ref p),some (.int n),some (.ref sv),some (.ref bl),some (.int (rs.map R0.À).sum),some (.int size)] H') :
  uE K C CN CS De [some (.ref sA),some (.ref p),some (.int n),some (.ref sv),some (.ref bl),some (.int (rs.map R0.À).sum),some (.int size)] H:=by
 have s0:0<=(rs.map R0.À).sum:=bK λ m hm=>by
  obtain⟨r',Ś,rfl⟩:=List.mem_map.mp hm;have:=R0.È (h.ok r' Ś);omega
 have Tr:∀{H1:Hp},IW K C H0 H1 sA p ns sv bl n rs->aH (jb K 3 (At K C CN)) (jb K 4 (su "split")) De [some (.ref sA),some (.ref p),some (.int n),some (.ref sv),some (.ref bl),some (.int (rs.map R0.À).sum),some (.int size)] H1:=by
  intro H1 h1;exact rF h1 le Ŧ l5 Mj (λ R k=>AK h1.sc rfl rfl rfl s1 (by omega) λ x j H2 j0 j1 Ā x2 ru=>k x (.split size j) H2 rfl rfl ⟨s1,by omega,j0,j1⟩ Ā x2 ru) nx
 refine⟨_,rfl,_,_,rfl,rfl,(by show(0:Int)<2;decide),rfl,_,rfl,?_⟩
 by_cases e:size%2=0
 ·rw [decide_eq_true (congrArg V.int e)];refine cq (bp h.sc rfl rfl (λ R r=>r) (by decide) (by decide) λ z H1 z0 z2 é k1=>⟨rfl,_,rfl,?_⟩)
  have h1:=h.go é (aB k1);by_cases ez:z=0
  ·rw [decide_eq_true (by rw [ez])]
   exact cq (rF h1 le Ŧ l5 Mj (λ R k=>yR h1.sc rfl (by omega) (by omega) λ x H2 Ā x2 ru=>k x (.pairs (size/2) 1 2) H2 rfl (by show 2*(size/2)=size;omega) ⟨by omega,by omega,by decide⟩ Ā x2 ru) nx)
  ·rw [decide_eq_false (λ q=>ez (V.int.inj q))];exact bY (Tr h1)
 ·rw [decide_eq_false (λ q=>e (V.int.inj q))];exact bY (bY (Tr h))
theorem zz (h:IW K C H0 H sA p ns sv bl n rs)(Ŧ:n<=20)(lt:(rs.map R0.À).sum<n)
  (nx:∀ r H',1<=r.À->IW K C H0 H' sA p ns sv bl n (rs ++ [r])->De.nx [some (.ref sA),some (.ref p),some (.int n),some (.ref sv),some (.ref bl),some (.int ((rs ++ [r]).map R0.À).sum),some (.int r.À)] H') :
  aH (DX K) (aH (DQ K) (aH (uE K C CN CS) Ak)) De [some (.ref sA),some (.ref p),some (.int n),some (.ref sv),some (.ref bl),some (.int (rs.map R0.À).sum),o6] H:=by
 have s0:0<=(rs.map R0.À).sum:=bK λ m hm=>by
  obtain⟨r',Ś,rfl⟩:=List.mem_map.mp hm;have:=R0.È (h.ok r' Ś);omega
 have l5:=h.l5 lt;refine aQ (te:=jg (eV K uK)) (i:=6) ?_;show eV K uK _ H _;refine bp (m:=n-(rs.map R0.À).sum) h.sc rfl rfl (λ R r=>⟨_,rfl,_,rfl,_,_,rfl,rfl,r⟩) (by omega) (by omega) λ z H1 z0 zm é k1=>⟨_,_,rfl,rfl,?_⟩
 have h1:=h.go é (aB k1);obtain⟨ws,hs,al⟩:=h1.hs;have lw:=al.1;have go:∀ size,1<=size->(rs.map R0.À).sum+size<=n->(rs.length=5->(rs.map R0.À).sum+size=n)->aH (uE K C CN CS) Ak De [some (.ref sA),some (.ref p),some (.int n),some (.ref sv),some (.ref bl),some (.int (rs.map R0.À).sum),some (.int size)] H1:=by
  intro size s1 le Mj;refine pF (xN h1 s1 le Ŧ l5 Mj λ r H2 er h2=>?_);refine⟨_,rfl,_,rfl,_,_,rfl,rfl,?_⟩;have q:=nx r H2 (by omega) h2
  have es:((rs ++ [r]).map R0.À).sum=(rs.map R0.À).sum+size:=by rw [List.map_append,List.sum_append,<- er];simp
  rw [es,er] at q;exact q
 refine⟨_,rfl,sv,ws,rfl,.inl (Ã.of hs),rfl,_,rfl,?_⟩;by_cases e5:rs.length=5
 ·rw [decide_eq_true (by rw [<- lw,e5];rfl)]
  refine cq ⟨_,rfl,_,rfl,_,_,rfl,rfl,?_⟩;exact go (n-(rs.map R0.À).sum) (by omega) (by omega) (λ _=>by omega)
 ·rw [decide_eq_false (λ q=>e5 (by have:=V.int.inj q;omega))]
  exact bY (go (1+z) (by omega) (by omega) (λ q=>absurd q e5))
def AM (K:Frag)(C:Nat->Addr):Sp:=λ vs H Q _=>∃(s p:Addr)(ns:List Int)(n:Nat),vs=[.ref s,.ref p,.int (n:Nat)]/\Sc K H s p ns/\1<=n/\n<=20/\∀ a v D zs rs H',Sc K H' s p ns->Ext (wo H p) (wo H' p)->wo H p D=none->wo H' p a=some (.tup [v,.ref D])->Ru C (wo H' p) (.blocks rs) v->(Rl.blocks rs).ok->wo H' p D=some (.lst zs)->Á (wo H' p) zs ((Rl.blocks rs).bl.map gy)->(Rl.blocks rs).À =(n:Nat)->Q (.ref a) H'
end
section
variable {De:bA}{H:Hp}{sA p:Addr}{ns:List Int}{n:Nat}{o3 o4 o5 o6:Option V}
theorem Ac (sc:Sc K H sA p ns)(n1:1<=n)(Ŧ:n<=20)(q:∀ a v D zs rs H',Sc K H' sA p ns->Ext (wo H p) (wo H' p)->wo H p D=none->wo H' p a=some (.tup [v,.ref D])->Ru C (wo H' p) (.blocks rs) v->(Rl.blocks rs).ok->wo H' p D=some (.lst zs)->Á (wo H' p) zs ((Rl.blocks rs).bl.map gy)->(Rl.blocks rs).À =(n:Nat)->De.rt (.ref a) H') :
  Bx (Ih K C CN CS CT CM De [some (.ref sA),some (.ref p),some (.int (n:Nat)),o3,o4,o5,o6] H):=by
 constructor;refine aQ (te:=bM aF) (i:=3) ⟨by show 0<=sizeLine;decide,λ sv Ń=>?_⟩
 have x1:=Ext.new (o:=.lst []) Ń;have g1:ae H sv (.lst []) sv=some (.lst []):=aL;have m1:=sc.bx.ne Ń;have é:=sc.ext x1;generalize ae H sv (.lst [])=H1 at x1 g1 é ⊢;refine aQ (te:=bM aF) (i:=4) ⟨by show 0<=sizeLine;decide,λ bl J9=>?_⟩
 have x2:=Ext.new (o:=.lst []) J9;have g2:ae H1 bl (.lst []) bl=some (.lst []):=aL;have m2:=é.bx.ne J9;have m3:sv≠bl:=λ e=>by rw [<- e,g1] at J9;cases J9
 have Ā:=é.ext x2;have OL:=x2 _ _ g1;generalize ae H1 bl (.lst [])=H2 at x2 g2 Ā OL ⊢;have wn:∀ b,H b=none->wo H p b=none:=λ b e=>by
  cases e2:wo H p b with
  | none=>rfl
  | some o=>rw [ai _ _ _ _ e2] at e;cases e
 have nb:H bl=none:=by
  cases e:H bl with
  | none=>rfl
  | some o=>rw [x1 _ _ e] at J9;cases J9
 refine aQ (te:=tC (.int 0)) (i:=5) ?_;show aH (zH K C CN CS) (Ew K C CT CM) De [some (.ref sA),some (.ref p),some (.int (n:Nat)),some (.ref sv),some (.ref bl),some (.int 0),o6] H2;have p0:IW K C H H2 sA p ns sv bl (n:Nat) []:=⟨sc,Ā,ba (x1.trans x2) p,⟨[],OL,rfl,λ i r w h=>by simp at h⟩,⟨[],g2,.nil⟩,m1,m2,m3,wn _ Ń,wn _ nb,(λ r h=>nomatch h),by simp,by simp,λ _=>by simp⟩
 refine⟨λ m σ H'=>∃ rs o6,m=n-((rs.map R0.À).sum).toNat/\IW K C H H' sA p ns sv bl (n:Nat) rs/\σ=[some (.ref sA),some (.ref p),some (.int (n:Nat)),some (.ref sv),some (.ref bl),some (.int (rs.map R0.À).sum),o6],⟨_,[],o6,rfl,p0,rfl⟩,?_⟩;rintro m σ H' ⟨rs,o6,rfl,h,rfl⟩;have s0:0<=(rs.map R0.À).sum:=bK λ m hm=>by
  obtain⟨r',Ś,rfl⟩:=List.mem_map.mp hm;have:=R0.È (h.ok r' Ś);omega
 refine⟨_,rfl,_,rfl,_,_,rfl,rfl,_,rfl,?_⟩;by_cases lt:(rs.map R0.À).sum<(n:Nat)
 ·rw [decide_eq_true lt];refine cq ⟨λ Ï H2=>∃ m',m'<n-((rs.map R0.À).sum).toNat/\∃ rs o6,m'=n-((rs.map R0.À).sum).toNat/\IW K C H H2 sA p ns sv bl (n:Nat) rs/\Ï=[some (.ref sA),some (.ref p),some (.int (n:Nat)),some (.ref sv),some (.ref bl),some (.int (rs.map R0.À).sum),o6],λ Ï H2 z=>z,?_⟩;refine zz h (by omega) lt λ r H3 r1 h3=>⟨_,?_,rs ++ [r],_,rfl,h3,rfl⟩
  have es:((rs ++ [r]).map R0.À).sum=(rs.map R0.À).sum+r.À:=by rw [List.map_append,List.sum_append];simp
  rw [es];have:=h3.sm;rw [es] at this;omega
 ·rw [decide_eq_false lt];refine bY ?_;have sm:=h.sm;have eq:(rs.map R0.À).sum=(n:Nat):=by omega
  obtain⟨ws,hs,al⟩:=h.hs;obtain⟨zs,hb,ra⟩:=h.hb;have l1:1<=rs.length:=by
   cases rs with
   | nil=>simp at eq;omega
   | cons _ _=>simp
  have ok:(Rl.blocks rs).ok:=⟨l1,h.l6,h.ok,by rw [eq];omega⟩
  refine⟨_,rfl,λ x dx hx hd ne=>i7 hx hd ne hs al ok λ H3 x3 ru=>⟨rfl,_,rfl,by show 2<=sizeLine;decide,λ a ha=>?_⟩⟩
  have x4:=Ext.new (o:=.tup [.ref x,.ref bl]) ha;have Kw:=x3.trans x4;refine q a (.ref x) bl zs rs _ (h.sc.ext Kw) (h.x.trans (ba Kw p)) h.z2 (aK ((h.sc.ext x3).bx.ne ha) aL) ((ru.wo (h.sc.ext x3).bx).ext (ba x4 p)) ok (aK h.n2 (Kw _ _ hb)) ((ra.mono Cy).mono (ba Kw p)) eq
theorem ES (F:Ö K "_law_parted" "_law_parted" vG f fd)(L:ze P w K mg base C CN CS CT CM f0 f1 f2 f3 f4 e0 e1 e2 e3 e4)(A1:Df P w K mg base av 1 "_law_take" ["_law_script","_law_pen","_law_many"] (dJ K) a1 d1)(mn:mg "len" = none)(ml:mg "list" = none)(mr:mg "range" = none):Â P w K mg base av 8 f fd ["_law_script","_law_pen","_law_folk_here"] (AM K C):=by
 refine F.ok L6 (λ vs H Q E h=>?_) (λ cdv A outer s H vs Q E hr h=>?_)
 ·obtain⟨_,_,_,_,rfl,_⟩:=h;rfl
 obtain⟨sA,p,ns,n,rfl,sc,n1,Ŧ,q⟩:=h;exact gK (yd L A1 hr mn ml mr) (Ac sc n1 Ŧ q)
end
end
theorem zh {k:Nat}:∀{ds:List PyData},(∀ d∈ds,d.depth<=k)->PyData.depthAll ds<=k
 | [],_=>by simp [PyData.depthAll]
 | d::ds,h=>by
  have h1:=h d (List.mem_cons_self ..);have h2:=zh λ x hx=>h x (List.mem_cons_of_mem _ hx);simp only [PyData.depthAll];omega
theorem eZ (os:List (Int × Bool)):aN (.list (os.map kH))=true:=by
 show Ê (os.map kH)=true;refine i4 λ d hd=>?_;obtain⟨o,_,rfl⟩:=List.mem_map.mp hd;simp [kH,aN,Ê]
theorem sL (os:List (Int × Bool)):(PyData.list (os.map kH)).depth<=20:=by
 have:PyData.depthAll (os.map kH)<=1:=zh λ d hd=>by
  obtain⟨o,_,rfl⟩:=List.mem_map.mp hd;simp [kH,PyData.depth,PyData.depthAll]
 simp only [PyData.depth];omega
theorem iY (ns:List Int):aN (rP ns)=true:=jf ns
theorem AH (ns:List Int):(rP ns).depth<=20:=by
 have:PyData.depthAll (ns.map PyData.int)<=0:=zh λ d hd=>by
  obtain⟨o,_,rfl⟩:=List.mem_map.mp hd;simp [PyData.depth]
 simp only [rP,PyData.depth];omega
theorem Bf {t:Rl}(ok:t.ok)(fl:t.flat)(al:(nN t).all id=true):Fx t.bl:=by
 obtain⟨ns,h1,h2,h3⟩:=gA ok fl;refine⟨ns,λ n hn=>⟨h1 n hn,?_⟩,by rw [dP ok fl,h2]⟩
 obtain⟨i,hi,e⟩:=List.getElem_of_mem hn;have z:=jl ns 0 i (List.getElem?_eq_getElem hi);rw [<- h2,<- dP ok fl,List.getElem?_map] at z;obtain⟨b,eb,z⟩:=Option.map_eq_some_iff.mp z;rw [nP ok fl] at al;have:=List.all_eq_true.mp al (kL b) (List.mem_map.mpr ⟨b,List.mem_of_getElem? eb,rfl⟩);unfold kL at this;simp only [id,Bool.and_eq_true,decide_eq_true_eq] at this;have l:=this.2;rw [z,bj,e] at l;have:=h1 n hn;omega
theorem wp {k:Nat}{t:Rl}{os:List (Int × Bool)}(hk:k<4)(ok:t.ok)(fl:t.flat):oR k t os=oo k t.bl os:=by
 unfold oo
 match k,hk with
 | 0,_=>rfl
 | 1,_=>rfl
 | 2,_=>rfl
 | 3,_=>exact nP ok fl
section
variable {P:Program}{w:World}{K:Frag}{mg:Str->Option Value}{base:Heap}{C MC:Nat->Addr}{f a1 a2 a3 a4:Addr}{fd d1 d2 d3 d4:FuncData}
abbrev uR:Stmt:=bX 75
abbrev GK:List Str:=["_law_word","_law_measure","_law_rule_here","_law_blocks","_law_outcomes_here","_law_handed","_law_told_here","_law_due","_law_found"]
theorem Nv:ad GK ["_law_word","_law_measure","_law_rule_here","_law_blocks","_law_outcomes_here"] (aa uR):=aM
abbrev Hj:Scope:={ kind:=.function,names:=[(".0",.local),("_law_place",.local),("_law_found",.free)],isGenerator:=false,isCoroutine:=false }
abbrev FL:Scope:={ kind:=.function,names:=[(".0",.local),("_law_score",.local),("_law_whole",.globalImplicit)],isGenerator:=false,isCoroutine:=false }
theorem FS:((["_law_place"]:List Str)++(["_law_found"]:List Str)).Nodup:=by decide +kernel
theorem Hm:((["_law_score"]:List Str)++([]:List Str)).Nodup:=by decide +kernel
def wN (K:Frag):List V->Hp->VK->Prop:=λ xs H Q=>∃ p ys,xs=[.ref p]/\(Ã K H p ys\/Ì K H p ys)/\∀ l,H l=none->Q (.ref l) (ae H l (.lst ys))
def Hq (K:Frag):TS:=cH (gH (wN K) (ah (af 4) aF)) (aW 5)
def DN (C MC:Nat->Addr):TS:=cH (gn (rS C MC) [] E0 (ah (af 1) (ah (af 2) (ah (af 5) aF)))) (aW 6)
def uF:TS:=cH (gn qy [] E0 (ah (af 0) (ah (af 3) (ah (af 4) aF)))) (aW 7)
def tP (K:Frag):TE:=aJ (jG K) (af 6) (tC (.int 1))
def Im:R2:=λ x y H Q=>y=.Æ/\Q (.bl (!decide (x=.Æ))) H
def FR:R2:=λ x y H Q=>y=.Æ/\Q (.bl (decide (x=.Æ))) H
def on (K:Frag):TS:=dz (tB (aJ Im (af 7) (tC .Æ))) (bN (pO (aJ (oH id) (af 6) (af 7)) (pO (xn (gH (Al K) (ah (tP K) (ah (tC (.ty "bool")) aF)))) (aJ (oH id) (af 5) (af 4))))) bS
def tq:TS:=cH (gn tJ [] E0 (ah (af 0) (ah (af 3) (ah (af 4) aF)))) (aW 8)
def oE (K:Frag):TS:=dz (xh (tB (aJ FR (af 6) (tC .Æ))) (xh (tB (aJ Fw (aJ (jG K) (af 6) (tC (.int 0))) (tC (.str "scores")))) (xh (qW (tB (gH (Al K) (ah (tP K) (ah (tC (.ty "list")) aF))))) (tB (aJ (oH not) (af 5) (af 4)))))) (bN (tC (.bl false))) bS
def n4 (K:Frag):TS:=dz (tB (aJ (oH not) (tP K) (eG (nE (ah (nB K 4) aF)) 1 [8] (aW 0) (pH (af 1) (af 0))))) (bN (tC (.bl false))) bS
def Cv:TT:=qW (tB (gn uj [] E0 (ah (af 0) aF)))
def oC (K:Frag):TS:=dz (tB (aJ (lJ K) (i8 (bC K (tP K)) 1 [] (aW 0) Cv (af 0)) (bM aF))) (bN (tC (.bl false))) bS
def oJ (K:Frag):TS:=iB (q8 K "list" gc (tP K) (ah (tC (.int 7)) aF))
def HX (K:Frag)(C MC:Nat->Addr):TS:=aH (Hq K) (aH (DN C MC) (aH uF (aH (on K) (aH tq (aH (oE K) (aH (n4 K) (aH (oC K) (aH (oJ K) (bN (tC (.bl true)))))))))))
section
variable {cdv:Value}{A:Around}{outer:List Env}{s:Shared}{H:Hp}{E:XK}
theorem BJ:bu (aV av P w K mg base GK "_law_right" (aa uR) f cdv A outer s H E).ä Hj [("_law_found",s.heap.objs.size+1)] ["_law_place"] ["_law_found"] [8] :=
 iw (M:=["_law_found"]) (L:=[(".0",.local),("_law_place",.local),("_law_found",.cell)]) rfl rfl (by decide +kernel) (by decide +kernel) (by decide +kernel) rfl rfl rfl (by decide +kernel) (by decide +kernel) rfl rfl rfl
theorem Ah {X:Cx}:bu X FL [] ["_law_score"] [] []:=lL (L:=[(".0",.local),("_law_score",.local),("_law_whole",.globalImplicit)]) rfl rfl (by decide +kernel) (by decide +kernel) (by decide +kernel) rfl (by decide +kernel) (by decide +kernel)
theorem Bq (N:qG K)(A1:Df P w K mg base av 10 "_law_told" ["_law_measure","_law_rule_here","_law_outcomes_here"] (rS C MC) a1 d1)(A2:Df P w K mg base av 1 "_law_refused_by" ["_law_word","_law_blocks","_law_outcomes_here"] qy a2 d2)(A3:Df P w K mg base av 2 "_law_scores" ["_law_word","_law_blocks","_law_outcomes_here"] tJ a3 d3)(A4:Df P w K mg base av 1 "_law_whole" ["_law_found"] uj a4 d4)
  (mi:mg "isinstance" = none)(mb:mg "bool" = none)(ml:mg "list" = none)(mn:mg "len" = none)(mr:mg "range" = none)(hr:qI 10 "_law_right" uR A s f cdv):Bx (ü (aV av P w K mg base GK "_law_right" (aa uR) f cdv A outer s H E).ä (au uR) (HX K C MC)):=by
 have nd:=Nv.nd;have Û:Ä 1 _:=hr.mono (by decide)
 have Ł:Ä 2 _:=hr.mono (by decide)
 have hu:=hr.units;have Qv:=hr.ş;have Wv:(A.deeper (PyProof.Rows.envOfC "_law_right" (aa uR) s.heap.objs.size f cdv)).units+1<cLine:=by have:=hr.un;omega
 exact cI (aX (i:=5) nd rfl (Or.inl rfl) ⟨aO gJ rfl ml PyProof.Rows.boot_list (ac (pv 4) ak)⟩)
  (cI (aX (i:=6) nd rfl (Or.inl rfl) ⟨bU A1.G hr rfl A1.m A1.kp A1.b .nil aj (ac (pv 1) (ac (pv 2) (ac (pv 5) ak)))⟩)
  (cI (aX (i:=7) nd rfl (Or.inl rfl) ⟨bU A2.G Û rfl A2.m A2.kp A2.b .nil aj (ac (pv 0) (ac (pv 3) (ac (pv 4) ak)))⟩)
  (cI ⟨bo (ao vC (pv 7) gz (ar _)) (aY (cZ (dy (cC (tQ hu) (pv 6) (pv 7) (ar _)) (dy (oV (am (cg N) rfl mi PyProof.Rows.boot_isinstance (ac (cy gF (pv 6) ay) (ac (fX rfl mb PyProof.Rows.boot_bool) ak)))) (eD (cC (tQ hu) (pv 5) (pv 4) (ar _))))))) gG⟩
  (cI (aX (i:=8) nd rfl (Or.inr rfl) ⟨bU A3.G Ł rfl A3.m A3.kp A3.b .nil aj (ac (pv 0) (ac (pv 3) (ac (pv 4) ak)))⟩)
  (cI ⟨bo (PW.pt (fD (ao yv (pv 6) gz (ar _)) (fD (ao jr (cy gF (pv 6) ay) aw (ar _)) (fD (cu (bI (am (cg N) rfl mi PyProof.Rows.boot_isinstance (ac (cy gF (pv 6) ay) (ac (fX rfl ml PyProof.Rows.boot_list) ak))))) (fc (ao (oU hu) (pv 5) (pv 4) (ar _))))))) (aY (cZ ug)) gG⟩
  (cI ⟨bo (ao (oU hu) (cy gF (pv 6) ay) (cR (te:=pH (af 1) (af 0)) (g:=aW 0) rfl BJ (fY rfl mr (ac (am aG rfl mn PySem.boot_len (ac (pv 4) ak)) ak)) (λ s H C fp=>by exact bV (i:=0) FS rfl (.inl rfl)) (λ s H C fp=>by exact pk Wv (pv 1) (pv 0))) (ar _)) (aY (cZ ug)) gG⟩
  (cI ⟨bo (ao (jA Qv) (gS (te:=af 0) (tt:=Cv) (g:=aW 0) rfl Ah (aR (cy gF (pv 6) ay)) (λ s H C fp=>by exact bV (i:=0) Hm rfl (.inl rfl)) (λ s H C fp=>by exact cu (bI (bU A4.G Û rfl A4.m A4.kp A4.b .nil aj (ac (pv 0) ak)))) (λ s H C fp=>by exact pv 0)) (cj ak) (ar _)) (aY (cZ ug)) gG⟩
  (cI ⟨aq (dF PySem.F.plainAttrs_list PySem.F.slot_list_append PySem.F.type_list_append bh (cy gF (pv 6) ay) (ac ay ak))⟩
  (be ⟨cZ ug⟩)))))))))
end
def Am (C MC:Nat->Addr):Sp:=λ vs H Q _=>∃ k v r t D zs a xs os,vs=[.str (aE k),v,r,.ref D,.ref a]/\IV C MC H k v r t a xs os/\Á H xs (os.map kH)/\H D=some (.lst zs)/\Á H zs (t.bl.map gy)/\∀ H',Ext H H'->Q (.bl true) H'
end
theorem mN {bs:List Bool}{i:Nat}(h:cG bs i):¬ bs.all id=true:=λ al=>by
 have:=List.all_eq_true.mp al false (List.mem_of_getElem? h.2);cases this
theorem ua {bs:List Bool}{i j:Nat}(h:cG bs i)(k:cG bs j):i=j:=by
 rcases Nat.lt_trichotomy i j with lt | e | gt
 ·have:=k.1 i false lt h.2;cases this
 ·exact e
 ·have:=h.1 j false gt k.2;cases this
section
variable {K:Frag}{C MC:Nat->Addr}{De:bA}{u:TS}{H H1:Hp}{k i:Nat}{a h p l d D c:Addr}{xs:List V}{os:List (Int × Bool)}{o0 o1 o2 o3 o5 o6 o7 o8:Option V}{kvs:List (Key × V)}
theorem sM {z:Str}{n:Int}(e:H p=some (.tup [.str z,.int n])):Ð H (.ref p) (.tuple [.str z,.int n]):=.tup e (.cons (.str _) (.cons (.int _) .nil))
theorem kI (ha:H a=some (.lst xs))(ro:Á H xs (os.map kH)):Ð H (.ref a) (.list (os.map kH)):=.lst ha ro
theorem tW {ns:List Int}(ha:H a=some (.lst (ns.map V.int))):Ð H (.ref a) (rP ns):=.lst ha (dH H ns)
theorem vR {z:Str}{n:Int}(hp:H p=some (.tup [.str z,.int n]))(hc:H c=some (.tup [.str z,.int n]))(hh:H h=some (.lst xs))(ha:H a=some (.lst xs))(ro:Á H xs (os.map kH))(q:De.rt (.bl true) H):aH (on K) u De [o0,o1,o2,o3,some (.ref a),some (.ref h),some (.ref p),some (.ref c),o8] H:=by
 have pl:aN (.tuple [.str z,.int n])=true:=by simp [aN,Ê]
 refine⟨_,rfl,rfl,_,rfl,?_⟩;rw [decide_eq_false (λ e=>by cases e)]
 refine cq ⟨_,rfl,_,rfl,_,_,sM hp,sM hc,pl,pl,by simp [PyData.depth,PyData.depthAll],_,rfl,?_⟩
 rw [eO pl];refine cq ⟨_,rfl,p,_,_,_,rfl,rfl,Ì.of hp,cX (j:=1) rfl,_,_,_,_,rfl,.inl (.int _),AG,_,rfl,_,rfl,cq ⟨_,rfl,_,rfl,_,_,kI hh ro,kI ha ro,eZ os,eZ os,sL os,?_⟩⟩;rw [eO (eZ os)];exact q
theorem u8 (q:u De [o0,o1,o2,o3,some (.ref a),some (.ref h),some (.ref p),some .Æ,o8] H):aH (on K) u De [o0,o1,o2,o3,some (.ref a),some (.ref h),some (.ref p),some .Æ,o8] H:=by
 refine⟨_,rfl,rfl,_,rfl,?_⟩;rw [decide_eq_true rfl];exact bY q
theorem Ad (hp:H p=some (.tup [.str "scores",.ref l]))(hl:∃ ys,H l=some (.lst ys))(hh:H h=some (.lst xs))(ha:H a=some (.lst xs))(ro:Á H xs (os.map kH))(q:u De [o0,o1,o2,o3,some (.ref a),some (.ref h),some (.ref p),o7,o8] H):aH (oE K) u De [o0,o1,o2,o3,some (.ref a),some (.ref h),some (.ref p),o7,o8] H:=by
 obtain⟨ys,hl⟩:=hl;refine⟨_,rfl,rfl,_,rfl,?_⟩;rw [decide_eq_false (λ e=>by cases e)]
 refine bY ⟨_,rfl,p,_,_,_,rfl,rfl,Ì.of hp,cX (j:=0) rfl,rfl,_,rfl,?_⟩;rw [decide_eq_true rfl];refine bY ⟨_,rfl,p,_,_,_,rfl,rfl,Ì.of hp,cX (j:=1) rfl,_,_,_,_,rfl,.inl (.lst hl),rfl,_,rfl,bY ⟨_,rfl,_,rfl,_,_,kI hh ro,kI ha ro,eZ os,eZ os,sL os,_,rfl,?_⟩⟩;rw [eO (eZ os)];exact bY q
theorem AY (hk:k<4)(hp:H p=some (.tup [.str "scores",.ref l]))(hl:H l=some (.lst ((tw k os).map V.int)))(ha:H a=some (.lst xs))(lx:xs.length=os.length)(lo:os.length<=20)(hd:H d=some (.dK kvs))(good:ì k os os.length kvs)
  (q:∀ H',Ext H H'->u De [o0,o1,o2,o3,some (.ref a),o5,some (.ref p),o7,some (.ref d)] H'):aH (n4 K) u De [o0,o1,o2,o3,some (.ref a),o5,some (.ref p),o7,some (.ref d)] H:=by
 have sz:=sizeLine_eq;refine⟨_,rfl,p,_,_,_,rfl,rfl,Ì.of hp,cX (j:=1) rfl,_,rfl,a,xs,rfl,.inl (Ã.of ha),(xs.length:Nat),rfl,by omega,by omega,λ D2 Ĉ=>?_⟩
 rw [Int.toNat_natCast];have ls:=pM hk os;refine jO (lo:=0) (n:=xs.length) (cap:=[some (.ref d)]) (λ i ys H'=>Ext H H'/\ys=((tw k os).take i).map V.int) (by omega) ⟨Ext.new Ĉ,rfl⟩ ?_ ?_
 ·rintro i ys H' hi ly Ô ⟨x',ey⟩ Ĺ á R kk;obtain⟨q0,rfl⟩:∃ o0,Ĺ=[o0]:=by
   match Ĺ,á with
   | [o0],_=>exact⟨o0,rfl⟩
  have hv:=good.2 i (by omega)
  refine⟨⟨[_],rfl,rfl⟩,_,rfl,_,rfl,d,_,rfl,.inl ⟨kvs,.inl (0+(i:Int)),.inl (x' _ _ hd),rfl,by rw [Int.zero_add];exact hv.symm⟩,?_⟩
  refine kk _ H' Ô ⟨aP _ x' Ĉ,?_⟩;have li:i<(tw k os).length:=by omega
  rw [aA (List.getElem?_eq_getElem li),List.map_append,<- ey,List.getD_eq_getElem?_getD,List.getElem?_eq_getElem li];rfl
 ·rintro ys H' ly Ô ⟨x',ey⟩;rw [lx,<- ls,List.take_length] at ey;rw [ey] at Ô;refine⟨_,_,tW (x' _ _ hl),tW Ô,iY _,iY _,AH _,_,rfl,?_⟩;rw [eO (iY _)];exact bY (q H' x')
theorem xR {ns:List Int}(hp:H p=some (.tup [.str "scores",.ref l]))(hl:H l=some (.lst (ns.map V.int)))(ln:ns.length<=20)(q:∀ H',Ext H H'->u De [o0,o1,o2,o3,some (.ref a),o5,some (.ref p),o7,o8] H'):aH (oC K) u De [o0,o1,o2,o3,some (.ref a),o5,some (.ref p),o7,o8] H:=by
 have sz:=sizeLine_eq;refine⟨_,rfl,p,_,_,_,rfl,rfl,Ì.of hp,cX (j:=1) rfl,l,rfl,⟨_,Ã.of hl⟩,λ D2 Ĉ=>?_⟩;refine lY (a:=l) (xs:=ns.map V.int) (cap:=[]) (λ _=>false) (by rw [List.length_map];omega) hl Ĉ ?_ ?_
 ·intro j v H' ev x' R r;rw [List.getElem?_map] at ev;obtain⟨n,_,rfl⟩:=Option.map_eq_some_iff.mp ev;exact⟨_,rfl,n,rfl,_,rfl,r⟩
 ·intro H' x' hD;have e0:(ns.map V.int).filter (λ _=>false)=[]:=List.filter_eq_nil_iff.mpr λ _ _=>by decide
  rw [e0] at hD;refine⟨by show 0<=sizeLine;decide,λ r hr=>?_⟩
  have x2:=Ext.new (o:=.lst []) hr;exact⟨D2,r,[],rfl,rfl,Ã.of (x2 _ _ hD),Ã.of aL,_,rfl,bY (q _ (x'.trans x2))⟩
theorem yN {ns:List Int}(hp:H p=some (.tup [.str "scores",.ref l]))(hl:H l=some (.lst (ns.map V.int)))(ln:ns.length<=20)(q:De.rt (.bl true) (ae H l (.lst (ns.map V.int ++ [.int 7])))):aH (oJ K) (bN (tC (.bl true))) De [o0,o1,o2,o3,some (.ref a),o5,some (.ref p),o7,o8] H:=by
 have sz:=sizeLine_eq;exact⟨_,rfl,p,_,_,_,rfl,rfl,Ì.of hp,cX (j:=1) rfl,.inl ⟨rfl,_,Ã.of hl⟩,l,_,_,rfl,rfl,hl,by rw [List.length_map];omega,q⟩
variable {P:Program}{w:World}{mg:Str->Option Value}{base:Heap}{f a1 a2 a3 a4:Addr}{fd d1 d2 d3 d4:FuncData}
theorem xJ {De:bA}{H:Hp}{k:Nat}{v r:V}{t:Rl}{D a:Addr}{zs xs:List V}{os:List (Int × Bool)}{o5 o6 o7 o8:Option V}(pre:IV C MC H k v r t a xs os)(ro:Á H xs (os.map kH))(hD:H D=some (.lst zs))(ra:Á H zs (t.bl.map gy))(q:∀ H',Ext H H'->De.rt (.bl true) H') :
  Bx (HX K C MC De [some (.str (aE k)),some v,some r,some (.ref D),some (.ref a),o5,o6,o7,o8] H):=by
 constructor;have hk:=pre.hk;have lo:=pre.lo;have bf:=k9 pre.ok pre.fl;rw [pre.fk,Int.toNat_natCast] at bf;refine aQ (te:=gH (wN K) (ah (af 4) aF)) (i:=5) ⟨_,rfl,a,xs,rfl,.inl (Ã.of pre.ha),λ h hh=>?_⟩;have x1:=Ext.new (o:=.lst xs) hh;have g1:ae H h (.lst xs) h=some (.lst xs):=aL;show aH (DN C MC) (aH uF (aH (on K) (aH tq (aH (oE K) (aH (n4 K) (aH (oC K) (aH (oJ K) (bN (tC (.bl true)))))))))) De [some (.str (aE k)),some v,some r,some (.ref D),some (.ref a),some (.ref h),o6,o7,o8] (ae H h (.lst xs));generalize ae H h (.lst xs)=H1 at x1 g1 ⊢;have Qw:IV C MC H1 k v r t h xs os:=⟨hk,pre.me.ext x1,pre.ru.ext x1,pre.ok,pre.fl,g1,pre.oc.ext x1,pre.bd,pre.fk⟩;have ef:=wp (os:=os) hk pre.ok pre.fl;refine aQ (te:=gn (rS C MC) [] E0 (ah (af 1) (ah (af 2) (ah (af 5) aF)))) (i:=6) ⟨_,rfl,_,rfl,_,rfl,k,v,r,t,h,xs,os,rfl,Qw,λ al p l H2 x2 nl hl hp=>?_,λ i fi p H2 x2 hp=>?_⟩
 ·show aH uF (aH (on K) (aH tq (aH (oE K) (aH (n4 K) (aH (oC K) (aH (oJ K) (bN (tC (.bl true))))))))) De [some (.str (aE k)),some v,some r,some (.ref D),some (.ref a),some (.ref h),some (.ref p),o7,o8] H2;have ç:=x1.trans x2;refine aQ (te:=gn qy [] E0 (ah (af 0) (ah (af 3) (ah (af 4) aF)))) (i:=7) ⟨_,rfl,_,rfl,_,rfl,k,D,zs,t.bl,a,xs,os,hk,rfl,ç _ _ hD,ra.mono ç,bf,ç _ _ pre.ha,pre.oc.ext ç,λ _ H3 x3=>?_,λ i fi=>?_⟩
  ·show aH (on K) (aH tq (aH (oE K) (aH (n4 K) (aH (oC K) (aH (oJ K) (bN (tC (.bl true)))))))) De [some (.str (aE k)),some v,some r,some (.ref D),some (.ref a),some (.ref h),some (.ref p),some .Æ,o8] H3;refine u8 ?_;have ł:=ç.trans x3;have ev:k=3->Fx t.bl:=λ e=>by
    subst e;exact Bf pre.ok pre.fl al
   have sm:=Rl.sm pre.ok;have lb:t.bl.length<=20:=by
    have:=congrArg List.length (dP pre.ok pre.fl);rw [List.length_map] at this;have:=sm.1;omega
   have Ww:∀ b∈t.bl,b.2.length<=20:=λ b hb=>sm.2 _ (by rw [<- dP pre.ok pre.fl];exact List.mem_map.mpr ⟨b,hb,rfl⟩)
   refine aQ (te:=gn tJ [] E0 (ah (af 0) (ah (af 3) (ah (af 4) aF)))) (i:=8) ⟨_,rfl,_,rfl,_,rfl,k,D,zs,t.bl,a,xs,os,hk,rfl,ł _ _ hD,ra.mono ł,lb,Ww,bf,ł _ _ pre.ha,pre.oc.ext ł,lo,ev,λ d kvs H4 x4 nd hd good=>?_⟩;show aH (oE K) (aH (n4 K) (aH (oC K) (aH (oJ K) (bN (tC (.bl true)))))) De [some (.str (aE k)),some v,some r,some (.ref D),some (.ref a),some (.ref h),some (.ref p),some .Æ,some (.ref d)] H4;have Ky:=ł.trans x4;have JQ:=x3.trans x4;refine Ad (JQ _ _ hp) ⟨_,JQ _ _ hl⟩ ((x2.trans JQ) _ _ g1) (Ky _ _ pre.ha) (ro.mono Ky) ?_;refine AY hk (JQ _ _ hp) (JQ _ _ hl) (Ky _ _ pre.ha) pre.oc.1 lo hd good λ H5 x5=>?_;have ls:(tw k os).length<=20:=by rw [pM hk];exact lo
   refine xR ((JQ.trans x5) _ _ hp) ((JQ.trans x5) _ _ hl) ls λ H6 x6=>?_;have ś:=(JQ.trans x5).trans x6;refine yN (ś _ _ hp) (ś _ _ hl) ls (q _ ?_);have Wx:H l=none:=by
    cases e:H l with
    | none=>rfl
    | some o=>rw [x1 _ _ e] at nl;cases nl
   exact aP _ ((x1.trans x2).trans ś) Wx
  ·exfalso;rw [<- ef] at fi;exact mN fi al
 ·show aH uF (aH (on K) (aH tq (aH (oE K) (aH (n4 K) (aH (oC K) (aH (oJ K) (bN (tC (.bl true))))))))) De [some (.str (aE k)),some v,some r,some (.ref D),some (.ref a),some (.ref h),some (.ref p),o7,o8] H2;have ç:=x1.trans x2;refine aQ (te:=gn qy [] E0 (ah (af 0) (ah (af 3) (ah (af 4) aF)))) (i:=7) ⟨_,rfl,_,rfl,_,rfl,k,D,zs,t.bl,a,xs,os,hk,rfl,ç _ _ hD,ra.mono ç,bf,ç _ _ pre.ha,pre.oc.ext ç,λ al=>?_,λ j fj c H3 x3 nc hc=>?_⟩
  ·exfalso;rw [<- ef] at al;exact mN fi al
  ·rw [<- ef] at fj;have e:=ua fi fj;subst e;have ł:=ç.trans x3;exact vR (x3 _ _ hp) hc ((x2.trans x3) _ _ g1) (ł _ _ pre.ha) (ro.mono ł) (q H3 ł)
theorem D7 (N:qG K)(F:Ö K "_law_right" "_law_right" uR f fd)(A1:Df P w K mg base av 10 "_law_told" ["_law_measure","_law_rule_here","_law_outcomes_here"] (rS C MC) a1 d1)(A2:Df P w K mg base av 1 "_law_refused_by" ["_law_word","_law_blocks","_law_outcomes_here"] qy a2 d2)(A3:Df P w K mg base av 2 "_law_scores" ["_law_word","_law_blocks","_law_outcomes_here"] tJ a3 d3)(A4:Df P w K mg base av 1 "_law_whole" ["_law_found"] uj a4 d4)
  (mi:mg "isinstance" = none)(mb:mg "bool" = none)(ml:mg "list" = none)(mn:mg "len" = none)(mr:mg "range" = none):Â P w K mg base av 11 f fd ["_law_word","_law_measure","_law_rule_here","_law_blocks","_law_outcomes_here"] (Am C MC):=by
 refine F.ok Nv (λ vs H Q E h=>?_) (λ cdv A outer s H vs Q E hr h=>?_)
 ·obtain⟨_,_,_,_,_,_,_,_,_,rfl,_⟩:=h;rfl
 obtain⟨k,v,r,t,D,zs,a,xs,os,rfl,pre,ro,hD,ra,q⟩:=h;exact gK (Bq N A1 A2 A3 A4 mi mb ml mn mr hr) (xJ pre ro hD ra q)
end
structure AQ (K:Frag)(MC:Nat->Addr)(MS:Addr):Prop where
 ha:∀ i,i<4->PySem.W.findIn K (.ref (MC i)) "__class__" = some (some (.builtin "object.__class__"))
 hn:PySem.W.specialIn K (.builtin "object.__class__") "__get__" = some (some (.builtin "getset_descriptor.__get__"))
 Ŗ:PySem.W.takesIn K (.builtin "object.__class__")=some true
 hm:∀ i,i<4->PySem.W.mroIn K (MC i) (.type "object")=some true
 kM:∀ i,i<4->kitOne K (.ref (MC i)) (.ref MS)=some true
section
variable {P:Program}{w:World}{K:Frag}{mg:Str->Option Value}{base:Heap}{C MC:Nat->Addr}{MS f a0 a1 a2 a3 a4 a5 a6:Addr}{fd d0 d1 d2 d3 d4 d5 d6:FuncData}
structure Dl (P:Program)(w:World)(K:Frag)(mg:Str->Option Value)(base:Heap)(C MC:Nat->Addr)(MS a0 a1 a2 a3 a4 a5 a6:Addr)(d0 d1 d2 d3 d4 d5 d6:FuncData):Prop where
 tk:Df P w K mg base av 1 "_law_take" ["_law_script","_law_pen","_law_many"] (dJ K) a0 d0
 rl:Df P w K mg base av 9 "_law_rule" ["_law_script","_law_pen","_law_most"] (zp K C) a1 d1
 oc:Df P w K mg base av 2 "_law_outcomes" ["_law_script","_law_pen","_law_folk_here","_law_sure"] (A6 K) a2 d2
 fo:Df P w K mg base av 1 "_law_folk" ["_law_blocks"] xF a3 d3
 pd:Df P w K mg base av 8 "_law_parted" ["_law_script","_law_pen","_law_folk_here"] (AM K C) a4 d4
 ms:Df P w K mg base av 4 "_law_measures" [] (wr MC) a5 d5
 rt:Df P w K mg base av 11 "_law_right" ["_law_word","_law_measure","_law_rule_here","_law_blocks","_law_outcomes_here"] (Am C MC) a6 d6
 wd:bJ P w K mg base av 1 "word" ["self"] (j5 MC) (λ _=>pj MC)
 tl:bJ P w K mg base av 1 "told" ["self"] (j5 MC) (λ _=>p8 MC)
 N:qG K
 Z:KM K MC
 Zi:AQ K MC MS
 mM:mg "Measure" = some (.ref MS)
 mi:mg "isinstance" = none
 mr:mg "range" = none
 mt:mg "int" = none
 mn:mg "len" = none
abbrev i9:Stmt:=bX 76
abbrev Aj (i:Nat):Stmt:=(au i9).getD i (.Pass ⟨0,0,0,0⟩)
abbrev Er:List Str:=["_law_script","_law_pen","_law_several","_law_k","_law_rule_here","_law_blocks","_law_measures_here","_law_outcomes_here","_law_word","_law_measure"]
theorem JR:ad Er ["_law_script"] (aa i9):=aM
def DG:List V->Hp->VK->Prop:=λ xs H Q=>(∃ i,xs=[.int i]/\Q (.int i) H)\/∃ k,xs=[.bl k]/\Q (.int (if k then 1 else 0)) H
def EH (K:Frag):TE:=aJ (cT K) (bM (ah (aJ (cT K) (bM (ah (tC (.int 8)) (ah (tC (.int 20)) aF))) (gH DG (ah (aJ pP (eV K (tC (.int 6))) (tC (.int 0))) aF))) (ah (tC (.int 3)) aF))) (af 3)
def Ij (K:Frag):TG:=ib K 2 (bE (aW 4) (bE (aW 5) gI))
def EM (K:Frag)(C:Nat->Addr):TS:=cH (gn (zp K C) [] E0 (ah (af 0) (ah (af 1) (ah (EH K) aF)))) (Ij K)
def FN (K:Frag):TE:=gn (A6 K) [] E0 (ah (af 0) (ah (af 1) (ah (gn xF [] E0 (ah (af 5) aF)) (ah (aJ pP (eV K (tC (.int 2))) (tC (.int 0))) aF))))
def yh (K:Frag):TS:=jb K 2 (dw (ah (af 4) (ah (af 5) (ah (FN K) aF))))
def Ho (K:Frag)(C:Nat->Addr):TS:=gC (nE (ah (tC (.int 2)) aF)) (aW 3) (aH (EM K C) (yh K))
def ur (K:Frag):TE:=aJ (jG K) (aJ (cT K) (af 2) (tC (.int 0))) (tC (.int 2))
def DE (K:Frag)(te:TE):TE:=gH (λ xs H Q=>∃ p ys,xs=[.ref p]/\(Ã K H p ys\/Ì K H p ys)/\Q (.int ys.length) H) (ah te aF)
def Gc (K:Frag)(C:Nat->Addr):TS:=cH (gn (AM K C) [] E0 (ah (af 0) (ah (af 1) (ah (DE K (ur K)) aF)))) (Ij K)
def E9 (K:Frag):TS:=jb K 2 (dw (ah (af 4) (ah (af 5) (ah (ur K) aF))))
def FH (K:Frag)(C:Nat->Addr):TS:=dz (tB (aJ (lJ K) (ur K) (bM aF))) (aH (Gc K C) (E9 K)) bS
def IM (MC:Nat->Addr):TS:=cH (gn (wr MC) [] E0 aF) (aW 6)
def Hw (K:Frag)(MC:Nat->Addr)(MS:Addr):TT:=xh (qW (tB (gH (Cr K) (ah (af 9) (ah (tC (.ref MS)) aF))))) (xh (tB (aJ Fw (cE (j5 MC) "word" (λ _=>pj MC) E0 (af 9) aF) (af 8))) (tB (aJ (oH not) (cE (j5 MC) "told" (λ _=>p8 MC) E0 (af 9) aF) (dw (ah (af 8) aF)))))
def Cn:TS:=bN (tC (.bl false))
def zG (K:Frag)(C MC:Nat->Addr)(MS:Addr):TS:=aH (dz (Hw K MC MS) Cn bS) (dz (qW (tB (gn (Am C MC) [] E0 (ah (af 8) (ah (af 9) (ah (af 4) (ah (af 5) (ah (af 7) aF)))))))) Cn bS)
def DR (K:Frag)(C MC:Nat->Addr)(MS:Addr):TS:=aH (cH (aJ (cT K) (af 2) (af 3)) (ib K 3 (bE (aW 4) (bE (aW 5) (bE (aW 7) gI))))) (gC (bC K (af 6)) (ib K 2 (bE (aW 8) (bE (aW 9) gI))) (zG K C MC MS))
def ID (K:Frag):TE:=bM (ah (tC (.int 0)) (ah (tC (.int 1)) (ah (aJ (c8 λ i j=>.int (i-j)) (nB K 2) (tC (.int 1))) (ah (tC (.int 0)) aF))))
def F4 (K:Frag)(C MC:Nat->Addr)(MS:Addr):TS:=gC (bC K (ID K)) (aW 3) (DR K C MC MS)
def EL (K:Frag)(C MC:Nat->Addr)(MS:Addr):TS:=aH (cH (mx K (ah (tC (.int 0)) (ah (tC (.int 0)) (ah (tC (.int 7)) aF)))) (aW 1)) (aH (cH (mx K aF) (aW 2)) (aH (Ho K C) (aH (FH K C) (aH (IM MC) (aH (F4 K C MC MS) (bN (tC (.bl true))))))))
section
variable {cdv:Value}{A:Around}{outer:List Env}{s:Shared}{H:Hp}{E:XK}(D:Dl P w K mg base C MC MS a0 a1 a2 a3 a4 a5 a6 d0 d1 d2 d3 d4 d5 d6)(hr:qI 11 "law" i9 A s f cdv)
include D hr
theorem Gi:Bx (PS (aV av P w K mg base Er "law" (aa i9) f cdv A outer s H E).ä (Aj 2) (Ho K C)):=by
 have nd:=JR.nd;have Û:Ä 1 _:=hr.mono (by decide)
 have Ł:Ä 2 _:=hr.mono (by decide)
 have Wy:Ä 9 _:=hr.mono (by decide)
 exact⟨bZ PassesOwn.never rfl (fY rfl D.mr (ac ay ak)) (bV (i:=3) nd rfl (Or.inl rfl))
  (cw (ft (bU D.rl.G Wy rfl D.rl.m D.rl.kp D.rl.b .nil aj (ac (pv 0) (ac (pv 1) (ac (cy fL (cj (ac (cy fL (cj (ac ay (ac ay ak))) (aO gX rfl D.mt PyProof.Rows.boot_int (ac (cC cr (bU D.tk.G Û rfl D.tk.m D.tk.kp D.tk.b .nil aj (ac (pv 0) (ac (pv 1) (ac ay ak)))) ay (ar _)) ak))) (ac ay ak))) (pv 3)) ak))))
    (bq rfl (dq (bV (i:=4) nd rfl (Or.inl rfl)) (dq (bV (i:=5) nd rfl (Or.inl rfl)) aU))))
  (aY (aq (dF PySem.F.plainAttrs_list PySem.F.slot_list_append PySem.F.type_list_append bh (pv 2) (ac (aI (ac (pv 4) (ac (pv 5) (ac (bU D.oc.G Ł rfl D.oc.m D.oc.kp D.oc.b .nil aj (ac (pv 0) (ac (pv 1) (ac (bU D.fo.G Û rfl D.fo.m D.fo.kp D.fo.b .nil aj (ac (pv 5) ak)) (ac (cC cr (bU D.tk.G Û rfl D.tk.m D.tk.kp D.tk.b .nil aj (ac (pv 0) (ac (pv 1) (ac ay ak)))) ay (ar _)) ak))))) ak)))) ak)))))⟩
theorem Hd:Bx (PS (aV av P w K mg base Er "law" (aa i9) f cdv A outer s H E).ä (Aj 3) (FH K C)):=by
 have nd:=JR.nd;have OD:Ä 8 _:=hr.mono (by decide)
 have Qv:=hr.ş;exact⟨bo (ao (jA Qv) (cy gF (cy fL (pv 2) ay) ay) (cj ak) (ar _))
  (cw (ft (bU D.pd.G OD rfl D.pd.m D.pd.kp D.pd.b .nil aj (ac (pv 0) (ac (pv 1) (ac (am aG rfl D.mn PySem.boot_len (ac (cy gF (cy fL (pv 2) ay) ay) ak)) ak)))) (bq rfl (dq (bV (i:=4) nd rfl (Or.inl rfl)) (dq (bV (i:=5) nd rfl (Or.inl rfl)) aU))))
  (aY (aq (dF PySem.F.plainAttrs_list PySem.F.slot_list_append PySem.F.type_list_append bh (pv 2) (ac (aI (ac (pv 4) (ac (pv 5) (ac (cy gF (cy fL (pv 2) ay) ay) ak)))) ak))))) gG⟩
theorem Hs:Bx (PS (aV av P w K mg base Er "law" (aa i9) f cdv A outer s H E).ä (Aj 5) (F4 K C MC MS)):=by
 have nd:=JR.nd;have Û:Ä 1 _:=hr.mono (by decide)
 have hu:=hr.units;exact⟨bZ PassesOwn.never rfl (aR (cj (ac ay (ac ay (ac (ax fR (am aG rfl D.mn PySem.boot_len (ac (pv 2) ak)) ay) (ac ay ak)))))) (bV (i:=3) nd rfl (Or.inl rfl))
  (cw (ft (cy fL (pv 2) (pv 3)) (bq rfl (dq (bV (i:=4) nd rfl (Or.inl rfl)) (dq (bV (i:=5) nd rfl (Or.inl rfl)) (dq (bV (i:=7) nd rfl (Or.inl rfl)) aU)))))
  (aY (bZ PassesOwn.never rfl (aR (pv 6)) (bq rfl (dq (bV (i:=8) nd rfl (Or.inl rfl)) (dq (bV (i:=9) nd rfl (Or.inl rfl)) aU)))
   (cw (bo (PW.pt (fD (cu (bI (am (ng D.N) rfl D.mi PyProof.Rows.boot_isinstance (ac (pv 9) (ac (bT (v:=.ref MS) rfl D.mM rfl) ak))))) (fD (ao jr (bB (pv 9) D.wd Û aj) (pv 8) (ar _)) (fc (ao (oU hu) (bB (pv 9) D.tl Û aj) (aI (ac (pv 8) ak)) (ar _)))))) (aY (cZ ug)) gG)
   (aY (bo (cu (bI (bU D.rt.G hr rfl D.rt.m D.rt.kp D.rt.b .nil aj (ac (pv 8) (ac (pv 9) (ac (pv 4) (ac (pv 5) (ac (pv 7) ak)))))))) (aY (cZ ug)) gG))))))⟩
theorem uZ:Bx (ü (aV av P w K mg base Er "law" (aa i9) f cdv A outer s H E).ä (au i9) (EL K C MC MS)):=by
 have nd:=JR.nd;have Wz:Ä 4 _:=hr.mono (by decide)
 exact cI (aX (i:=1) nd rfl (Or.inl rfl) ⟨pT (ac ay (ac ay (ac ay ak)))⟩) (cI (aX (i:=2) nd rfl (Or.inl rfl) ⟨pT ak⟩) (cI (Gi D hr) (cI (Hd D hr)
  (cI (aX (i:=6) nd rfl (Or.inl rfl) ⟨rN D.ms.G Wz rfl D.ms.m D.ms.kp D.ms.b .nil aj⟩) (cI (Hs D hr) (be ⟨cZ ug⟩))))))
end
end
def IG (C:Nat->Addr)(G:Hp)(x:V)(t:Rl)(os:List (Int × Bool)):Prop:=∃ a v D l zs xs,x=.ref a/\G a=some (.tup [v,.ref D,.ref l])/\Ru C G t v/\t.flat/\t.ok/\G D=some (.lst zs)/\Á G zs (t.bl.map gy)/\G l=some (.lst xs)/\Á G xs (os.map kH)/\sw os/\t.À =(os.length:Nat)
def Kz (C:Nat->Addr)(G:Hp)(x:V):Prop:=∃ t os,IG C G x t os
theorem Kz.ext {C:Nat->Addr}{G G':Hp}{x:V}(h:Kz C G x)(e:Ext G G'):Kz C G' x:=by
 obtain⟨t,os,a,v,D,l,zs,xs,rfl,ha,ru,fl,ok,hD,ra,hl,ro,bd,fk⟩:=h;exact⟨t,os,a,v,D,l,zs,xs,rfl,e _ _ ha,ru.ext e,fl,ok,e _ _ hD,ra.mono e,e _ _ hl,ro.mono e,bd,fk⟩
theorem Ez:∀(os:List (Int × Bool)),Õ (os.map kH)=true:=λ os=>f8 λ d hd=>by
 obtain⟨o,_,rfl⟩:=List.mem_map.mp hd;simp [kH,bP,Õ]
theorem tf {G:Hp}{sv:Addr}{ys zs:List V}(hs:G sv=some (.lst ys))(rf:∀ y∈ys,∃ a,y=.ref a):∀{B:List Bk},(∀ b∈B,b.2 ≠ [])->Á G zs (B.map gy)->Á (wo G sv) zs (B.map gy):=by
 intro B
 induction B generalizing zs with
 | nil=>intro _ h;cases h;exact .nil
 | cons b B ih =>
  intro ne h;cases h with
  | cons r t =>
   refine .cons ?_ (ih (λ x hx=>ne x (List.mem_cons_of_mem _ hx)) t);obtain⟨a,l,rfl,ha,hl⟩:=iC r;refine nK (aK (λ e=>by rw [e,hs] at ha;cases ha) ha) (aK (λ e=>?_) hl)
   rw [e,hs] at hl;have hn:=ne b (List.mem_cons_self ..);cases eb:b.2 with
   | nil=>exact hn eb
   | cons i is =>
    rw [eb] at hl;cases hl;obtain⟨_,z⟩:=rf (.int i) (List.mem_cons_self ..);cases z
theorem xz {t:Rl}(ok:t.ok)(fl:t.flat):∀ b∈t.bl,b.2 ≠ []:=λ b hb=>by
 obtain⟨ns,h1,h2,_⟩:=gA ok fl;refine kF ns 0 h1 b.2 ?_;rw [<- h2,<- dP ok fl];exact List.mem_map.mpr ⟨b,hb,rfl⟩
theorem ld {G:Hp}{sv:Addr}{ys:List V}(hs:G sv=some (.lst ys)):rV G (wo G sv):=λ a o e n=>aK (λ z=>by subst z;rw [hs] at e;cases e;exact n _ rfl) e
structure Rows (K:Frag)(C:Nat->Addr)(H:Hp)(sA p sv:Addr)(ns:List Int)(ys:List V):Prop where
 sc:Sc K H sA p ns
 np:sv≠p
 ns:sA≠sv
 hs:H sv=some (.lst ys)
 it:∀ y∈ys,Kz C (wt H p sv) y
theorem Kz.ref {C:Nat->Addr}{G:Hp}{y:V}(h:Kz C G y):∃ a,y=.ref a:=by
 obtain⟨_,_,a,_,_,_,_,_,e,_⟩:=h;exact⟨a,e⟩
theorem Rows.go {K:Frag}{C:Nat->Addr}{H H':Hp}{sA p sv:Addr}{ns:List Int}{ys:List V}(h:Rows K C H sA p sv ns ys)(sc:Sc K H' sA p ns)(x:Ext (wo H p) (wo H' p)):Rows K C H' sA p sv ns ys :=
 ⟨sc,h.np,h.ns,ai _ _ _ _ (x _ _ (aK h.np h.hs)),λ y hy=>(h.it y hy).ext (aB (x.kept sv))⟩
theorem Rows.ext {K:Frag}{C:Nat->Addr}{H H':Hp}{sA p sv:Addr}{ns:List Int}{ys:List V}(h:Rows K C H sA p sv ns ys)(x:Ext H H'):Rows K C H' sA p sv ns ys:=h.go (h.sc.ext x) (ba x p)
theorem Rows.put {K:Frag}{C:Nat->Addr}{H:Hp}{sA p sv a:Addr}{ns:List Int}{ys:List V}(h:Rows K C H sA p sv ns ys)(it:Kz C (wt H p sv) (.ref a)):Rows K C (ae H sv (.lst (ys ++ [.ref a]))) sA p sv ns (ys ++ [.ref a]):=by
 have b:=h.sc.bx.up (l:=sv) (o:=.lst (ys ++ [.ref a])) h.np;refine⟨⟨?_,h.sc.Jj,h.sc.ne,b⟩,h.np,h.ns,aL,λ y hy=>?_⟩
 ·rcases h.sc.sq with(e | ⟨o,e⟩) | e
  ·exact .inl (.inl (by rw [ag h.ns];exact e))
  ·exact .inl (.inr ⟨o,by rw [ag h.ns];exact e⟩)
  ·exact .inr e
 ·rcases List.mem_append.mp hy with z | z
  ·exact(h.it y z).ext ja
  ·rw [List.mem_singleton.mp z];exact it.ext ja
section
variable {P:Program}{w:World}{K:Frag}{mg:Str->Option Value}{base:Heap}{C MC:Nat->Addr}{MS:Addr}{De:bA}{u:TS}{H:Hp}{sA p sv:Addr}{ns:List Int}{ys:List V}{o4 o5 o6 o7 o8 o9:Option V}
theorem yt {σ:St}{R:VK}{i:Nat}(sc:Sc K H sA p ns)(s0:σ[0]?=some (some (.ref sA)))(s1:σ[1]?=some (some (.ref p)))(s3:σ[3]?=some (some (.int (0+(i:Int)))))(hi:i<2)(k:∀ m H',1<=m->m<=20->Sc K H' sA p ns->Ext (wo H p) (wo H' p)->R (.int m) H'):EH K σ H R:=by
 refine⟨by show 2<=sizeLine;decide,λ l0 h0=>?_⟩
 have x0:=Ext.new (o:=.lst [V.int 8,.int 20]) h0;have g0:ae H l0 (.lst [V.int 8,.int 20]) l0=some (.lst [V.int 8,.int 20]):=aL;have n0:=sc.bx.ne h0;have Ts:=sc.ext x0;show eV K (tC (.int 6)) _ (ae H l0 (.lst [V.int 8,.int 20])) _;generalize ae H l0 (.lst [V.int 8,.int 20])=H0 at x0 g0 Ts ⊢;refine bp Ts s0 s1 (λ R r=>r) (by decide) (by decide) λ z H1 z0 z6 é k1=>⟨rfl,.inr ⟨_,rfl,?_⟩⟩
 have g1:=k1 _ _ g0 n0;have xa:Ext (wo H p) (wo H1 p):=(ba x0 p).trans (aB k1);obtain⟨j,b,ej,eb,b1,b2⟩:∃(j:Nat)(b:Int),(if decide (V.int z=V.int 0)=true then(1:Int) else 0)=(j:Nat)/\([V.int 8,.int 20]:List V)[j]?=some (.int b)/\1<=b/\b<=20:=by
  by_cases e:z=0
  ·exact⟨1,20,by rw [decide_eq_true (by rw [e])];rfl,rfl,by decide,by decide⟩
  ·exact⟨0,8,by rw [decide_eq_false (λ q=>e (V.int.inj q))];rfl,rfl,by decide,by decide⟩
 refine⟨l0,_,_,.int b,rfl,rfl,Ã.of g1,by rw [ej];exact cX eb,by show 2<=sizeLine;decide,λ l1 h1=>?_⟩
 have x1:=Ext.new (o:=.lst [V.int b,.int 3]) h1;have g2:ae H1 l1 (.lst [V.int b,.int 3]) l1=some (.lst [V.int b,.int 3]):=aL;have Ā:=é.ext x1;obtain⟨m,em,m1,m2⟩:∃ m:Int,([V.int b,.int 3]:List V)[i]?=some (.int m)/\1<=m/\m<=20:=by
  match i,hi with
  | 0,_=>exact⟨b,rfl,b1,b2⟩
  | 1,_=>exact⟨3,rfl,by decide,by decide⟩
 exact⟨_,s3,l1,_,_,.int m,rfl,rfl,Ã.of g2,by rw [Int.zero_add];exact cX em,k m _ m1 m2 Ā (xa.trans (ba x1 p))⟩
theorem EY {i:Nat}(hi:i<2)(h:Rows K C H sA p sv ns ys)(ly:ys.length<=4)(nx:∀ a o4 o5 H',Rows K C H' sA p sv ns (ys ++ [.ref a])->De.nx [some (.ref sA),some (.ref p),some (.ref sv),some (.int (0+(i:Int))),o4,o5,o6,o7,o8,o9] H') :
  aH (EM K C) (yh K) De [some (.ref sA),some (.ref p),some (.ref sv),some (.int (0+(i:Int))),o4,o5,o6,o7,o8,o9] H:=by
 refine⟨_,rfl,_,rfl,yt (i:=i) h.sc rfl rfl rfl hi λ m H1 m1 m2 é x1=>⟨sA,p,ns,m,rfl,é,m1,m2,λ a v D zs t H2 Ā x2 nD ha ru fl ok hD ra=>?_⟩⟩;have h1:=h.go é x1;have h2:=h1.go Ā x2;refine⟨a,_,rfl,Ì.of (ai _ _ _ _ ha),rfl,_,_,rfl,_,_,rfl,rfl,?_⟩;have Qx:D≠sv:=λ e=>by rw [e,aK h1.np h1.hs] at nD;cases nD
 have rf:∀ y∈ys,∃ a,y=.ref a:=λ y hy=>(h.it y hy).ref;have KU:wo H2 p sv=some (.lst ys):=aK h2.np h2.hs;have J5:Ru C (wt H2 p sv) t v:=ru.Ë (ld KU);have Ř:wt H2 p sv D=some (.lst zs):=aK Qx hD;have WA:Á (wt H2 p sv) zs (t.bl.map gy):=tf KU rf (xz ok fl) ra;have sm:=Rl.sm ok;have lb:t.bl.length<=20:=by
  have:=congrArg List.length (dP ok fl);rw [List.length_map] at this;have:=sm.1;omega
 have bf:=congrArg List.length (k9 ok fl);rw [bj] at bf;have fk:=Rl.È ok;show yh K De [some (.ref sA),some (.ref p),some (.ref sv),some (.int (0+(i:Int))),some v,some (.ref D),o6,o7,o8,o9] H2;refine⟨_,rfl,.inl ⟨rfl,_,Ã.of h2.hs⟩,_,rfl,_,rfl,_,rfl,_,rfl,_,rfl,D,zs,t.bl,rfl,ai _ _ _ _ hD,ra.mono (ai _ _),lb,λ H3 x3=>?_⟩;have h3:=h2.ext x3;show eV K (tC (.int 2)) _ H3 _;refine bp h3.sc rfl rfl (λ R r=>r) (by decide) (by decide) λ z H4 z0 z2 ų k4=>⟨rfl,?_⟩
 have h4:=h3.go ų (aB k4);refine⟨sA,p,ns,(t.bl.map (·.2)).flatten.length,_,rfl,ų,by omega,λ l xs os H5 IT x5 nl hl ro bd lo=>⟨by show 3<=sizeLine;decide,λ b hb=>?_⟩⟩
 have h5:=h4.go IT x5;have WB:l≠sv:=λ e=>by rw [e,aK h4.np h4.hs] at nl;cases nl
 have x6:=Ext.new (o:=.tup [v,.ref D,.ref l]) hb;have h6:=h5.ext x6;have g6:ae H5 b (.tup [v,.ref D,.ref l]) b=some (.tup [v,.ref D,.ref l]):=aL;have Qy:=IT.bx.ne hb;have Mi:b≠sv:=λ e=>by rw [e,h5.hs] at hb;cases hb
 generalize ae H5 b (.tup [v,.ref D,.ref l])=H6 at x6 h6 g6 ⊢;have ś:Ext (wt H2 p sv) (wt H6 p sv):=aB ((((ba x3 p).trans (aB k4)).trans x5).trans (ba x6 p) |>.kept sv);have Nn:Ext (wt H5 p sv) (wt H6 p sv):=iE x6 p sv;have WC:wo H5 p sv=some (.lst ys):=aK h5.np h5.hs;have it:Kz C (wt H6 p sv) (.ref b):=⟨t,os,b,v,D,l,zs,xs,rfl,gu Qy Mi g6,J5.ext ś,fl,ok,ś _ _ Ř,WA.mono ś,Nn _ _ (aK WB hl),(ro.Ë (ld WC) (Ez os)).mono Nn,bd,by omega⟩
 refine⟨sv,ys,.ref b,rfl,rfl,h6.hs,by rw [sizeLine_eq];omega,nx b _ _ _ (h6.put it)⟩
theorem CV {y0:V}{o3:Option V}(h:Rows K C H sA p sv ns ys)(ly:ys.length<=4)(e0:ys[0]?=some y0)(nx:∀ ŋ o4 o5 H',ys.length <= ŋ.length->ŋ.length<=ys.length+1->Rows K C H' sA p sv ns ŋ->u De [some (.ref sA),some (.ref p),some (.ref sv),o3,o4,o5,o6,o7,o8,o9] H') :
  aH (FH K C) u De [some (.ref sA),some (.ref p),some (.ref sv),o3,o4,o5,o6,o7,o8,o9] H:=by
 obtain⟨t0,os,a0,v0,D0,l,zs0,xs,rfl,WD,_,fl0,WE,_,_,hl,ro,bd,fk0⟩:=h.it y0 (List.mem_of_getElem? e0);have Sx:=Rl.È WE;have Qz:=ro.length;rw [List.length_map] at Qz;have QA:∀{H':Hp}{R:VK}{o3 o4 o5 o6 o7 o8 o9:Option V},Rows K C H' sA p sv ns ys->Ext (wt H p sv) (wt H' p sv)->R (.ref l) H'->ur K [some (.ref sA),some (.ref p),some (.ref sv),o3,o4,o5,o6,o7,o8,o9] H' R:=λ {H' R _ _ _ _ _ _ _} h' x' r=>⟨_,rfl,sv,ys,_,_,rfl,rfl,Ã.of h'.hs,cX (j:=0) e0,a0,_,_,_,rfl,rfl,Ì.of (jh _ _ _ _ _ (x' _ _ WD)),cX (j:=2) rfl,r⟩;refine QA h (Ext.refl _) ⟨by show 0<=sizeLine;decide,λ q hq=>?_⟩
 have x1:=Ext.new (o:=.lst []) hq;have g1:ae H q (.lst []) q=some (.lst []):=aL;have h1:=h.ext x1;generalize ae H q (.lst [])=H1 at x1 g1 h1 ⊢;have xa:Ext (wt H p sv) (wt H1 p sv):=iE x1 p sv;refine⟨l,q,xs,rfl,rfl,Ã.of (jh _ _ _ _ _ (xa _ _ hl)),Ã.of g1,_,rfl,?_⟩;cases QB:xs with
 | nil=>exact bY (nx ys _ _ H1 (Nat.le_refl _) (Nat.le_succ _) h1)
 | cons x0 xr =>
  rw [<- QB];have lp:1<=os.length:=by rw [<- Qz,QB];simp
  have et:(!xs.isEmpty)=true:=by rw [QB];rfl
  rw [et];refine cq ?_;refine⟨_,rfl,_,rfl,QA h1 xa ⟨l,xs,rfl,.inl (Ã.of (jh _ _ _ _ _ (xa _ _ hl))),?_⟩⟩;refine⟨sA,p,ns,xs.length,rfl,h1.sc,by omega,by omega,λ a v D zs rs H2 Ā x2 nD ha ru ok hD ra fk=>?_⟩
  have h2:=h1.go Ā x2;refine⟨a,_,rfl,Ì.of (ai _ _ _ _ ha),rfl,_,_,rfl,_,_,rfl,rfl,?_⟩;have Qx:D≠sv:=λ e=>by rw [e,aK h1.np h1.hs] at nD;cases nD
  have rf:∀ y∈ys,∃ a,y=.ref a:=λ y hy=>(h.it y hy).ref;have KU:wo H2 p sv=some (.lst ys):=aK h2.np h2.hs;have QC:Ext (wt H p sv) (wt H2 p sv):=xa.trans (aB (x2.kept sv));show E9 K _ [some (.ref sA),some (.ref p),some (.ref sv),o3,some v,some (.ref D),o6,o7,o8,o9] H2;refine⟨_,rfl,.inl ⟨rfl,_,Ã.of h2.hs⟩,_,rfl,_,rfl,QA h2 QC ⟨by show 3<=sizeLine;decide,λ b hb=>?_⟩⟩
  have x6:=Ext.new (o:=.tup [v,.ref D,.ref l]) hb;have h6:=h2.ext x6;have g6:ae H2 b (.tup [v,.ref D,.ref l]) b=some (.tup [v,.ref D,.ref l]):=aL;have Qy:=Ā.bx.ne hb;have Mi:b≠sv:=λ e=>by rw [e,h2.hs] at hb;cases hb
  generalize ae H2 b (.tup [v,.ref D,.ref l])=H6 at x6 h6 g6 ⊢;have ś:Ext (wt H2 p sv) (wt H6 p sv):=iE x6 p sv;have it:Kz C (wt H6 p sv) (.ref b):=⟨.blocks rs,os,b,v,D,l,zs,xs,rfl,gu Qy Mi g6,(ru.Ë (ld KU)).ext ś,trivial,ok,ś _ _ (aK Qx hD),(tf KU rf (xz ok trivial) ra).mono ś,ś _ _ (QC _ _ hl),(ro.mono QC).mono ś,bd,by rw [fk,Qz]⟩
  refine⟨sv,ys,.ref b,rfl,rfl,h6.hs,by rw [sizeLine_eq];omega,nx _ _ _ _ (by rw [List.length_append];omega) (by rw [List.length_append];exact Nat.le_refl _) (h6.put it)⟩
variable {f a0 a1 a2 a3 a4 a5 a6:Addr}{fd d0 d1 d2 d3 d4 d5 d6:FuncData}{ml:Addr}{o3:Option V}
theorem Me.kd {k:Nat}{v:V}(Z:KM K MC)(Zi:AQ K MC MS)(hk:k<4)(h:Me MC H k v):Kd K H v (.ref (MC k)):=by
 obtain⟨a,dx,m,rfl,ha,_⟩:=h;exact .inl (.ins ha (Z.cls k hk) (Zi.ha k hk) Zi.hn Zi.Ŗ (Zi.hm k hk))
theorem yL {G:Hp}{k:Nat}{um v:V}{D l:Addr}{zs xs:List V}{t:Rl}{os:List (Int × Bool)}(Z:KM K MC)(Zi:AQ K MC MS)(hk:k<4)(me:Me MC H k um)(xg:Ext G H)(ru:Ru C G t v)(fl:t.flat)(ok:t.ok)(hD:G D=some (.lst zs))(ra:Á G zs (t.bl.map gy))(hl:G l=some (.lst xs))(ro:Á G xs (os.map kH))(bd:sw os)(fk:t.À =(os.length:Nat))
  (nx:∀ H',Ext H H'->De.nx [some (.ref sA),some (.ref p),some (.ref sv),o3,some v,some (.ref D),o6,some (.ref l),some (.str (aE k)),some um] H'):zG K C MC MS De [some (.ref sA),some (.ref p),some (.ref sv),o3,some v,some (.ref D),o6,some (.ref l),some (.str (aE k)),some um] H:=by
 refine pF ?_;refine⟨_,rfl,um,MS,_,_,rfl,me.kd Z Zi hk,Zi.kM k hk,_,rfl,bY ?_⟩;refine eR (by decide +kernel) hk me (λ R r=>⟨_,rfl,r⟩) ⟨um,k,rfl,hk,me,_,rfl,rfl,_,rfl,?_⟩
 rw [decide_eq_true rfl];refine bY (eR (by decide +kernel) hk me (λ R r=>⟨_,rfl,r⟩) ⟨um,k,rfl,hk,me,λ m hm=>⟨_,rfl,by show 1<=sizeLine;decide,λ t1 WG=>?_⟩⟩)
 have x1:=Ext.new (o:=.tup [.str (aE k)]) WG;have g1:ae H t1 (.tup [.str (aE k)]) t1=some (.tup [.str (aE k)]):=aL;generalize ae H t1 (.tup [.str (aE k)])=H1 at x1 g1 ⊢;have pl:aN (.tuple [.str (aE k)])=true:=by simp [aN,Ê]
 refine⟨.tuple [.str (aE k)],.tuple [.str (aE k)],.tup (x1 _ _ hm) (.cons (.str _) .nil),.tup g1 (.cons (.str _) .nil),pl,pl,by simp [PyData.depth,PyData.depthAll],_,rfl,?_⟩
 rw [eO pl];have Ml:=xg.trans x1;refine bY ⟨_,rfl,_,rfl,_,rfl,_,rfl,_,rfl,k,um,v,t,D,zs,l,xs,os,rfl,⟨hk,me.ext x1,ru.ext Ml,ok,fl,Ml _ _ hl,Dq (ro.mono Ml),bd,fk⟩,ro.mono Ml,Ml _ _ hD,ra.mono Ml,λ H2 x2=>⟨_,rfl,bY (nx H2 (x1.trans x2))⟩⟩
theorem Ag {i:Nat}{y v0 v1 v2 v3:V}(Z:KM K MC)(Zi:AQ K MC MS)(h:Rows K C H sA p sv ns ys)(ei:ys[i]?=some y)(hm:H ml=some (.lst [v0,v1,v2,v3]))(p0:ő MC H 0 v0)(p1:ő MC H 1 v1)(p2:ő MC H 2 v2)(p3:ő MC H 3 v3)
  (nx:∀ o4 o5 o7 o8 o9 H',Ext H H'->De.nx [some (.ref sA),some (.ref p),some (.ref sv),some (.int (i:Nat)),o4,o5,some (.ref ml),o7,o8,o9] H'):DR K C MC MS De [some (.ref sA),some (.ref p),some (.ref sv),some (.int (i:Nat)),o4,o5,some (.ref ml),o7,o8,o9] H:=by
 obtain⟨t,os,a,v,D,l,zs,xs,rfl,ha,ru,fl,ok,hD,ra,hl,ro,bd,fk⟩:=h.it y (List.mem_of_getElem? ei);have xw:Ext (wt H p sv) H:=jh _ _ _;refine⟨_,rfl,_,rfl,sv,ys,_,_,rfl,rfl,Ã.of h.hs,cX ei,a,_,rfl,Ì.of (xw _ _ ha),rfl,_,_,rfl,_,_,rfl,_,_,rfl,rfl,?_⟩;refine⟨_,rfl,ml,rfl,⟨_,Ã.of hm⟩,cL (xs:=[v0,v1,v2,v3]) (λ j σ H'=>∃ o8 o9,σ=[some (.ref sA),some (.ref p),some (.ref sv),some (.int (i:Nat)),some v,some (.ref D),some (.ref ml),some (.ref l),o8,o9]/\Ext H H') ⟨_,_,rfl,Ext.refl _⟩ ?_ ?_ ?_⟩
 ·rintro j σ H' _ ⟨o8,o9,rfl,x'⟩;exact Ã.of (x' _ _ hm)
 ·rintro j x σ H' ex ⟨o8,o9,rfl,x'⟩;have one:∀ k,k<4->ő MC H k x->ib K 2 (bE (aW 8) (bE (aW 9) gI)) x [some (.ref sA),some (.ref p),some (.ref sv),some (.int (i:Nat)),some v,some (.ref D),some (.ref ml),some (.ref l),o8,o9] H' λ Ù H2=>zG K C MC MS { De with nx:=λ σ H'=>∃ o8 o9,σ=[some (.ref sA),some (.ref p),some (.ref sv),some (.int (i:Nat)),some v,some (.ref D),some (.ref ml),some (.ref l),o8,o9]/\Ext H H',ct:=λ σ H'=>∃ o8 o9,σ=[some (.ref sA),some (.ref p),some (.ref sv),some (.int (i:Nat)),some v,some (.ref D),some (.ref ml),some (.ref l),o8,o9]/\Ext H H',bk:=De.nx } Ù H2:=by
   rintro k hk ⟨b,um,rfl,hb,me⟩;refine⟨b,_,rfl,Ì.of (x' _ _ hb),rfl,_,_,rfl,_,_,rfl,rfl,?_⟩;exact yL Z Zi hk (me.ext x') (xw.trans x') ru fl ok hD ra hl ro bd fk λ H2 x2=>⟨_,_,rfl,x'.trans x2⟩
  match j,ex with
  | 0,ex=>cases ex;exact one 0 (by decide) p0
  | 1,ex=>cases ex;exact one 1 (by decide) p1
  | 2,ex=>cases ex;exact one 2 (by decide) p2
  | 3,ex=>cases ex;exact one 3 (by decide) p3
  | n+4,ex=>simp at ex
 ·rintro σ H' ⟨o8,o9,rfl,x'⟩;exact nx _ _ _ _ _ H' x'
theorem Cs {v0 v1 v2 v3:V}(Z:KM K MC)(Zi:AQ K MC MS)(h:Rows K C H sA p sv ns ys)(l2:2<=ys.length)(l4:ys.length<=4)(hm:H ml=some (.lst [v0,v1,v2,v3]))(p0:ő MC H 0 v0)(p1:ő MC H 1 v1)(p2:ő MC H 2 v2)(p3:ő MC H 3 v3)(q:∀ σ H',u De σ H'):aH (F4 K C MC MS) u De [some (.ref sA),some (.ref p),some (.ref sv),o3,o4,o5,some (.ref ml),o7,o8,o9] H:=by
 refine⟨_,rfl,sv,ys,rfl,.inl (Ã.of h.hs),_,_,rfl,rfl,by show 4<=sizeLine;decide,λ kl WH=>?_⟩
 have x1:=Ext.new (o:=.lst [V.int 0,.int 1,.int (((ys.length:Nat):Int)-1),.int 0]) WH;have g1:ae H kl (.lst [V.int 0,.int 1,.int (((ys.length:Nat):Int)-1),.int 0]) kl=some (.lst [V.int 0,.int 1,.int (((ys.length:Nat):Int)-1),.int 0]):=aL;refine⟨kl,rfl,⟨_,Ã.of g1⟩,?_⟩;show ∃ W:Nat->Nat->St->Hp->Prop,_;generalize ae H kl (.lst [V.int 0,.int 1,.int (((ys.length:Nat):Int)-1),.int 0])=H1 at x1 g1 ⊢;refine cL (K:=K) (a:=kl) (xs:=[V.int 0,.int 1,.int (((ys.length:Nat):Int)-1),.int 0]) (λ j σ H'=>∃ o3 o4 o5 o7 o8 o9,σ=[some (.ref sA),some (.ref p),some (.ref sv),o3,o4,o5,some (.ref ml),o7,o8,o9]/\Ext H1 H') ⟨_,_,_,_,_,_,rfl,Ext.refl _⟩ ?_ ?_ ?_
 ·rintro j σ H' _ ⟨o3,o4,o5,o7,o8,o9,rfl,x'⟩;exact Ã.of (x' _ _ g1)
 ·rintro j x σ H' ex ⟨o3,o4,o5,o7,o8,o9,rfl,x'⟩;have xx:=x1.trans x';obtain⟨i,li,rfl⟩:∃ i:Nat,i<ys.length/\x=.int (i:Nat):=by
   match j,ex with
   | 0,ex=>cases ex;exact⟨0,by omega,rfl⟩
   | 1,ex=>cases ex;exact⟨1,by omega,rfl⟩
   | 2,ex=>cases ex;exact⟨ys.length-1,by omega,congrArg V.int (by omega)⟩
   | 3,ex=>cases ex;exact⟨0,by omega,rfl⟩
   | n+4,ex=>simp at ex
  exact Ag Z Zi (h.ext xx) (List.getElem?_eq_getElem li) (xx _ _ hm) (p0.ext xx) (p1.ext xx) (p2.ext xx) (p3.ext xx) λ o4 o5 o7 o8 o9 H2 x2=>⟨_,_,_,_,_,_,rfl,x'.trans x2⟩
 ·rintro σ H' _;exact q σ H'
def pA (K:Frag):Sp:=λ vs H Q _=>∃(a:Addr)(ns:List Int),vs=[.ref a]/\Ã K H a (ns.map V.int)/\ns.length<=63/\H sysModules=none/\∀ H',Q (.bl true) H'
theorem zb {a:Addr}{o1 o2:Option V}(Z:KM K MC)(Zi:AQ K MC MS)(ha:Ã K H a (ns.map V.int))(Jj:ns.length<=63)(q:∀ H',De.rt (.bl true) H'):Bx (EL K C MC MS De [some (.ref a),o1,o2,o3,o4,o5,o6,o7,o8,o9] H):=by
 constructor;refine aQ (te:=mx K (ah (tC (.int 0)) (ah (tC (.int 0)) (ah (tC (.int 7)) aF)))) (i:=1) ⟨by show 3<=sizeLine;decide,λ p hp hk=>?_⟩
 have np:=Ã.neN ha hp hk;have c:Sc K (ae H p (.lst [.int 0,.int 0,.int 7])) a p ns:=⟨My.Ã.ext ha (Ext.new hp),Jj,np,⟨0,0,7,aL,by decide,by decide,by decide,by decide⟩⟩
 generalize ae H p (.lst [.int 0,.int 0,.int 7])=H1 at c ⊢;refine aQ (te:=mx K aF) (i:=2) ⟨by show 0<=sizeLine;decide,λ sv Ń Px=>?_⟩
 have x2:=Ext.new (o:=.lst []) Ń;have r0:Rows K C (ae H1 sv (.lst [])) a p sv ns []:=⟨c.ext x2,c.bx.ne Ń,Ã.neN c.sq Ń Px,aL,λ y hy=>nomatch hy⟩;show aH (Ho K C) _ De [some (.ref a),some (.ref p),some (.ref sv),o3,o4,o5,o6,o7,o8,o9] (ae H1 sv (.lst []));generalize ae H1 sv (.lst [])=H2 at x2 r0 ⊢;refine⟨2,rfl,by decide,by decide,kr (lo:=0) (n:=2) (λ i σ H'=>∃ ys o3 o4 o5,σ=[some (.ref a),some (.ref p),some (.ref sv),o3,o4,o5,o6,o7,o8,o9]/\ys.length=i/\Rows K C H' a p sv ns ys) ⟨[],_,_,_,rfl,rfl,r0⟩ ?_ ?_⟩
 ·rintro i σ H' hi ⟨ys,o3,o4,o5,rfl,ly,h⟩;exact EY hi h (by omega) λ b o4 o5 H3 h3=>⟨_,_,_,_,rfl,by rw [List.length_append,ly];rfl,h3⟩
 ·rintro σ H3 ⟨ys,o3,o4,o5,rfl,ly,h⟩;have l0:0<ys.length:=by omega
  refine CV h (by omega) (List.getElem?_eq_getElem l0) λ ŋ o4 o5 H4 le1 le2 h4=>?_
  refine aQ (te:=gn (wr MC) [] E0 aF) (i:=6) ⟨rfl,λ ml v0 v1 v2 v3 H5 x5 hm p0 p1 p2 p3=>?_⟩;exact Cs Z Zi (h4.ext x5) (by omega) (by omega) hm p0 p1 p2 p3 λ σ H6=>q H6
theorem yE (F:Ö K "law" "law" i9 f fd)(D:Dl P w K mg base C MC MS a0 a1 a2 a3 a4 a5 a6 d0 d1 d2 d3 d4 d5 d6):Â P w K mg base av 12 f fd ["_law_script"] (pA K):=by
 refine F.ok JR (λ vs H Q E h=>?_) (λ cdv A outer s H vs Q E hr h=>?_)
 ·obtain⟨a,ns,rfl,_⟩:=h;rfl
 obtain⟨a,ns,rfl,ha,Jj,hz,q⟩:=h;exact gK (uZ D hr) (zb D.Z D.Zi ha Jj q)
end
theorem Em {K:Frag}{D C f:Addr}{nm:Str}(T:Ø K D nm C f)(b:Value):mroIn K C b=some ((Value.ref C :: .ref D::pR).contains b):=by
 obtain⟨cd,h1,_,h3⟩:=T.clsIn;unfold mroIn;rw [h1,Option.bind_some,h3];rfl
theorem Ae {K:Frag}{D C f:Addr}{nm:Str}(T:Ø K D nm C f)(B:Ò K D):C≠D:=by
 intro e;obtain⟨q,N,bs,sn,sub,ab,col,dd,k0,k1,k2,k3,k5,l⟩:=T.cls;obtain⟨K8,q',N',QD,QE,L7,QF,L8,Jw,QG,M0,QH,QI,QJ,l',_⟩:=B.cls;rw [e,l'] at l;have z:=Option.some.inj l;injection z with _ _ z _
 injection z with z
 injection z with _ _ z
 cases z
theorem tX {K:Frag}{D C f C' f':Addr}{nm K8:Str}(T:Ø K D nm C f)(T':Ø K D K8 C' f')(h:nm≠K8):C'≠C:=by
 intro e;obtain⟨q,N,bs,sn,sub,ab,col,dd,k0,k1,k2,k3,k5,l⟩:=T.cls;obtain⟨q',N',QD,QE,L7,QF,L8,Jw,QG,M0,QH,QI,QJ,l'⟩:=T'.cls;rw [e,l] at l';have z:=Option.some.inj l';injection z with _ _ z _
 injection z with z
 injection z with z
 exact h z
theorem rZ {K:Frag}{D:Addr}(B:Ò K D):typeIn K (.ref D)=some (.type "type"):=by
 obtain⟨K8,q',N',QD,QE,L7,QF,L8,Jw,QG,M0,QH,QI,QJ,l',_⟩:=B.cls;show(List.lookup D K).map (·.cls)=_;rw [l'];rfl
theorem vZ {K:Frag}{D:Addr}(B:Ò K D):∃ cd,clsIn K D=some cd:=by
 obtain⟨K8,q',N',QD,QE,L7,QF,L8,Jw,QG,M0,QH,QI,QJ,l',_⟩:=B.cls;unfold clsIn;rw [l'];exact⟨_,rfl⟩
abbrev jQ:Stmt:=az (bX 2) 0
theorem As:ad ["self","found"] ["self","found"] (aa jQ):=aM
theorem GV {K:Frag}{mg:Str->Option Value}{D C f:Addr}{fd:FuncData}(B:Ò K D)(T:Ø K D "NoShare" C f)(mD:mg "DealError" = some (.ref D))(mC:mg "NoShare" = some (.ref C))(F:Ö K "__init__" "NoShare.__init__" jQ f fd)(tk:takerIn K C "found" = some none):fH K mg D "NoShare" "found" C f fd:=by
 refine⟨T,mC,λ P w base=>?_,F.binds λ _ _ _ _ _ _ us hl=>match us,hl with | [_,_],_=>rfl⟩
 refine F.ok As (λ vs H Q E h=>?_) (λ cdv A outer s H vs Q E hr h=>?_)
 ·obtain⟨x,v,rfl,_⟩:=h;rfl
 obtain⟨x,v,rfl,hx,q⟩:=h;refine⟨_,cw (aq (bD B T rfl mD (pv 0) aw)) (aY (fv T (pv 0) (pv 1) rfl)),?_⟩;exact⟨_,rfl,x,rfl,hx,_,rfl,_,rfl,x,rfl,hx,tk,q⟩
abbrev jS:Stmt:=az (bX 3) 0
theorem Bb:ad ["self","found"] ["self","found"] (aa jS):=aM
theorem HB {K:Frag}{mg:Str->Option Value}{D C f:Addr}{fd:FuncData}(B:Ò K D)(T:Ø K D "NoNumber" C f)(mD:mg "DealError" = some (.ref D))(mC:mg "NoNumber" = some (.ref C))(F:Ö K "__init__" "NoNumber.__init__" jS f fd)(tk:takerIn K C "found" = some none):fH K mg D "NoNumber" "found" C f fd:=by
 refine⟨T,mC,λ P w base=>?_,F.binds λ _ _ _ _ _ _ us hl=>match us,hl with | [_,_],_=>rfl⟩
 refine F.ok Bb (λ vs H Q E h=>?_) (λ cdv A outer s H vs Q E hr h=>?_)
 ·obtain⟨x,v,rfl,_⟩:=h;rfl
 obtain⟨x,v,rfl,hx,q⟩:=h;refine⟨_,cw (aq (bD B T rfl mD (pv 0) aw)) (aY (fv T (pv 0) (pv 1) rfl)),?_⟩;exact⟨_,rfl,x,rfl,hx,_,rfl,_,rfl,x,rfl,hx,tk,q⟩
abbrev kC:Stmt:=az (bX 4) 0
theorem zf:ad ["self","found"] ["self","found"] (aa kC):=aM
theorem F7 {K:Frag}{mg:Str->Option Value}{D C f:Addr}{fd:FuncData}(B:Ò K D)(T:Ø K D "NoFolk" C f)(mD:mg "DealError" = some (.ref D))(mC:mg "NoFolk" = some (.ref C))(F:Ö K "__init__" "NoFolk.__init__" kC f fd)(tk:takerIn K C "found" = some none):fH K mg D "NoFolk" "found" C f fd:=by
 refine⟨T,mC,λ P w base=>?_,F.binds λ _ _ _ _ _ _ us hl=>match us,hl with | [_,_],_=>rfl⟩
 refine F.ok zf (λ vs H Q E h=>?_) (λ cdv A outer s H vs Q E hr h=>?_)
 ·obtain⟨x,v,rfl,_⟩:=h;rfl
 obtain⟨x,v,rfl,hx,q⟩:=h;refine⟨_,cw (aq (bD B T rfl mD (pv 0) aw)) (aY (fv T (pv 0) (pv 1) rfl)),?_⟩;exact⟨_,rfl,x,rfl,hx,_,rfl,_,rfl,x,rfl,hx,tk,q⟩
abbrev jV:Stmt:=az (bX 5) 0
theorem A9:ad ["self","found"] ["self","found"] (aa jV):=aM
theorem FV {K:Frag}{mg:Str->Option Value}{D C f:Addr}{fd:FuncData}(B:Ò K D)(T:Ø K D "NoWeights" C f)(mD:mg "DealError" = some (.ref D))(mC:mg "NoWeights" = some (.ref C))(F:Ö K "__init__" "NoWeights.__init__" jV f fd)(tk:takerIn K C "found" = some none):fH K mg D "NoWeights" "found" C f fd:=by
 refine⟨T,mC,λ P w base=>?_,F.binds λ _ _ _ _ _ _ us hl=>match us,hl with | [_,_],_=>rfl⟩
 refine F.ok A9 (λ vs H Q E h=>?_) (λ cdv A outer s H vs Q E hr h=>?_)
 ·obtain⟨x,v,rfl,_⟩:=h;rfl
 obtain⟨x,v,rfl,hx,q⟩:=h;refine⟨_,cw (aq (bD B T rfl mD (pv 0) aw)) (aY (fv T (pv 0) (pv 1) rfl)),?_⟩;exact⟨_,rfl,x,rfl,hx,_,rfl,_,rfl,x,rfl,hx,tk,q⟩
abbrev kj:Stmt:=az (bX 6) 0
theorem yM:ad ["self","found"] ["self","found"] (aa kj):=aM
theorem GU {K:Frag}{mg:Str->Option Value}{D C f:Addr}{fd:FuncData}(B:Ò K D)(T:Ø K D "NoTrials" C f)(mD:mg "DealError" = some (.ref D))(mC:mg "NoTrials" = some (.ref C))(F:Ö K "__init__" "NoTrials.__init__" kj f fd)(tk:takerIn K C "found" = some none):fH K mg D "NoTrials" "found" C f fd:=by
 refine⟨T,mC,λ P w base=>?_,F.binds λ _ _ _ _ _ _ us hl=>match us,hl with | [_,_],_=>rfl⟩
 refine F.ok yM (λ vs H Q E h=>?_) (λ cdv A outer s H vs Q E hr h=>?_)
 ·obtain⟨x,v,rfl,_⟩:=h;rfl
 obtain⟨x,v,rfl,hx,q⟩:=h;refine⟨_,cw (aq (bD B T rfl mD (pv 0) aw)) (aY (fv T (pv 0) (pv 1) rfl)),?_⟩;exact⟨_,rfl,x,rfl,hx,_,rfl,_,rfl,x,rfl,hx,tk,q⟩
abbrev ke:Stmt:=az (bX 7) 0
theorem yU:ad ["self","place"] ["self","place"] (aa ke):=aM
theorem Hz {K:Frag}{mg:Str->Option Value}{D C f:Addr}{fd:FuncData}(B:Ò K D)(T:Ø K D "NoOutcome" C f)(mD:mg "DealError" = some (.ref D))(mC:mg "NoOutcome" = some (.ref C))(F:Ö K "__init__" "NoOutcome.__init__" ke f fd)(tk:takerIn K C "place" = some none):fH K mg D "NoOutcome" "place" C f fd:=by
 refine⟨T,mC,λ P w base=>?_,F.binds λ _ _ _ _ _ _ us hl=>match us,hl with | [_,_],_=>rfl⟩
 refine F.ok yU (λ vs H Q E h=>?_) (λ cdv A outer s H vs Q E hr h=>?_)
 ·obtain⟨x,v,rfl,_⟩:=h;rfl
 obtain⟨x,v,rfl,hx,q⟩:=h;refine⟨_,cw (aq (bD B T rfl mD (pv 0) aw)) (aY (fv T (pv 0) (pv 1) rfl)),?_⟩;exact⟨_,rfl,x,rfl,hx,_,rfl,_,rfl,x,rfl,hx,tk,q⟩
abbrev jP:Stmt:=az (bX 8) 0
theorem yI:ad ["self","place"] ["self","place"] (aa jP):=aM
theorem Gm {K:Frag}{mg:Str->Option Value}{D C f:Addr}{fd:FuncData}(B:Ò K D)(T:Ø K D "NotSure" C f)(mD:mg "DealError" = some (.ref D))(mC:mg "NotSure" = some (.ref C))(F:Ö K "__init__" "NotSure.__init__" jP f fd)(tk:takerIn K C "place" = some none):fH K mg D "NotSure" "place" C f fd:=by
 refine⟨T,mC,λ P w base=>?_,F.binds λ _ _ _ _ _ _ us hl=>match us,hl with | [_,_],_=>rfl⟩
 refine F.ok yI (λ vs H Q E h=>?_) (λ cdv A outer s H vs Q E hr h=>?_)
 ·obtain⟨x,v,rfl,_⟩:=h;rfl
 obtain⟨x,v,rfl,hx,q⟩:=h;refine⟨_,cw (aq (bD B T rfl mD (pv 0) aw)) (aY (fv T (pv 0) (pv 1) rfl)),?_⟩;exact⟨_,rfl,x,rfl,hx,_,rfl,_,rfl,x,rfl,hx,tk,q⟩
abbrev ko:Stmt:=az (bX 9) 0
theorem zA:ad ["self","block"] ["self","block"] (aa ko):=aM
theorem GF {K:Frag}{mg:Str->Option Value}{D C f:Addr}{fd:FuncData}(B:Ò K D)(T:Ø K D "NoPairs" C f)(mD:mg "DealError" = some (.ref D))(mC:mg "NoPairs" = some (.ref C))(F:Ö K "__init__" "NoPairs.__init__" ko f fd)(tk:takerIn K C "block" = some none):fH K mg D "NoPairs" "block" C f fd:=by
 refine⟨T,mC,λ P w base=>?_,F.binds λ _ _ _ _ _ _ us hl=>match us,hl with | [_,_],_=>rfl⟩
 refine F.ok zA (λ vs H Q E h=>?_) (λ cdv A outer s H vs Q E hr h=>?_)
 ·obtain⟨x,v,rfl,_⟩:=h;rfl
 obtain⟨x,v,rfl,hx,q⟩:=h;refine⟨_,cw (aq (bD B T rfl mD (pv 0) aw)) (aY (fv T (pv 0) (pv 1) rfl)),?_⟩;exact⟨_,rfl,x,rfl,hx,_,rfl,_,rfl,x,rfl,hx,tk,q⟩
abbrev iq:Stmt:=az (bX 10) 0
theorem vj:ad ["self","many"] ["self","many"] (aa iq):=aM
theorem Cq {K:Frag}{mg:Str->Option Value}{D C f:Addr}{fd:FuncData}(B:Ò K D)(T:Ø K D "TooMany" C f)(mD:mg "DealError" = some (.ref D))(mC:mg "TooMany" = some (.ref C))(F:Ö K "__init__" "TooMany.__init__" iq f fd)(tk:takerIn K C "many" = some none):fH K mg D "TooMany" "many" C f fd:=by
 refine⟨T,mC,λ P w base=>?_,F.binds λ _ _ _ _ _ _ us hl=>match us,hl with | [_,_],_=>rfl⟩
 refine F.ok vj (λ vs H Q E h=>?_) (λ cdv A outer s H vs Q E hr h=>?_)
 ·obtain⟨x,v,rfl,_⟩:=h;rfl
 obtain⟨x,v,rfl,hx,q⟩:=h;refine⟨_,cw (aq (bD B T rfl mD (pv 0) aw)) (aY (fv T (pv 0) (pv 1) rfl)),?_⟩;exact⟨_,rfl,x,rfl,hx,_,rfl,_,rfl,x,rfl,hx,tk,q⟩
theorem sG {K:Frag}{D C f:Addr}{nm fld:Str}(T:Ø K D nm C f)(nf:findIn K (.ref C) fld=some none):re K C fld:=by
 obtain⟨cd,h1,h2,h3⟩:=T.clsIn;refine⟨T.it,?_,nf⟩;unfold hasDictIn;rw [h1];exact h2
theorem i3 {K:Frag}{D C f:Addr}{nm:Str}(T:Ø K D nm C f):gs K C:=by
 obtain⟨cd,h1,h2,h3⟩:=T.clsIn;exact⟨⟨cd,h1⟩,T.type,T.it.mb⟩
theorem rR {K:Frag}{D:Addr}(B:Ò K D):gs K D:=⟨vZ B,rZ B,B.it.mb⟩
theorem l3 {K:Frag}{D C f:Addr}{nm:Str}(T:Ø K D nm C f):mroIn K C (.ref C)=some true:=by
 rw [Em T,List.contains_cons,beq_self_eq_true];rfl
theorem BD {K:Frag}{D C f C' f':Addr}{nm K8:Str}(B:Ò K D)(T:Ø K D nm C f)(T':Ø K D K8 C' f')(h:nm≠K8):mroIn K C (.ref C')=some false:=by
 have ne:=tX T T' h;have nd:=Ae T' B;rw [Em T,List.contains_cons,List.contains_cons];have n1:(Value.ref C'==Value.ref C)=false:=beq_eq_false_iff_ne.mpr λ z=>ne (Value.ref.inj z);have n2:(Value.ref C'==Value.ref D)=false:=beq_eq_false_iff_ne.mpr λ z=>nd (Value.ref.inj z);rw [n1,n2];rfl
theorem bn {K:Frag}{C:Addr}{n:String}{b:Bool}(hm:kitMeta n=true)(h:mroIn K C (.type n)=some b):kitOne K (.ref C) (.type n)=some b:=by
 unfold kitOne;rw [if_neg (by intro e;cases beq_iff_eq.mp e)]
 show(if kitMeta n=true then subIn K (.ref C) (.type n) else none)=_
 rw [if_pos hm];exact h
theorem aC {K:Frag}{C C':Addr}{b:Bool}(hc:isClsIn K C'=true)(ht:typeIn K (.ref C')=some (.type "type"))(hs:mroIn K C' (.ref C')=some true)(hm:mroIn K C (.ref C')=some b):kitOne K (.ref C) (.ref C')=some b:=by
 unfold kitOne;by_cases e:C=C'
 ·subst e;rw [hs] at hm;cases hm;rw [if_pos (beq_self_eq_true _)]
 ·rw [if_neg (by intro z;exact e (Value.ref.inj (beq_iff_eq.mp z)))]
  show(if((clsIn K C').isSome&&typeIn K (.ref C')==some (.type "type"))=true then subIn K (.ref C) (.ref C') else none)=_
  have ŝ:(clsIn K C').isSome=true:=hc;rw [ŝ,ht];simp only [beq_self_eq_true,Bool.and_self,if_true];exact hm
theorem du {K:Frag}{C C':Addr}(hs:mroIn K C' (.ref C')=some true)(hm:mroIn K C (.ref C')=some false):C≠C':=λ e=>by
 subst e;rw [hs] at hm;cases hm
structure Dm (K:Frag)(nm qual:Str)(st:Stmt)(ps:List Str)(f:Addr)(fd:FuncData):Prop where
 fn:Ö K nm qual st f fd
 bi:Binds K fd ps []
 kp:keepIn K (.ref f)=true
 å:isFn K (.ref f)=true
def AI:Value->Bool
 | .str _ _=>true
 | _=>false
theorem ũ {es:Array DictEntry}(h:(es.toList.all λ e=>AI e.key)=true):StrKeys es:=λ e he=>by
 have z:=List.all_eq_true.mp h e (by simpa using he)
 cases k:e.key with
 | str n t=>exact⟨n,t,rfl⟩
 | _=>rw [k] at z;cases z
theorem lh {K:Frag}{C:Addr}{cd:ClassData}{b:Value}(h:clsIn K C=some cd)(hb:cd.mro.isEmpty=false)(hc:cd.mro.contains b=true):mroIn K C b=some true:=by
 unfold mroIn;rw [h,Option.bind_some,hb,hc];rfl
theorem KA {K:Frag}{D N:Addr}{nm q:Str}{bs:List Value}{sn:List Str}{sub:List Value}{ab:Bool}{col:Option Bool}{dd:Option Addr}{k0 k1 k2 k3 k5:Option Value}
  {cN:Value}{dN:Option Addr}{es:Array DictEntry}{ep:Nat}{sN:Array (Option Value)}
  (lD:K.lookup D=some (excClassObj nm q D N bs pR true sn sub ab col dd k0 k1 k2 k3 k5 "ValueError.__new__"))
  (lN:K.lookup N=some ⟨cN,dN,.dict es ep,sN⟩)(sk:StrKeys es)(ni:nsFind es "__init__" = none)
  (ga:specialIn K (.ref D) "__getattribute__" = some (some (.builtin "type.__getattribute__")))(rd:readsIn K D (.type "type")=true)
  (MN:findCls K (.ref D) (.type "type") "__init__" = some (.val (.builtin "ValueError.__init__")))(fi:findIn K (.ref D) "__init__" = some (some (.builtin "ValueError.__init__")))(kp:keepIn K (.ref D)=true)
  (gb:findIn K (.ref D) "__getattribute__" = some (some (.builtin oB)))(hk:findIn K (.ref D) "__getattr__" = some none)(ca:findIn K (.ref D) "__class__" = some (some (.builtin "object.__class__"))):Ò K D:=by
 have hc:clsIn K D=some { name:=nm,bases:=bs,mro:=.ref D::pR,ns:=N,qualname:=q,hasDict:=true,slotNames:=sn,subclasses:=sub,abstract:=ab,collection:=col,hasDel:=false }:=by
  unfold clsIn;rw [lD]
 refine⟨⟨nm,q,N,bs,sn,sub,ab,col,dd,k0,k1,k2,k3,k5,lD,_,es,ep,lN,rfl,sk,ni⟩,ga,rd,MN,fi,kp,⟨by rw [hc];rfl,gb,hk,lh hc rfl ?_,lh hc rfl ?_,ca⟩⟩
 ·show(Value.ref D::pR).contains (.type "BaseException")=true;rw [List.contains_cons];rfl
 ·show(Value.ref D::pR).contains (.type "object")=true;rw [List.contains_cons];rfl
theorem ù {K:Frag}{D C N f:Addr}(nm:Str)
  {q:Str}{bs:List Value}{sn:List Str}{sub:List Value}{ab:Bool}{col:Option Bool}{dd:Option Addr}{k0 k1 k2 k3 k5:Option Value}
  (lC:K.lookup C=some (excClassObj nm q C N bs (.ref D::pR) true sn sub ab col dd k0 k1 k2 k3 k5 "ValueError.__new__"))
  (MN:findIn K (.ref C) "__init__" = some (some (.ref f)))(fn:typeIn K (.ref f)=some (.type "function"))(kp:keepIn K (.ref C)=true)
  (sa:findIn K (.ref C) "__setattr__" = some (some (.builtin "object.__setattr__")))(ga:findIn K (.ref C) "__getattribute__" = some (some (.builtin oB)))(hk:findIn K (.ref C) "__getattr__" = some none)
  (ca:findIn K (.ref C) "__class__" = some (some (.builtin "object.__class__"))):Ø K D nm C f:=by
 have hc:clsIn K C=some { name:=nm,bases:=bs,mro:=.ref C :: .ref D::pR,ns:=N,qualname:=q,hasDict:=true,slotNames:=sn,subclasses:=sub,abstract:=ab,collection:=col,hasDel:=false }:=by
  unfold clsIn;rw [lC]
 refine⟨⟨q,N,bs,sn,sub,ab,col,dd,k0,k1,k2,k3,k5,lC⟩,MN,fn,kp,sa,⟨by rw [hc];rfl,ga,hk,lh hc rfl ?_,lh hc rfl ?_,ca⟩⟩
 ·show(Value.ref C :: .ref D::pR).contains (.type "BaseException")=true;rw [List.contains_cons,List.contains_cons];rfl
 ·show(Value.ref C :: .ref D::pR).contains (.type "object")=true;rw [List.contains_cons,List.contains_cons];rfl
structure Dn (K:Frag)(mg:Str->Option Value)(nm:Str)(st:Stmt)(ps:List Str)(f:Addr)(fd:FuncData):Prop where
 fn:Ö K nm nm st f fd
 bi:Binds K fd ps []
 kp:keepIn K (.ref f)=true
 mg:mg nm=some (.ref f)
section
variable {P:Program}{w:World}{K:Frag}{mg:Str->Option Value}{base:Heap}
theorem Dn.df {nm:Str}{st:Stmt}{ps:List Str}{f:Addr}{fd:FuncData}(d:Dn K mg nm st ps f fd){cx:kc}{k:Nat}{sp:Sp}(h:Â P w K mg base cx k f fd ps sp):Df P w K mg base cx k nm ps sp f fd:=⟨h,d.bi,d.kp,d.mg⟩
end
def ff (a b c d e:Addr):Nat->Addr
 | 0=>a
 | 1=>b
 | 2=>c
 | 3=>d
 | _=>e
theorem E2 {K:Frag}{c:Addr}(h0:findIn K (.ref c) "size" = some none)(h1:findIn K (.ref c) "first_state" = some none)(h2:findIn K (.ref c) "mark" = some none)(h3:findIn K (.ref c) "parts" = some none)(h4:findIn K (.ref c) "coin" = some none)(h5:findIn K (.ref c) "far" = some none)(h6:findIn K (.ref c) "rules" = some none)(h7:findIn K (.ref c) "dealer" = some none):∀ f∈hV,ö K c f:=by
 intro f hf;simp only [hV,List.mem_cons,List.not_mem_nil,or_false] at hf;rcases hf with rfl | rfl | rfl | rfl | rfl | rfl | rfl | rfl
 ·exact h0
 ·exact h1
 ·exact h2
 ·exact h3
 ·exact h4
 ·exact h5
 ·exact h6
 ·exact h7
abbrev BP (nm qn:Str)(st:Stmt)(ps:List Str):Prop:=∀(kV doc pm:Value)(an:Option Addr)(cdv ct:Value)(us:List Value),us.length=ps.length->bindArgs (PySem.W.fnOf nm qn (bw st) (au st) (aa st) .none kV doc pm an cdv ct) ⟨us,[]⟩=pure (ps.zip us)
theorem Í {nm:Str}{st:Stmt}{ps:List Str}(hb:BP nm nm st ps){K:Frag}{h:Heap}{mg:Str->Option Value}{g:Addr}{oc kV dc pm cd ct:Value}{od an:Option Addr}{sl:Array (Option Value)}(X:K.In h)(G:h.Ns mainGlobals mg)
  (a:nsIn K mainGlobals nm=some (some (.ref g)))(l:K.lookup g=some ⟨oc,od,.func (fnOf nm nm (bw st) (au st) (aa st) .none kV dc pm an cd ct),sl⟩)(c:codeIn K cd nm=true)(k:keepIn K (.ref g)=true) :
  Dn K mg nm st ps g (fnOf nm nm (bw st) (au st) (aa st) .none kV dc pm an cd ct):=by
 have F:=dM (st:=st) l c k;exact⟨F,F.binds hb,k,mg_of X G a⟩
theorem Ó {nm qn:Str}{st:Stmt}{ps:List Str}(hb:BP nm qn st ps){K:Frag}{g:Addr}{oc kV dc pm cd ct:Value}{od an:Option Addr}{sl:Array (Option Value)}
  (l:K.lookup g=some ⟨oc,od,.func (fnOf nm qn (bw st) (au st) (aa st) .none kV dc pm an cd ct),sl⟩)(c:codeIn K cd qn=true)(k:keepIn K (.ref g)=true)(f:isFn K (.ref g)=true) :
  Dm K nm qn st ps g (fnOf nm qn (bw st) (au st) (aa st) .none kV dc pm an cd ct):=by
 have F:=dM (st:=st) l c k;exact⟨F,F.binds hb,k,f⟩
theorem WI:BP "is_number" "is_number" lE ["thing"]:=λ _ _ _ _ _ _ us hl=>match us,hl with | [_],_=>rfl
theorem WJ:BP "is_whole" "is_whole" p6 ["thing","low","high"]:=λ _ _ _ _ _ _ us hl=>match us,hl with | [_,_,_],_=>rfl
theorem WK:BP "greatest_common" "greatest_common" ui ["one","other"]:=λ _ _ _ _ _ _ us hl=>match us,hl with | [_,_],_=>rfl
theorem WL:BP "is_part" "is_part" p5 ["top","bottom"]:=λ _ _ _ _ _ _ us hl=>match us,hl with | [_,_],_=>rfl
theorem WM:BP "is_share" "is_share" ve ["thing"]:=λ _ _ _ _ _ _ us hl=>match us,hl with | [_],_=>rfl
theorem WN:BP "need_number" "need_number" Fh ["thing","low","high"]:=λ _ _ _ _ _ _ us hl=>match us,hl with | [_,_,_],_=>rfl
theorem WO:BP "need_coin" "need_coin" Fy ["thing"]:=λ _ _ _ _ _ _ us hl=>match us,hl with | [_],_=>rfl
theorem WQ:BP "one_part" "one_part" Fm ["folk"]:=λ _ _ _ _ _ _ us hl=>match us,hl with | [_],_=>rfl
theorem WR:BP "may_be_block" "may_be_block" vz ["thing"]:=λ _ _ _ _ _ _ us hl=>match us,hl with | [_],_=>rfl
theorem WS:BP "are_block_rules" "are_block_rules" Fj ["thing"]:=λ _ _ _ _ _ _ us hl=>match us,hl with | [_],_=>rfl
theorem QK:BP "parts_of" "parts_of" Fo ["rules"]:=λ _ _ _ _ _ _ us hl=>match us,hl with | [_],_=>rfl
theorem QL:BP "parts_below" "parts_below" yu ["parts","many"]:=λ _ _ _ _ _ _ us hl=>match us,hl with | [_,_],_=>rfl
theorem QM:BP "is_outcome" "is_outcome" Fl ["thing"]:=λ _ _ _ _ _ _ us hl=>match us,hl with | [_],_=>rfl
theorem QN:BP "need_outcome" "need_outcome" FD ["thing","place"]:=λ _ _ _ _ _ _ us hl=>match us,hl with | [_,_],_=>rfl
theorem QO:BP "need_outcomes" "need_outcomes" vi ["thing"]:=λ _ _ _ _ _ _ us hl=>match us,hl with | [_],_=>rfl
theorem QP:BP "need_outcomes_of" "need_outcomes_of" v5 ["thing","folk"]:=λ _ _ _ _ _ _ us hl=>match us,hl with | [_,_],_=>rfl
theorem QQ:BP "surely_greater" "surely_greater" FA ["one","other"]:=λ _ _ _ _ _ _ us hl=>match us,hl with | [_,_],_=>rfl
theorem QR:BP "stands_to" "stands_to" Fv ["one","other"]:=λ _ _ _ _ _ _ us hl=>match us,hl with | [_,_],_=>rfl
theorem QS:BP "need_sure" "need_sure" uo ["outcomes"]:=λ _ _ _ _ _ _ us hl=>match us,hl with | [_],_=>rfl
theorem QT:BP "block_marks" "block_marks" Fr ["rule"]:=λ _ _ _ _ _ _ us hl=>match us,hl with | [_],_=>rfl
theorem QU:BP "need_pairs" "need_pairs" Fk ["rule"]:=λ _ _ _ _ _ _ us hl=>match us,hl with | [_],_=>rfl
theorem QV:BP "_law_whole" "_law_whole" Fs ["_law_found"]:=λ _ _ _ _ _ _ us hl=>match us,hl with | [_],_=>rfl
theorem QW:BP "_law_take" "_law_take" fB ["_law_script","_law_pen","_law_many"]:=λ _ _ _ _ _ _ us hl=>match us,hl with | [_,_,_],_=>rfl
theorem QX:BP "_law_plain_rule" "_law_plain_rule" pI ["_law_script","_law_pen","_law_most"]:=λ _ _ _ _ _ _ us hl=>match us,hl with | [_,_,_],_=>rfl
theorem QY:BP "_law_rule" "_law_rule" lT ["_law_script","_law_pen","_law_most"]:=λ _ _ _ _ _ _ us hl=>match us,hl with | [_,_,_],_=>rfl
theorem QZ:BP "_law_folk" "_law_folk" Fn ["_law_blocks"]:=λ _ _ _ _ _ _ us hl=>match us,hl with | [_],_=>rfl
theorem Q0:BP "_law_outcomes" "_law_outcomes" xX ["_law_script","_law_pen","_law_folk_here","_law_sure"]:=λ _ _ _ _ _ _ us hl=>match us,hl with | [_,_,_,_],_=>rfl
theorem Q1:BP "_law_stands" "_law_stands" Fp ["_law_one","_law_other"]:=λ _ _ _ _ _ _ us hl=>match us,hl with | [_,_],_=>rfl
theorem Q2:BP "_law_ranks" "_law_ranks" BX ["_law_numbers"]:=λ _ _ _ _ _ _ us hl=>match us,hl with | [_],_=>rfl
theorem Q3:BP "_law_scores" "_law_scores" nM ["_law_word","_law_blocks","_law_outcomes_here"]:=λ _ _ _ _ _ _ us hl=>match us,hl with | [_,_,_],_=>rfl
theorem Q4:BP "_law_refused_by" "_law_refused_by" wI ["_law_word","_law_blocks","_law_outcomes_here"]:=λ _ _ _ _ _ _ us hl=>match us,hl with | [_,_,_],_=>rfl
theorem Q5:BP "_law_told" "_law_told" xT ["_law_measure","_law_rule_here","_law_outcomes_here"]:=λ _ _ _ _ _ _ us hl=>match us,hl with | [_,_,_],_=>rfl
theorem Q6:BP "_law_parted" "_law_parted" vG ["_law_script","_law_pen","_law_folk_here"]:=λ _ _ _ _ _ _ us hl=>match us,hl with | [_,_,_],_=>rfl
theorem Q7:BP "_law_measures" "_law_measures" FE []:=λ _ _ _ _ _ _ us hl=>match us,hl with | [],_=>rfl
theorem Q8:BP "_law_right" "_law_right" uR ["_law_word","_law_measure","_law_rule_here","_law_blocks","_law_outcomes_here"]:=λ _ _ _ _ _ _ us hl=>match us,hl with | [_,_,_,_,_],_=>rfl
theorem Q9:BP "law" "law" i9 ["_law_script"]:=λ _ _ _ _ _ _ us hl=>match us,hl with | [_],_=>rfl
theorem WT:BP "__init__" "Rule.__init__" uS ["self","size","first_state","mark","parts"]:=λ _ _ _ _ _ _ us hl=>match us,hl with | [_,_,_,_,_],_=>rfl
theorem WU:BP "folk" "Rule.folk" vb ["self"]:=λ _ _ _ _ _ _ us hl=>match us,hl with | [_],_=>rfl
theorem WV:BP "begin" "Rule.begin" vP ["self"]:=λ _ _ _ _ _ _ us hl=>match us,hl with | [_],_=>rfl
theorem WW:BP "told" "Rule.told" uA ["self"]:=λ _ _ _ _ _ _ us hl=>match us,hl with | [_],_=>rfl
theorem WX:BP "blocks" "Rule.blocks" vX ["self"]:=λ _ _ _ _ _ _ us hl=>match us,hl with | [_],_=>rfl
theorem WY:BP "__init__" "Split.__init__" wl ["self","folk","ones"]:=λ _ _ _ _ _ _ us hl=>match us,hl with | [_,_,_],_=>rfl
theorem WZ:BP "__init__" "Pairs.__init__" u6 ["self","pairs","coin"]:=λ _ _ _ _ _ _ us hl=>match us,hl with | [_,_,_],_=>rfl
theorem W0:BP "__init__" "Coins.__init__" vS ["self","folk","coin","far"]:=λ _ _ _ _ _ _ us hl=>match us,hl with | [_,_,_,_],_=>rfl
theorem W2:BP "__init__" "Blocks.__init__" vu ["self","rules"]:=λ _ _ _ _ _ _ us hl=>match us,hl with | [_,_],_=>rfl
theorem W3:BP "__init__" "First.__init__" vI ["self","rule","many"]:=λ _ _ _ _ _ _ us hl=>match us,hl with | [_,_,_],_=>rfl
theorem Ra:BP "state_ahead" "Blocks.state_ahead" Fz ["self","number"]:=λ _ _ _ _ _ _ us hl=>match us,hl with | [_,_],_=>rfl
theorem Rb:BP "__init__" "Measure.__init__" uw ["self","mark"]:=λ _ _ _ _ _ _ us hl=>match us,hl with | [_,_],_=>rfl
theorem Rc:BP "word" "Measure.word" vF ["self"]:=λ _ _ _ _ _ _ us hl=>match us,hl with | [_],_=>rfl
theorem Rf:BP "told" "Measure.told" wc ["self"]:=λ _ _ _ _ _ _ us hl=>match us,hl with | [_],_=>rfl
theorem Rg:BP "scores" "Measure.scores" ww ["self","rule","outcomes"]:=λ _ _ _ _ _ _ us hl=>match us,hl with | [_,_,_],_=>rfl
theorem Rh:BP "need_fit" "Measure.need_fit" vh ["self","rule","outcomes"]:=λ _ _ _ _ _ _ us hl=>match us,hl with | [_,_,_],_=>rfl
theorem Ri:BP "scored" "Measure.scored" wG ["self","rule","outcomes"]:=λ _ _ _ _ _ _ us hl=>match us,hl with | [_,_,_],_=>rfl
theorem Rj:BP "__init__" "Sum.__init__" uY ["self"]:=λ _ _ _ _ _ _ us hl=>match us,hl with | [_],_=>rfl
theorem Rk:BP "need_fit" "Sum.need_fit" uC ["self","rule","outcomes"]:=λ _ _ _ _ _ _ us hl=>match us,hl with | [_,_,_],_=>rfl
theorem Rm:BP "among" "Sum.among" uN ["self","outcomes"]:=λ _ _ _ _ _ _ us hl=>match us,hl with | [_,_],_=>rfl
theorem Rn:BP "__init__" "Ranks.__init__" uy ["self"]:=λ _ _ _ _ _ _ us hl=>match us,hl with | [_],_=>rfl
theorem Ro:BP "need_fit" "Ranks.need_fit" uW ["self","rule","outcomes"]:=λ _ _ _ _ _ _ us hl=>match us,hl with | [_,_,_],_=>rfl
theorem Rp:BP "among" "Ranks.among" ir ["self","outcomes"]:=λ _ _ _ _ _ _ us hl=>match us,hl with | [_,_],_=>rfl
theorem Rq:BP "__init__" "Wins.__init__" uk ["self"]:=λ _ _ _ _ _ _ us hl=>match us,hl with | [_],_=>rfl
theorem Rr:BP "among" "Wins.among" kX ["self","outcomes"]:=λ _ _ _ _ _ _ us hl=>match us,hl with | [_,_],_=>rfl
theorem Rt:BP "__init__" "Signs.__init__" wk ["self"]:=λ _ _ _ _ _ _ us hl=>match us,hl with | [_],_=>rfl
theorem Rv:BP "need_fit" "Signs.need_fit" uP ["self","rule","outcomes"]:=λ _ _ _ _ _ _ us hl=>match us,hl with | [_,_,_],_=>rfl
theorem Rw:BP "among" "Signs.among" kQ ["self","outcomes"]:=λ _ _ _ _ _ _ us hl=>match us,hl with | [_,_],_=>rfl
theorem all_mk {l:OpenLaw}{w:World}{K:Frag}{h:Heap}{mg:Str->Option Value}{fa D Nw Rx Nx Ry Ny Rz Nz RA NA RB NB RC KC RD Ka RE JS L9 g0 g1 g2 g3 g4 g5 g6 g7 g8 g9 W4 W5 OL W6 W7 W8 W9 Xa Xb Xc Xd Xe Xf Xg Xh Xi Xj Xk Xl Xm Xn Xo Xp Xq OE Xr m0 m1 m2 m3 m4 m5 m6 m7 m8 m9 RF RG KD KG KH RH KI OM RI RJ ON RK RL OO RM OP RN RO R MS C0 C1 C2 C3 C4 U0 U1 U2 U3:Addr}{d0 d1 d2 d3 d4 d5 d6 d7 d8 d9 Xs Xt Xu Xv Xw Xx Xy Xz XA XB XC XD XE XF XG XH XI XJ XM XN XO XQ XR XS XT Tt x0 x1 x2 x3 x4 x5 x6 x7 x8 x9 Tu XU ç ł Ky Tv NC Tw Tx Tz TB TC TF JP JQ Kx ś TJ:FuncData}(X:K.In h)(G:h.Ns mainGlobals mg)(XW:mg "law" = some (.ref fa))
  {Qb XX XY XZ TK X0 X2 X3 X4 X5 TL X6 X7 X8 X9 Ya TM Yb Yc Yd Ye Yf TN Yg Yh Yi Yj Yk TQ Yl Ym Yn Yo Yp TR Yq Yr Ys Yt Yu TU Yv Yw Yx Yy Yz TV YA RP RQ RR RS ND RT:Value}{YB YC YD YE YF YG YH YI YJ YK YL YM YN YO YQ YR RU RV:Option Addr}{YS YT YU YV YW YX YY YZ RW:Array (Option Value)}
  {Œ ń Ū Ņ İ ħ ı:Tok}
  (B:Ò K D)(Y0:Ø K D "NoShare" Nw Rx)(Y1:Ø K D "NoNumber" Nx Ry)(TX:Ø K D "NoFolk" Ny Rz)(TY:Ø K D "NoWeights" Nz RA)(Y2:Ø K D "NoTrials" NA RB)(TZ:Ø K D "NoOutcome" NB RC)(NF:Ø K D "NotSure" KC RD)(NG:Ø K D "NoPairs" Ka RE)(RX:Ø K D "TooMany" JS L9)
  (aD:nsIn K mainGlobals "DealError" = some (some (.ref D)))
  (a2:nsIn K mainGlobals "NoShare" = some (some (.ref Nw)))
  (a3:nsIn K mainGlobals "NoNumber" = some (some (.ref Nx)))
  (a4:nsIn K mainGlobals "NoFolk" = some (some (.ref Ny)))
  (a5:nsIn K mainGlobals "NoWeights" = some (some (.ref Nz)))
  (a6:nsIn K mainGlobals "NoTrials" = some (some (.ref NA)))
  (a7:nsIn K mainGlobals "NoOutcome" = some (some (.ref NB)))
  (a8:nsIn K mainGlobals "NotSure" = some (some (.ref KC)))
  (a9:nsIn K mainGlobals "NoPairs" = some (some (.ref Ka)))
  (Y3:nsIn K mainGlobals "TooMany" = some (some (.ref JS)))
  (Y4:K.lookup Rx=some ⟨Qb,YB,.func (fnOf "__init__" "NoShare.__init__" (bw jQ) (au jQ) (aa jQ) .none XX XY XZ YC TK X0),YS⟩)
  (Y5:codeIn K TK "NoShare.__init__" = true)
  (Y6:keepIn K (.ref Rx)=true)
  (Y7:takerIn K Nw "found" = some none)
  (nf2:findIn K (.ref Nw) "found" = some none)
  (Y8:K.lookup Ry=some ⟨X2,YD,.func (fnOf "__init__" "NoNumber.__init__" (bw jS) (au jS) (aa jS) .none X3 X4 X5 YE TL X6),YT⟩)
  (Y9:codeIn K TL "NoNumber.__init__" = true)
  (Za:keepIn K (.ref Ry)=true)
  (Zb:takerIn K Nx "found" = some none)
  (nf3:findIn K (.ref Nx) "found" = some none)
  (Zc:K.lookup Rz=some ⟨X7,YF,.func (fnOf "__init__" "NoFolk.__init__" (bw kC) (au kC) (aa kC) .none X8 X9 Ya YG TM Yb),YU⟩)
  (Zd:codeIn K TM "NoFolk.__init__" = true)
  (Ze:keepIn K (.ref Rz)=true)
  (Zf:takerIn K Ny "found" = some none)
  (nf4:findIn K (.ref Ny) "found" = some none)
  (Zg:K.lookup RA=some ⟨Yc,YH,.func (fnOf "__init__" "NoWeights.__init__" (bw jV) (au jV) (aa jV) .none Yd Ye Yf YI TN Yg),YV⟩)
  (Zh:codeIn K TN "NoWeights.__init__" = true)
  (Zj:keepIn K (.ref RA)=true)
  (Zk:takerIn K Nz "found" = some none)
  (nf5:findIn K (.ref Nz) "found" = some none)
  (Zl:K.lookup RB=some ⟨Yh,YJ,.func (fnOf "__init__" "NoTrials.__init__" (bw kj) (au kj) (aa kj) .none Yi Yj Yk YK TQ Yl),YW⟩)
  (Zn:codeIn K TQ "NoTrials.__init__" = true)
  (Zo:keepIn K (.ref RB)=true)
  (Zp:takerIn K NA "found" = some none)
  (nf6:findIn K (.ref NA) "found" = some none)
  (Zq:K.lookup RC=some ⟨Ym,YL,.func (fnOf "__init__" "NoOutcome.__init__" (bw ke) (au ke) (aa ke) .none Yn Yo Yp YM TR Yq),YX⟩)
  (Zr:codeIn K TR "NoOutcome.__init__" = true)
  (Zs:keepIn K (.ref RC)=true)
  (Zt:takerIn K NB "place" = some none)
  (nf7:findIn K (.ref NB) "place" = some none)
  (Zu:K.lookup RD=some ⟨Yr,YN,.func (fnOf "__init__" "NotSure.__init__" (bw jP) (au jP) (aa jP) .none Ys Yt Yu YO TU Yv),YY⟩)
  (Zv:codeIn K TU "NotSure.__init__" = true)
  (Zw:keepIn K (.ref RD)=true)
  (Zx:takerIn K KC "place" = some none)
  (Zy:findIn K (.ref KC) "place" = some none)
  (Zz:K.lookup RE=some ⟨Yw,YQ,.func (fnOf "__init__" "NoPairs.__init__" (bw ko) (au ko) (aa ko) .none Yx Yy Yz YR TV YA),YZ⟩)
  (ZA:codeIn K TV "NoPairs.__init__" = true)
  (ZC:keepIn K (.ref RE)=true)
  (ZD:takerIn K Ka "block" = some none)
  (ZE:findIn K (.ref Ka) "block" = some none)
  (RY:K.lookup L9=some ⟨RP,RU,.func (fnOf "__init__" "TooMany.__init__" (bw iq) (au iq) (aa iq) .none RQ RR RS RV ND RT),RW⟩)
  (RZ:codeIn K ND "TooMany.__init__" = true)
  (R1:keepIn K (.ref L9)=true)
  (R3:takerIn K JS "many" = some none)
  (ZF:findIn K (.ref JS) "many" = some none)
  (R4:nsIn K mainGlobals "Rule" = some (some (.ref R)))
  (ZG:specialIn K (.ref R) "__getattribute__" = some (some (.builtin "type.__getattribute__")))
  (ZH:readsIn K R (.type "type")=true)
  (ZI:findCls K (.ref R) (.type "type") "__init__" = some (.val (.ref m0)))
  (JT:isClsIn K R=true)
  (JU:typeIn K (.ref R)=some (.type "type"))
  (JV:mroIn K R (.ref R)=some true)
  (ZJ:nsIn K mainGlobals "Measure" = some (some (.ref MS)))
  (ZL:specialIn K (.ref MS) "__getattribute__" = some (some (.builtin "type.__getattribute__")))
  (ZM:readsIn K MS (.type "type")=true)
  (ZN:findCls K (.ref MS) (.type "type") "__init__" = some (.val (.ref RG)))
  (OQ:isClsIn K MS=true)
  (OR:typeIn K (.ref MS)=some (.type "type"))
  (OS:mroIn K MS (.ref MS)=some true)
  (ZO:nsIn K mainGlobals "Split" = some (some (.ref C0)))
  (ZP:plainGet K C0 Str.empty=true)
  (ZQ:hasDictIn K C0=true)
  (ZR:plainOver K C0=true)
  (ZS:findIn K (.ref C0) "__setattr__" = some (some (.builtin "object.__setattr__")))
  (ZT:makesIn K C0=true)
  (ZU:keepIn K (.ref C0)=true)
  (ZV:findIn K (.ref C0) "__class__" = some (some (.builtin "object.__class__")))
  (ZW:mroIn K C0 (.type "object")=some true)
  (NH:isClsIn K C0=true)
  (NI:typeIn K (.ref C0)=some (.type "type"))
  (ZX:findIn K (.ref C0) "size" = some none)
  (ZY:findIn K (.ref C0) "first_state" = some none)
  (ZZ:findIn K (.ref C0) "mark" = some none)
  (Z0:findIn K (.ref C0) "parts" = some none)
  (Z1:findIn K (.ref C0) "coin" = some none)
  (Z2:findIn K (.ref C0) "far" = some none)
  (Z3:findIn K (.ref C0) "rules" = some none)
  (Z4:findIn K (.ref C0) "dealer" = some none)
  (Z5:findIn K (.ref C0) "__init__" = some (some (.ref m5)))
  (Z6:findIn K (.ref C0) "folk" = some (some (.ref m1)))
  (Z7:findIn K (.ref C0) "begin" = some (some (.ref m2)))
  (Z8:findIn K (.ref C0) "told" = some (some (.ref m3)))
  (Z9:findIn K (.ref C0) "blocks" = some (some (.ref m4)))
  (Mn:mroIn K C0 (.ref C0)=some true)
  (zaJ:mroIn K C0 (.ref C1)=some false)
  (zaK:mroIn K C0 (.ref C2)=some false)
  (zaL:mroIn K C0 (.ref C3)=some false)
  (zaM:mroIn K C0 (.ref C4)=some false)
  (zaN:mroIn K C0 (.ref R)=some true)
  (zaO:mroIn K C0 (.type "tuple")=some false)
  (zaP:mroIn K C0 (.type "list")=some false)
  (zaQ:mroIn K C0 (.type "int")=some false)
  (zaR:mroIn K C0 (.type "bool")=some false)
  (zaS:nsIn K mainGlobals "Pairs" = some (some (.ref C1)))
  (zaT:plainGet K C1 Str.empty=true)
  (zaU:hasDictIn K C1=true)
  (zaV:plainOver K C1=true)
  (zaW:findIn K (.ref C1) "__setattr__" = some (some (.builtin "object.__setattr__")))
  (zaX:makesIn K C1=true)
  (zaY:keepIn K (.ref C1)=true)
  (zaZ:findIn K (.ref C1) "__class__" = some (some (.builtin "object.__class__")))
  (za0:mroIn K C1 (.type "object")=some true)
  (LU:isClsIn K C1=true)
  (NJ:typeIn K (.ref C1)=some (.type "type"))
  (za3:findIn K (.ref C1) "size" = some none)
  (za4:findIn K (.ref C1) "first_state" = some none)
  (za5:findIn K (.ref C1) "mark" = some none)
  (za6:findIn K (.ref C1) "parts" = some none)
  (za7:findIn K (.ref C1) "coin" = some none)
  (za8:findIn K (.ref C1) "far" = some none)
  (za9:findIn K (.ref C1) "rules" = some none)
  (zba:findIn K (.ref C1) "dealer" = some none)
  (zbb:findIn K (.ref C1) "__init__" = some (some (.ref m6)))
  (zbc:findIn K (.ref C1) "folk" = some (some (.ref m1)))
  (zbd:findIn K (.ref C1) "begin" = some (some (.ref m2)))
  (zbe:findIn K (.ref C1) "told" = some (some (.ref m3)))
  (zbf:findIn K (.ref C1) "blocks" = some (some (.ref m4)))
  (zbg:mroIn K C1 (.ref C0)=some false)
  (Mo:mroIn K C1 (.ref C1)=some true)
  (zbi:mroIn K C1 (.ref C2)=some false)
  (zbj:mroIn K C1 (.ref C3)=some false)
  (zbk:mroIn K C1 (.ref C4)=some false)
  (zbl:mroIn K C1 (.ref R)=some true)
  (zbm:mroIn K C1 (.type "tuple")=some false)
  (zbn:mroIn K C1 (.type "list")=some false)
  (zbo:mroIn K C1 (.type "int")=some false)
  (zbp:mroIn K C1 (.type "bool")=some false)
  (zbq:nsIn K mainGlobals "Coins" = some (some (.ref C2)))
  (zbr:plainGet K C2 Str.empty=true)
  (zbs:hasDictIn K C2=true)
  (zbt:plainOver K C2=true)
  (zbu:findIn K (.ref C2) "__setattr__" = some (some (.builtin "object.__setattr__")))
  (zbv:makesIn K C2=true)
  (zbw:keepIn K (.ref C2)=true)
  (zbx:findIn K (.ref C2) "__class__" = some (some (.builtin "object.__class__")))
  (zby:mroIn K C2 (.type "object")=some true)
  (NK:isClsIn K C2=true)
  (NL:typeIn K (.ref C2)=some (.type "type"))
  (zbB:findIn K (.ref C2) "size" = some none)
  (zbC:findIn K (.ref C2) "first_state" = some none)
  (zbD:findIn K (.ref C2) "mark" = some none)
  (zbE:findIn K (.ref C2) "parts" = some none)
  (zbF:findIn K (.ref C2) "coin" = some none)
  (zbG:findIn K (.ref C2) "far" = some none)
  (zbH:findIn K (.ref C2) "rules" = some none)
  (zbI:findIn K (.ref C2) "dealer" = some none)
  (zbJ:findIn K (.ref C2) "__init__" = some (some (.ref m7)))
  (zbK:findIn K (.ref C2) "folk" = some (some (.ref m1)))
  (zbL:findIn K (.ref C2) "begin" = some (some (.ref m2)))
  (zbM:findIn K (.ref C2) "told" = some (some (.ref m3)))
  (zbN:findIn K (.ref C2) "blocks" = some (some (.ref m4)))
  (zbO:mroIn K C2 (.ref C0)=some false)
  (zbP:mroIn K C2 (.ref C1)=some false)
  (Mp:mroIn K C2 (.ref C2)=some true)
  (zbR:mroIn K C2 (.ref C3)=some false)
  (zbS:mroIn K C2 (.ref C4)=some false)
  (zbT:mroIn K C2 (.ref R)=some true)
  (zbU:mroIn K C2 (.type "tuple")=some false)
  (zbV:mroIn K C2 (.type "list")=some false)
  (zbW:mroIn K C2 (.type "int")=some false)
  (zbX:mroIn K C2 (.type "bool")=some false)
  (zbY:nsIn K mainGlobals "Blocks" = some (some (.ref C3)))
  (zbZ:plainGet K C3 Str.empty=true)
  (zb0:hasDictIn K C3=true)
  (zb1:plainOver K C3=true)
  (zb2:findIn K (.ref C3) "__setattr__" = some (some (.builtin "object.__setattr__")))
  (zb3:makesIn K C3=true)
  (zb4:keepIn K (.ref C3)=true)
  (zb5:findIn K (.ref C3) "__class__" = some (some (.builtin "object.__class__")))
  (zb6:mroIn K C3 (.type "object")=some true)
  (NM:isClsIn K C3=true)
  (NN:typeIn K (.ref C3)=some (.type "type"))
  (zb9:findIn K (.ref C3) "size" = some none)
  (zca:findIn K (.ref C3) "first_state" = some none)
  (zcb:findIn K (.ref C3) "mark" = some none)
  (zcc:findIn K (.ref C3) "parts" = some none)
  (zcd:findIn K (.ref C3) "coin" = some none)
  (zce:findIn K (.ref C3) "far" = some none)
  (zcf:findIn K (.ref C3) "rules" = some none)
  (zcg:findIn K (.ref C3) "dealer" = some none)
  (zch:findIn K (.ref C3) "__init__" = some (some (.ref m8)))
  (zci:findIn K (.ref C3) "folk" = some (some (.ref m1)))
  (zcj:findIn K (.ref C3) "begin" = some (some (.ref m2)))
  (zck:findIn K (.ref C3) "told" = some (some (.ref m3)))
  (zcl:findIn K (.ref C3) "blocks" = some (some (.ref m4)))
  (zcm:findIn K (.ref C3) "state_ahead" = some (some (.ref RF)))
  (zcn:mroIn K C3 (.ref C0)=some false)
  (zco:mroIn K C3 (.ref C1)=some false)
  (zcp:mroIn K C3 (.ref C2)=some false)
  (Mq:mroIn K C3 (.ref C3)=some true)
  (zcr:mroIn K C3 (.ref C4)=some false)
  (zcs:mroIn K C3 (.ref R)=some true)
  (zct:mroIn K C3 (.type "tuple")=some false)
  (zcu:mroIn K C3 (.type "list")=some false)
  (zcv:mroIn K C3 (.type "int")=some false)
  (zcw:mroIn K C3 (.type "bool")=some false)
  (zcx:nsIn K mainGlobals "First" = some (some (.ref C4)))
  (zcy:plainGet K C4 Str.empty=true)
  (zcz:hasDictIn K C4=true)
  (zcA:plainOver K C4=true)
  (zcB:findIn K (.ref C4) "__setattr__" = some (some (.builtin "object.__setattr__")))
  (zcC:makesIn K C4=true)
  (zcD:keepIn K (.ref C4)=true)
  (zcE:findIn K (.ref C4) "__class__" = some (some (.builtin "object.__class__")))
  (zcF:mroIn K C4 (.type "object")=some true)
  (NO:isClsIn K C4=true)
  (NP:typeIn K (.ref C4)=some (.type "type"))
  (zcI:findIn K (.ref C4) "size" = some none)
  (zcJ:findIn K (.ref C4) "first_state" = some none)
  (zcK:findIn K (.ref C4) "mark" = some none)
  (zcL:findIn K (.ref C4) "parts" = some none)
  (zcM:findIn K (.ref C4) "coin" = some none)
  (zcN:findIn K (.ref C4) "far" = some none)
  (zcO:findIn K (.ref C4) "rules" = some none)
  (zcP:findIn K (.ref C4) "dealer" = some none)
  (zcQ:findIn K (.ref C4) "__init__" = some (some (.ref m9)))
  (zcR:findIn K (.ref C4) "folk" = some (some (.ref m1)))
  (zcS:findIn K (.ref C4) "begin" = some (some (.ref m2)))
  (zcT:findIn K (.ref C4) "told" = some (some (.ref m3)))
  (zcU:findIn K (.ref C4) "blocks" = some (some (.ref m4)))
  (zcV:mroIn K C4 (.ref C0)=some false)
  (zcW:mroIn K C4 (.ref C1)=some false)
  (zcX:mroIn K C4 (.ref C2)=some false)
  (zcY:mroIn K C4 (.ref C3)=some false)
  (Mt:mroIn K C4 (.ref C4)=some true)
  (zc0:mroIn K C4 (.ref R)=some true)
  (zc1:mroIn K C4 (.type "tuple")=some false)
  (zc2:mroIn K C4 (.type "list")=some false)
  (zc3:mroIn K C4 (.type "int")=some false)
  (zc4:mroIn K C4 (.type "bool")=some false)
  (zc5:nsIn K mainGlobals "Sum" = some (some (.ref U0)))
  (zc6:plainGet K U0 Str.empty=true)
  (zc7:hasDictIn K U0=true)
  (zc8:plainOver K U0=true)
  (zc9:findIn K (.ref U0) "__setattr__" = some (some (.builtin "object.__setattr__")))
  (zda:makesIn K U0=true)
  (zdb:keepIn K (.ref U0)=true)
  (zdc:findIn K (.ref U0) "__class__" = some (some (.builtin "object.__class__")))
  (zdd:mroIn K U0 (.type "object")=some true)
  (zde:isClsIn K U0=true)
  (zdf:typeIn K (.ref U0)=some (.type "type"))
  (zdg:findIn K (.ref U0) "mark" = some none)
  (zdh:findIn K (.ref U0) "__init__" = some (some (.ref OM)))
  (zdi:findIn K (.ref U0) "word" = some (some (.ref KD)))
  (zdj:findIn K (.ref U0) "told" = some (some (.ref KG)))
  (zdk:findIn K (.ref U0) "scores" = some (some (.ref KH)))
  (zdl:findIn K (.ref U0) "need_fit" = some (some (.ref RI)))
  (zdm:findIn K (.ref U0) "scored" = some (some (.ref KI)))
  (zdn:findIn K (.ref U0) "among" = some (some (.ref RJ)))
  (R5:mroIn K U0 (.ref U0)=some true)
  (zdp:mroIn K U0 (.ref U1)=some false)
  (zdq:mroIn K U0 (.ref U2)=some false)
  (zdr:mroIn K U0 (.ref U3)=some false)
  (zds:mroIn K U0 (.ref MS)=some true)
  (zdt:nsIn K mainGlobals "Ranks" = some (some (.ref U1)))
  (zdu:plainGet K U1 Str.empty=true)
  (zdv:hasDictIn K U1=true)
  (zdw:plainOver K U1=true)
  (zdx:findIn K (.ref U1) "__setattr__" = some (some (.builtin "object.__setattr__")))
  (zdy:makesIn K U1=true)
  (zdz:keepIn K (.ref U1)=true)
  (zdA:findIn K (.ref U1) "__class__" = some (some (.builtin "object.__class__")))
  (zdB:mroIn K U1 (.type "object")=some true)
  (zdC:isClsIn K U1=true)
  (zdD:typeIn K (.ref U1)=some (.type "type"))
  (zdE:findIn K (.ref U1) "mark" = some none)
  (zdF:findIn K (.ref U1) "__init__" = some (some (.ref ON)))
  (zdG:findIn K (.ref U1) "word" = some (some (.ref KD)))
  (zdH:findIn K (.ref U1) "told" = some (some (.ref KG)))
  (zdI:findIn K (.ref U1) "scores" = some (some (.ref KH)))
  (zdJ:findIn K (.ref U1) "need_fit" = some (some (.ref RK)))
  (zdK:findIn K (.ref U1) "scored" = some (some (.ref KI)))
  (zdL:findIn K (.ref U1) "among" = some (some (.ref RL)))
  (zdM:mroIn K U1 (.ref U0)=some false)
  (R6:mroIn K U1 (.ref U1)=some true)
  (zdO:mroIn K U1 (.ref U2)=some false)
  (zdP:mroIn K U1 (.ref U3)=some false)
  (zdQ:mroIn K U1 (.ref MS)=some true)
  (zdR:nsIn K mainGlobals "Wins" = some (some (.ref U2)))
  (zdS:plainGet K U2 Str.empty=true)
  (zdT:hasDictIn K U2=true)
  (zdU:plainOver K U2=true)
  (zdV:findIn K (.ref U2) "__setattr__" = some (some (.builtin "object.__setattr__")))
  (zdW:makesIn K U2=true)
  (zdX:keepIn K (.ref U2)=true)
  (zdY:findIn K (.ref U2) "__class__" = some (some (.builtin "object.__class__")))
  (zdZ:mroIn K U2 (.type "object")=some true)
  (zd0:isClsIn K U2=true)
  (zd1:typeIn K (.ref U2)=some (.type "type"))
  (zd2:findIn K (.ref U2) "mark" = some none)
  (zd3:findIn K (.ref U2) "__init__" = some (some (.ref OO)))
  (zd4:findIn K (.ref U2) "word" = some (some (.ref KD)))
  (zd5:findIn K (.ref U2) "told" = some (some (.ref KG)))
  (zd6:findIn K (.ref U2) "scores" = some (some (.ref KH)))
  (zd7:findIn K (.ref U2) "need_fit" = some (some (.ref RH)))
  (zd8:findIn K (.ref U2) "scored" = some (some (.ref KI)))
  (zd9:findIn K (.ref U2) "among" = some (some (.ref RM)))
  (zea:mroIn K U2 (.ref U0)=some false)
  (zeb:mroIn K U2 (.ref U1)=some false)
  (R7:mroIn K U2 (.ref U2)=some true)
  (zed:mroIn K U2 (.ref U3)=some false)
  (zee:mroIn K U2 (.ref MS)=some true)
  (zef:nsIn K mainGlobals "Signs" = some (some (.ref U3)))
  (zeg:plainGet K U3 Str.empty=true)
  (zeh:hasDictIn K U3=true)
  (zei:plainOver K U3=true)
  (zej:findIn K (.ref U3) "__setattr__" = some (some (.builtin "object.__setattr__")))
  (zek:makesIn K U3=true)
  (zel:keepIn K (.ref U3)=true)
  (zem:findIn K (.ref U3) "__class__" = some (some (.builtin "object.__class__")))
  (zen:mroIn K U3 (.type "object")=some true)
  (zeo:isClsIn K U3=true)
  (zep:typeIn K (.ref U3)=some (.type "type"))
  (zeq:findIn K (.ref U3) "mark" = some none)
  (zer:findIn K (.ref U3) "__init__" = some (some (.ref OP)))
  (zes:findIn K (.ref U3) "word" = some (some (.ref KD)))
  (zet:findIn K (.ref U3) "told" = some (some (.ref KG)))
  (zeu:findIn K (.ref U3) "scores" = some (some (.ref KH)))
  (zev:findIn K (.ref U3) "need_fit" = some (some (.ref RN)))
  (zew:findIn K (.ref U3) "scored" = some (some (.ref KI)))
  (zex:findIn K (.ref U3) "among" = some (some (.ref RO)))
  (zey:mroIn K U3 (.ref U0)=some false)
  (zez:mroIn K U3 (.ref U1)=some false)
  (zeA:mroIn K U3 (.ref U2)=some false)
  (R8:mroIn K U3 (.ref U3)=some true)
  (zeC:mroIn K U3 (.ref MS)=some true)
  (zeD:nsIn K mainGlobals "MOST_FOLK" = some (some (.int (20) Œ)))
  (zeE:nsIn K mainGlobals "MOST_PAIRS" = some (some (.int (10) ń)))
  (zeF:nsIn K mainGlobals "MOST_FAR" = some (some (.int (20) Ū)))
  (zeG:nsIn K mainGlobals "MOST_RULES" = some (some (.int (6) Ņ)))
  (zeH:nsIn K mainGlobals "MOST_BOTTOM" = some (some (.int (100) İ)))
  (zeI:nsIn K mainGlobals "LEAST_NUMBER" = some (some (.int (-99) ħ)))
  (zeJ:nsIn K mainGlobals "MOST_NUMBER" = some (some (.int (99) ı)))
  (gt:specialIn K (.builtin "object.__class__") "__get__" = some (some (.builtin "getset_descriptor.__get__")))
  (R9:takesIn K (.builtin "object.__class__")=some true)
  (zeK:nsIn K mainGlobals "isinstance" = some none)
  (zeL:nsIn K mainGlobals "int" = some none)
  (zeM:nsIn K mainGlobals "bool" = some none)
  (zeN:nsIn K mainGlobals "len" = some none)
  (zeO:nsIn K mainGlobals "range" = some none)
  (zeP:nsIn K mainGlobals "tuple" = some none)
  (zeQ:nsIn K mainGlobals "list" = some none)
  (zeR:nsIn K mainGlobals "sum" = some none)
  (zeS:nsIn K mainGlobals "all" = some none)
  (zeT:nsIn K mainGlobals "max" = some none)
  (zeU:nsIn K mainGlobals "min" = some none)
  (zeV:nsIn K mainGlobals "enumerate" = some none)
  (zeW:nsIn K mainGlobals "zip" = some none)
  (zeX:nsIn K mainGlobals "sorted" = some none)
  (e0:Dn K mg "is_number" lE ["thing"] g0 d0)
  (e1:Dn K mg "is_whole" p6 ["thing","low","high"] g1 d1)
  (e2:Dn K mg "greatest_common" ui ["one","other"] g2 d2)
  (e3:Dn K mg "is_part" p5 ["top","bottom"] g3 d3)
  (e4:Dn K mg "is_share" ve ["thing"] g4 d4)
  (e5:Dn K mg "need_number" Fh ["thing","low","high"] g5 d5)
  (e6:Dn K mg "need_coin" Fy ["thing"] g6 d6)
  (e7:Dn K mg "one_part" Fm ["folk"] g7 d7)
  (e8:Dn K mg "may_be_block" vz ["thing"] g8 d8)
  (e9:Dn K mg "are_block_rules" Fj ["thing"] g9 d9)
  (T3:Dn K mg "parts_of" Fo ["rules"] W4 Xs)
  (T4:Dn K mg "parts_below" yu ["parts","many"] W5 Xt)
  (T5:Dn K mg "is_outcome" Fl ["thing"] OL Xu)
  (T6:Dn K mg "need_outcome" FD ["thing","place"] W6 Xv)
  (T7:Dn K mg "need_outcomes" vi ["thing"] W7 Xw)
  (T8:Dn K mg "need_outcomes_of" v5 ["thing","folk"] W8 Xx)
  (T9:Dn K mg "surely_greater" FA ["one","other"] W9 Xy)
  (Ua:Dn K mg "stands_to" Fv ["one","other"] Xa Xz)
  (Ub:Dn K mg "need_sure" uo ["outcomes"] Xb XA)
  (Uc:Dn K mg "block_marks" Fr ["rule"] Xc XB)
  (Ud:Dn K mg "need_pairs" Fk ["rule"] Xd XC)
  (Ue:Dn K mg "_law_whole" Fs ["_law_found"] Xe XD)
  (Ug:Dn K mg "_law_take" fB ["_law_script","_law_pen","_law_many"] Xf XE)
  (Uh:Dn K mg "_law_plain_rule" pI ["_law_script","_law_pen","_law_most"] Xg XF)
  (Ui:Dn K mg "_law_rule" lT ["_law_script","_law_pen","_law_most"] Xh XG)
  (Uj:Dn K mg "_law_folk" Fn ["_law_blocks"] Xi XH)
  (Uk:Dn K mg "_law_outcomes" xX ["_law_script","_law_pen","_law_folk_here","_law_sure"] Xj XI)
  (Ul:Dn K mg "_law_stands" Fp ["_law_one","_law_other"] Xk XJ)
  (Um:Dn K mg "_law_ranks" BX ["_law_numbers"] Xl XM)
  (Uo:Dn K mg "_law_scores" nM ["_law_word","_law_blocks","_law_outcomes_here"] Xm XN)
  (Up:Dn K mg "_law_refused_by" wI ["_law_word","_law_blocks","_law_outcomes_here"] Xn XO)
  (Uq:Dn K mg "_law_told" xT ["_law_measure","_law_rule_here","_law_outcomes_here"] Xo XQ)
  (Ur:Dn K mg "_law_parted" vG ["_law_script","_law_pen","_law_folk_here"] Xp XR)
  (Us:Dn K mg "_law_measures" FE [] Xq XS)
  (Ut:Dn K mg "_law_right" uR ["_law_word","_law_measure","_law_rule_here","_law_blocks","_law_outcomes_here"] OE XT)
  (Uu:Dn K mg "law" i9 ["_law_script"] Xr Tt)
  (y0:Dm K "__init__" "Rule.__init__" uS ["self","size","first_state","mark","parts"] m0 x0)
  (y1:Dm K "folk" "Rule.folk" vb ["self"] m1 x1)
  (y2:Dm K "begin" "Rule.begin" vP ["self"] m2 x2)
  (y3:Dm K "told" "Rule.told" uA ["self"] m3 x3)
  (y4:Dm K "blocks" "Rule.blocks" vX ["self"] m4 x4)
  (y5:Dm K "__init__" "Split.__init__" wl ["self","folk","ones"] m5 x5)
  (y6:Dm K "__init__" "Pairs.__init__" u6 ["self","pairs","coin"] m6 x6)
  (y7:Dm K "__init__" "Coins.__init__" vS ["self","folk","coin","far"] m7 x7)
  (y8:Dm K "__init__" "Blocks.__init__" vu ["self","rules"] m8 x8)
  (y9:Dm K "__init__" "First.__init__" vI ["self","rule","many"] m9 x9)
  (OT:Dm K "state_ahead" "Blocks.state_ahead" Fz ["self","number"] RF Tu)
  (Mu:Dm K "__init__" "Measure.__init__" uw ["self","mark"] RG XU)
  (IX:Dm K "word" "Measure.word" vF ["self"] KD ç)
  (IY:Dm K "told" "Measure.told" wc ["self"] KG ł)
  (IZ:Dm K "scores" "Measure.scores" ww ["self","rule","outcomes"] KH Ky)
  (OU:Dm K "need_fit" "Measure.need_fit" vh ["self","rule","outcomes"] RH Tv)
  (Ja:Dm K "scored" "Measure.scored" wG ["self","rule","outcomes"] KI NC)
  (Sa:Dm K "__init__" "Sum.__init__" uY ["self"] OM Tw)
  (OV:Dm K "need_fit" "Sum.need_fit" uC ["self","rule","outcomes"] RI Tx)
  (OW:Dm K "among" "Sum.among" uN ["self","outcomes"] RJ Tz)
  (Sb:Dm K "__init__" "Ranks.__init__" uy ["self"] ON TB)
  (OX:Dm K "need_fit" "Ranks.need_fit" uW ["self","rule","outcomes"] RK TC)
  (OY:Dm K "among" "Ranks.among" ir ["self","outcomes"] RL TF)
  (Sd:Dm K "__init__" "Wins.__init__" uk ["self"] OO JP)
  (OZ:Dm K "among" "Wins.among" kX ["self","outcomes"] RM JQ)
  (Se:Dm K "__init__" "Signs.__init__" wk ["self"] OP Kx)
  (O0:Dm K "need_fit" "Signs.need_fit" uP ["self","rule","outcomes"] RN ś)
  (O1:Dm K "among" "Signs.among" kQ ["self","outcomes"] RO TJ)
  (hb:∀(s:Shared)(v:Value),BindsTo s Tt ⟨[v],[]⟩ [("_law_script",v)])
  : ∃ fd:FuncData,(∀(s:Shared)(v:Value),BindsTo s fd ⟨[v],[]⟩ [("_law_script",v)])/\∀ base:Heap,K.In base->base.Ns mainGlobals mg->Â l.prog w K mg base av 12 fa fd ["_law_script"] (pA K):=by
 have e:=XW.symm.trans Uu.mg;cases e;refine⟨_,hb,λ base _ _=>?_⟩;have Î:=mg_none_of X G zeK;have œ:=mg_none_of X G zeL;have ņ:=mg_none_of X G zeM;have í:=mg_none_of X G zeN;have ú:=mg_none_of X G zeO;have Ć:=mg_none_of X G zeP;have đ:=mg_none_of X G zeQ;have Ŵ:=mg_none_of X G zeR;have NQ:=mg_none_of X G zeS;have NR:=mg_none_of X G zeT;have NS:=mg_none_of X G zeU;have Þ:=mg_none_of X G zeV;have NT:=mg_none_of X G zeW;have Ŕ:=mg_none_of X G zeX;have T:qG K:=⟨gt,R9⟩;have mD:=mg_of X G aD;have o2:=GV B Y0 mD (mg_of X G a2) (dM (st:=jQ) Y4 Y5 Y6) Y7;have o3:=HB B Y1 mD (mg_of X G a3) (dM (st:=jS) Y8 Y9 Za) Zb;have o4:=F7 B TX mD (mg_of X G a4) (dM (st:=kC) Zc Zd Ze) Zf;have o5:=FV B TY mD (mg_of X G a5) (dM (st:=jV) Zg Zh Zj) Zk;have o6:=GU B Y2 mD (mg_of X G a6) (dM (st:=kj) Zl Zn Zo) Zp;have o7:=Hz B TZ mD (mg_of X G a7) (dM (st:=ke) Zq Zr Zs) Zt;have o8:=Gm B NF mD (mg_of X G a8) (dM (st:=jP) Zu Zv Zw) Zx;have o9:=GF B NG mD (mg_of X G a9) (dM (st:=ko) Zz ZA ZC) ZD;have o10:=Cq B RX mD (mg_of X G Y3) (dM (st:=iq) RY RZ R1) R3;have ą:=mg_of X G zeD;have Ň:=mg_of X G zeE;have ū:=mg_of X G zeF;have ň:=mg_of X G zeG;have Ĳ:=mg_of X G zeH;have Ĩ:=mg_of X G zeI;have ĳ:=mg_of X G zeJ;have JW:=mg_of X G R4;have ò:fG K R "__init__" m0:=⟨ZG,ZH,ZI,y0.kp⟩;have ŕ:=mg_of X G ZJ;have û:fG K MS "__init__" RG:=⟨ZL,ZM,ZN,Mu.kp⟩;have K9:=mg_of X G ZO;have ĩ:Ķ K C0:=⟨ZP,ZQ,ZR,ZS⟩;have NU:Mk K C0 m5:=⟨ZT,Z5,y5.å,ZU⟩;have Li:=mg_of X G zaS;have Ī:Ķ K C1:=⟨zaT,zaU,zaV,zaW⟩;have NV:Mk K C1 m6:=⟨zaX,zbb,y6.å,zaY⟩;have Lj:=mg_of X G zbq;have ī:Ķ K C2:=⟨zbr,zbs,zbt,zbu⟩;have NW:Mk K C2 m7:=⟨zbv,zbJ,y7.å,zbw⟩;have NX:=mg_of X G zbY;have Ē:Ķ K C3:=⟨zbZ,zb0,zb1,zb2⟩;have NY:Mk K C3 m8:=⟨zb3,zch,y8.å,zb4⟩;have Ll:=mg_of X G zcx;have Ĭ:Ķ K C4:=⟨zcy,zcz,zcA,zcB⟩;have NZ:Mk K C4 m9:=⟨zcC,zcQ,y9.å,zcD⟩;have N0:=mg_of X G zc5;have Ċ:Ķ K U0:=⟨zc6,zc7,zc8,zc9⟩;have N1:Mk K U0 OM:=⟨zda,zdh,Sa.å,zdb⟩;have N2:=mg_of X G zdt;have ċ:Ķ K U1:=⟨zdu,zdv,zdw,zdx⟩;have N3:Mk K U1 ON:=⟨zdy,zdF,Sb.å,zdz⟩;have N4:=mg_of X G zdR;have Č:Ķ K U2:=⟨zdS,zdT,zdU,zdV⟩;have N5:Mk K U2 OO:=⟨zdW,zd3,Sd.å,zdX⟩;have N6:=mg_of X G zef;have č:Ķ K U3:=⟨zeg,zeh,zei,zej⟩;have N7:Mk K U3 OP:=⟨zek,zer,Se.å,zel⟩;have Sf:=t5 (P:=l.prog) (w:=w) (mg:=mg) (base:=base) T e0.fn Î œ ņ;have GN:=(e0.df Sf);have Uv:=uL e1.fn Sf e0.bi e0.kp e0.mg;have GW:=(e1.df Uv);have GG:=e2.df (zk (P:=l.prog) (w:=w) (mg:=mg) (base:=base) e2.fn);have GPa:=e3.df (vL e3.fn Sf e0.bi e0.kp e0.mg Uv e1.bi e1.kp e1.mg);have GSh:=e4.df (xD T e4.fn GPa GG Î Ć í);have GM:=e5.df (C9 e5.fn B o3 GW);have GC:=e6.df (CQ e6.fn B o2 GW GSh Ĳ);have GP:=e7.df (Ce (P:=l.prog) (w:=w) (mg:=mg) (base:=base) e7.fn Ć ú);have Z:KR K (ff C0 C1 C2 C3 C4) R:={
  cls:=λ i hi=>match i,hi with
   | 0,_=>ĩ
   | 1,_=>Ī
   | 2,_=>ī
   | 3,_=>Ē
   | 4,_=>Ĭ
  no:=λ i hi=>match i,hi with
   | 0,_=>E2 ZX ZY ZZ Z0 Z1 Z2 Z3 Z4
   | 1,_=>E2 za3 za4 za5 za6 za7 za8 za9 zba
   | 2,_=>E2 zbB zbC zbD zbE zbF zbG zbH zbI
   | 3,_=>E2 zb9 zca zcb zcc zcd zce zcf zcg
   | 4,_=>E2 zcI zcJ zcK zcL zcM zcN zcO zcP
  ha:=λ i hi=>match i,hi with
   | 0,_=>ZV
   | 1,_=>zaZ
   | 2,_=>zbx
   | 3,_=>zb5
   | 4,_=>zcE
  hn:=gt
  Ŗ:=R9
  hm:=λ i hi=>match i,hi with
   | 0,_=>ZW
   | 1,_=>za0
   | 2,_=>zby
   | 3,_=>zb6
   | 4,_=>zcF
  kk:=λ i j hi hj=>match i,j,hi,hj with
   | 0,0,_,_=>aC NH NI Mn Mn
   | 0,1,_,_=>aC LU NJ Mo zaJ
   | 0,2,_,_=>aC NK NL Mp zaK
   | 0,3,_,_=>aC NM NN Mq zaL
   | 0,4,_,_=>aC NO NP Mt zaM
   | 1,0,_,_=>aC NH NI Mn zbg
   | 1,1,_,_=>aC LU NJ Mo Mo
   | 1,2,_,_=>aC NK NL Mp zbi
   | 1,3,_,_=>aC NM NN Mq zbj
   | 1,4,_,_=>aC NO NP Mt zbk
   | 2,0,_,_=>aC NH NI Mn zbO
   | 2,1,_,_=>aC LU NJ Mo zbP
   | 2,2,_,_=>aC NK NL Mp Mp
   | 2,3,_,_=>aC NM NN Mq zbR
   | 2,4,_,_=>aC NO NP Mt zbS
   | 3,0,_,_=>aC NH NI Mn zcn
   | 3,1,_,_=>aC LU NJ Mo zco
   | 3,2,_,_=>aC NK NL Mp zcp
   | 3,3,_,_=>aC NM NN Mq Mq
   | 3,4,_,_=>aC NO NP Mt zcr
   | 4,0,_,_=>aC NH NI Mn zcV
   | 4,1,_,_=>aC LU NJ Mo zcW
   | 4,2,_,_=>aC NK NL Mp zcX
   | 4,3,_,_=>aC NM NN Mq zcY
   | 4,4,_,_=>aC NO NP Mt Mt
  kR:=λ i hi=>match i,hi with
   | 0,_=>aC JT JU JV zaN
   | 1,_=>aC JT JU JV zbl
   | 2,_=>aC JT JU JV zbT
   | 3,_=>aC JT JU JV zcs
   | 4,_=>aC JT JU JV zc0
  kl:=λ i hi=>match i,hi with
   | 0,_=>bn (by decide +kernel) zaP
   | 1,_=>bn (by decide +kernel) zbn
   | 2,_=>bn (by decide +kernel) zbV
   | 3,_=>bn (by decide +kernel) zcu
   | 4,_=>bn (by decide +kernel) zc2
  kt:=λ i hi=>match i,hi with
   | 0,_=>bn (by decide +kernel) zaO
   | 1,_=>bn (by decide +kernel) zbm
   | 2,_=>bn (by decide +kernel) zbU
   | 3,_=>bn (by decide +kernel) zct
   | 4,_=>bn (by decide +kernel) zc1
  ki:=λ i hi=>match i,hi with
   | 0,_=>bn (by decide +kernel) zaQ
   | 1,_=>bn (by decide +kernel) zbo
   | 2,_=>bn (by decide +kernel) zbW
   | 3,_=>bn (by decide +kernel) zcv
   | 4,_=>bn (by decide +kernel) zc3
  kb:=λ i hi=>match i,hi with
   | 0,_=>bn (by decide +kernel) zaR
   | 1,_=>bn (by decide +kernel) zbp
   | 2,_=>bn (by decide +kernel) zbX
   | 3,_=>bn (by decide +kernel) zcw
   | 4,_=>bn (by decide +kernel) zc4
 }
 have I0:=BS (P:=l.prog) (w:=w) (mg:=mg) (base:=base) Z y0.fn;have I1:=xP (P:=l.prog) (w:=w) (mg:=mg) (base:=base) Z y1.fn;have I2:=AB (P:=l.prog) (w:=w) (mg:=mg) (base:=base) Z y2.fn;have I3:=zQ (P:=l.prog) (w:=w) (mg:=mg) (base:=base) Z y3.fn;have I4:=Ba (P:=l.prog) (w:=w) (mg:=mg) (base:=base) Z y4.fn đ;have Ma:bJ l.prog w K mg base av 1 "folk" ["self"] (qu (ff C0 C1 C2 C3 C4)) (λ _=>la (ff C0 C1 C2 C3 C4)):=by
  rintro c ⟨i,hi,rfl⟩
  match i,hi with
  | 0,_=>exact⟨ĩ,m1,x1,⟨Z6,y1.å,y1.kp⟩,I1,y1.bi⟩
  | 1,_=>exact⟨Ī,m1,x1,⟨zbc,y1.å,y1.kp⟩,I1,y1.bi⟩
  | 2,_=>exact⟨ī,m1,x1,⟨zbK,y1.å,y1.kp⟩,I1,y1.bi⟩
  | 3,_=>exact⟨Ē,m1,x1,⟨zci,y1.å,y1.kp⟩,I1,y1.bi⟩
  | 4,_=>exact⟨Ĭ,m1,x1,⟨zcR,y1.å,y1.kp⟩,I1,y1.bi⟩
 have KJ:bJ l.prog w K mg base av 1 "begin" ["self"] (qu (ff C0 C1 C2 C3 C4)) (λ _=>iN (ff C0 C1 C2 C3 C4)):=by
  rintro c ⟨i,hi,rfl⟩
  match i,hi with
  | 0,_=>exact⟨ĩ,m2,x2,⟨Z7,y2.å,y2.kp⟩,I2,y2.bi⟩
  | 1,_=>exact⟨Ī,m2,x2,⟨zbd,y2.å,y2.kp⟩,I2,y2.bi⟩
  | 2,_=>exact⟨ī,m2,x2,⟨zbL,y2.å,y2.kp⟩,I2,y2.bi⟩
  | 3,_=>exact⟨Ē,m2,x2,⟨zcj,y2.å,y2.kp⟩,I2,y2.bi⟩
  | 4,_=>exact⟨Ĭ,m2,x2,⟨zcS,y2.å,y2.kp⟩,I2,y2.bi⟩
 have Mb:bJ l.prog w K mg base av 1 "told" ["self"] (qu (ff C0 C1 C2 C3 C4)) (λ _=>jq (ff C0 C1 C2 C3 C4)):=by
  rintro c ⟨i,hi,rfl⟩
  match i,hi with
  | 0,_=>exact⟨ĩ,m3,x3,⟨Z8,y3.å,y3.kp⟩,I3,y3.bi⟩
  | 1,_=>exact⟨Ī,m3,x3,⟨zbe,y3.å,y3.kp⟩,I3,y3.bi⟩
  | 2,_=>exact⟨ī,m3,x3,⟨zbM,y3.å,y3.kp⟩,I3,y3.bi⟩
  | 3,_=>exact⟨Ē,m3,x3,⟨zck,y3.å,y3.kp⟩,I3,y3.bi⟩
  | 4,_=>exact⟨Ĭ,m3,x3,⟨zcT,y3.å,y3.kp⟩,I3,y3.bi⟩
 have JX:bJ l.prog w K mg base av 1 "blocks" ["self"] (qu (ff C0 C1 C2 C3 C4)) (λ _=>rO (ff C0 C1 C2 C3 C4)):=by
  rintro c ⟨i,hi,rfl⟩
  match i,hi with
  | 0,_=>exact⟨ĩ,m4,x4,⟨Z9,y4.å,y4.kp⟩,I4,y4.bi⟩
  | 1,_=>exact⟨Ī,m4,x4,⟨zbf,y4.å,y4.kp⟩,I4,y4.bi⟩
  | 2,_=>exact⟨ī,m4,x4,⟨zbN,y4.å,y4.kp⟩,I4,y4.bi⟩
  | 3,_=>exact⟨Ē,m4,x4,⟨zcl,y4.å,y4.kp⟩,I4,y4.bi⟩
  | 4,_=>exact⟨Ĭ,m4,x4,⟨zcU,y4.å,y4.kp⟩,I4,y4.bi⟩
 have Mm:Ms l.prog w K mg base (ff C0 C1 C2 C3 C4):=⟨Ma,KJ,Mb,JX⟩;have I10:=E3 Z OT.fn Mm í;have MA:bJ l.prog w K mg base av 2 "state_ahead" ["self","number"] (λ c=>c=(ff C0 C1 C2 C3 C4) 3) (λ _=>yW (ff C0 C1 C2 C3 C4)):=by
  rintro c rfl;exact⟨Ē,RF,Tu,⟨zcm,OT.å,OT.kp⟩,I10,OT.bi⟩
 have GMB:=e8.df (Bm (P:=l.prog) (w:=w) (mg:=mg) (base:=base) (K:=K) (C:=ff C0 C1 C2 C3 C4) e8.fn K9 Li Lj Î);have GAB:=e9.df (Ea T e9.fn GMB GW ň Î đ í NQ);have GPO:=T3.df (EN T3.fn Mm Ć ú);have GPB:=T4.df (Cd (P:=l.prog) (w:=w) (mg:=mg) (base:=base) T4.fn Ć í);have I5:=zY y5.fn ò I0 y0.bi JW GM GP ą;have I6:=Be Z y6.fn ò I0 y0.bi JW GM GP GC Ň;have I7:=yg Z y7.fn ò I0 y0.bi JW GM GP GC ą ū;have I8:=zC Z y8.fn Mm MA B o6 o10 ò I0 y0.bi JW GAB GPO ą Ŵ Ć;have I9:=yX T Z y9.fn Mm ò I0 y0.bi JW GM GPB Ll Î;have Lk:ze l.prog w K mg base (ff C0 C1 C2 C3 C4) Nx Nw NA JS m5 m6 m7 m8 m9 x5 x6 x7 x8 x9:=⟨NU,NV,NW,NY,NZ,I5,I6,I7,I8,I9,y5.bi,y6.bi,y7.bi,y8.bi,y9.bi,K9,Li,Lj,NX,Ll⟩;have GIo:=T5.df (D9 T T5.fn GW Ĩ ĳ Î Ć í ņ);have Uw:=T6.df (Ep T6.fn B o7 GIo);have GNs:=T7.df (Bc T T7.fn B o4 Uw Î đ Þ);have GOf:=T8.df (BQ T8.fn B o4 GNs í);have GSg:=T9.df (CJ (P:=l.prog) (w:=w) (mg:=mg) (base:=base) T9.fn);have Ux:=Ua.df (Ey Ua.fn Uw GSg);have Uy:=Ub.df (yS (P:=l.prog) (w:=w) (mg:=mg) (base:=base) Ub.fn B o8 Þ);have GBm:=Uc.df (DI Uc.fn Mm);have GNp:=Ud.df (CL Ud.fn Mm B o9 GBm Þ NT í);have Zm:KM K (dA U0 U1 U2 U3):=⟨λ i hi=>match i,hi with
   | 0,_=>Ċ
   | 1,_=>ċ
   | 2,_=>Č
   | 3,_=>č,λ i hi=>match i,hi with
   | 0,_=>zdg
   | 1,_=>zdE
   | 2,_=>zd2
   | 3,_=>zeq⟩
 have Zi:AQ K (dA U0 U1 U2 U3) MS:=⟨λ i hi=>match i,hi with
   | 0,_=>zdc
   | 1,_=>zdA
   | 2,_=>zdY
   | 3,_=>zem,gt,R9,λ i hi=>match i,hi with
   | 0,_=>zdd
   | 1,_=>zdB
   | 2,_=>zdZ
   | 3,_=>zen,λ i hi=>match i,hi with
   | 0,_=>aC OQ OR OS zds
   | 1,_=>aC OQ OR OS zdQ
   | 2,_=>aC OQ OR OS zee
   | 3,_=>aC OQ OR OS zeC⟩
 have dj:∀ i j,i<4->j<4->(dA U0 U1 U2 U3) i=(dA U0 U1 U2 U3) j->i=j:=λ i j hi hj=>match i,j,hi,hj with
   | 0,0,_,_=>λ _=>rfl
   | 0,1,_,_=>λ e=>absurd e (du R6 zdp)
   | 0,2,_,_=>λ e=>absurd e (du R7 zdq)
   | 0,3,_,_=>λ e=>absurd e (du R8 zdr)
   | 1,0,_,_=>λ e=>absurd e (du R5 zdM)
   | 1,1,_,_=>λ _=>rfl
   | 1,2,_,_=>λ e=>absurd e (du R7 zdO)
   | 1,3,_,_=>λ e=>absurd e (du R8 zdP)
   | 2,0,_,_=>λ e=>absurd e (du R5 zea)
   | 2,1,_,_=>λ e=>absurd e (du R6 zeb)
   | 2,2,_,_=>λ _=>rfl
   | 2,3,_,_=>λ e=>absurd e (du R8 zed)
   | 3,0,_,_=>λ e=>absurd e (du R5 zey)
   | 3,1,_,_=>λ e=>absurd e (du R6 zez)
   | 3,2,_,_=>λ e=>absurd e (du R7 zeA)
   | 3,3,_,_=>λ _=>rfl
 have O2:=BO (P:=l.prog) (w:=w) (mg:=mg) (base:=base) Zm Mu.fn;have O3:=xH (P:=l.prog) (w:=w) (mg:=mg) (base:=base) Zm IX.fn;have O4:=AN (P:=l.prog) (w:=w) (mg:=mg) (base:=base) Zm IY.fn;have J17:=yO Sa.fn û O2 Mu.bi ŕ;have J20:=BB Sb.fn û O2 Mu.bi ŕ;have J23:=Bg Sd.fn û O2 Mu.bi ŕ;have J25:=yD Se.fn û O2 Mu.bi ŕ;have J19:=FM (MC:=(dA U0 U1 U2 U3)) dj (AS (P:=l.prog) (w:=w) (mg:=mg) (base:=base) OW.fn);have J22:=G8 (MC:=(dA U0 U1 U2 U3)) dj (BF (P:=l.prog) (w:=w) (mg:=mg) (base:=base) OY.fn Ŕ);have J24:=Gz (MC:=(dA U0 U1 U2 U3)) dj (Ai OZ.fn Ux Ŵ);have J27:=G6 (MC:=(dA U0 U1 U2 U3)) dj (AR O1.fn Ux Þ);have J18:=F3 (C:=(ff C0 C1 C2 C3 C4)) (CN:=Ka) (MC:=(dA U0 U1 U2 U3)) dj (zt OV.fn Uy);have J21:=Hc (C:=(ff C0 C1 C2 C3 C4)) (CN:=Ka) (MC:=(dA U0 U1 U2 U3)) dj (yC OX.fn Uy);have J15:=Hn (C:=(ff C0 C1 C2 C3 C4)) (CU:=KC) (CN:=Ka) (MC:=(dA U0 U1 U2 U3)) dj (Bw (P:=l.prog) (w:=w) (mg:=mg) (base:=base) OU.fn);have J26:=Gv (CU:=KC) (MC:=(dA U0 U1 U2 U3)) dj (yK O0.fn GNp);have Mam:bJ l.prog w K mg base av 7 "among" ["self","outcomes"] (j5 (dA U0 U1 U2 U3)) (jW (dA U0 U1 U2 U3)):=by
  rintro c ⟨i,hi,rfl⟩
  match i,hi with
  | 0,_=>exact⟨Ċ,RJ,Tz,⟨zdn,OW.å,OW.kp⟩,J19,OW.bi⟩
  | 1,_=>exact⟨ċ,RL,TF,⟨zdL,OY.å,OY.kp⟩,J22,OY.bi⟩
  | 2,_=>exact⟨Č,RM,JQ,⟨zd9,OZ.å,OZ.kp⟩,J24,OZ.bi⟩
  | 3,_=>exact⟨č,RO,TJ,⟨zex,O1.å,O1.kp⟩,J27,O1.bi⟩
 have Mft:bJ l.prog w K mg base (cK l.prog w) 5 "need_fit" ["self","rule","outcomes"] (j5 (dA U0 U1 U2 U3)) (jB (ff C0 C1 C2 C3 C4) (dA U0 U1 U2 U3) KC Ka):=by
  rintro c ⟨i,hi,rfl⟩
  match i,hi with
  | 0,_=>exact⟨Ċ,RI,Tx,⟨zdl,OV.å,OV.kp⟩,J18,OV.bi⟩
  | 1,_=>exact⟨ċ,RK,TC,⟨zdJ,OX.å,OX.kp⟩,J21,OX.bi⟩
  | 2,_=>exact⟨Č,RH,Tv,⟨zd7,OU.å,OU.kp⟩,J15,OU.bi⟩
  | 3,_=>exact⟨č,RN,ś,⟨zev,O0.å,O0.kp⟩,J26,O0.bi⟩
 have O5:=Av Ja.fn Mam;have Msd:bJ l.prog w K mg base av 8 "scored" ["self","rule","outcomes"] (j5 (dA U0 U1 U2 U3)) (nH (dA U0 U1 U2 U3)):=by
  rintro c ⟨i,hi,rfl⟩
  match i,hi with
  | 0,_=>exact⟨Ċ,KI,NC,⟨zdm,Ja.å,Ja.kp⟩,uX O5,Ja.bi⟩
  | 1,_=>exact⟨ċ,KI,NC,⟨zdK,Ja.å,Ja.kp⟩,uX O5,Ja.bi⟩
  | 2,_=>exact⟨Č,KI,NC,⟨zd8,Ja.å,Ja.kp⟩,uX O5,Ja.bi⟩
  | 3,_=>exact⟨č,KI,NC,⟨zew,Ja.å,Ja.kp⟩,uX O5,Ja.bi⟩
 have O6:=Bn IZ.fn Mm GOf Mft Msd;have Mss:bJ l.prog w K mg base (cK l.prog w) 9 "scores" ["self","rule","outcomes"] (j5 (dA U0 U1 U2 U3)) (λ _=>jZ (ff C0 C1 C2 C3 C4) (dA U0 U1 U2 U3) KC Ka):=by
  rintro c ⟨i,hi,rfl⟩
  match i,hi with
  | 0,_=>exact⟨Ċ,KH,Ky,⟨zdk,IZ.å,IZ.kp⟩,O6,IZ.bi⟩
  | 1,_=>exact⟨ċ,KH,Ky,⟨zdI,IZ.å,IZ.kp⟩,O6,IZ.bi⟩
  | 2,_=>exact⟨Č,KH,Ky,⟨zd6,IZ.å,IZ.kp⟩,O6,IZ.bi⟩
  | 3,_=>exact⟨č,KH,Ky,⟨zeu,IZ.å,IZ.kp⟩,O6,IZ.bi⟩
 have Mwd:bJ l.prog w K mg base av 1 "word" ["self"] (j5 (dA U0 U1 U2 U3)) (λ _=>pj (dA U0 U1 U2 U3)):=by
  rintro c ⟨i,hi,rfl⟩
  match i,hi with
  | 0,_=>exact⟨Ċ,KD,ç,⟨zdi,IX.å,IX.kp⟩,O3,IX.bi⟩
  | 1,_=>exact⟨ċ,KD,ç,⟨zdG,IX.å,IX.kp⟩,O3,IX.bi⟩
  | 2,_=>exact⟨Č,KD,ç,⟨zd4,IX.å,IX.kp⟩,O3,IX.bi⟩
  | 3,_=>exact⟨č,KD,ç,⟨zes,IX.å,IX.kp⟩,O3,IX.bi⟩
 have Mtl:bJ l.prog w K mg base av 1 "told" ["self"] (j5 (dA U0 U1 U2 U3)) (λ _=>p8 (dA U0 U1 U2 U3)):=by
  rintro c ⟨i,hi,rfl⟩
  match i,hi with
  | 0,_=>exact⟨Ċ,KG,ł,⟨zdj,IY.å,IY.kp⟩,O4,IY.bi⟩
  | 1,_=>exact⟨ċ,KG,ł,⟨zdH,IY.å,IY.kp⟩,O4,IY.bi⟩
  | 2,_=>exact⟨Č,KG,ł,⟨zd5,IY.å,IY.kp⟩,O4,IY.bi⟩
  | 3,_=>exact⟨č,KG,ł,⟨zet,IY.å,IY.kp⟩,O4,IY.bi⟩
 have Lm:HP l.prog w K mg base (dA U0 U1 U2 U3) OM ON OO OP Tw TB JP Kx:=⟨N1,N3,N5,N7,J17,J20,J23,J25,Sa.bi,Sb.bi,Sd.bi,Se.bi,N0,N2,N4,N6⟩;have ZK:yT K mg D KC Ka Nz NB Ny:=⟨i3 NF,i3 NG,i3 TY,i3 TZ,i3 TX,rR B,sG NF Zy,sG NG ZE,l3 NF,BD B NG NF (by decide +kernel),l3 NG,mg_of X G a8,mg_of X G a9,mg_of X G a5,mg_of X G a7,mg_of X G a4,mD⟩
 have Lw:=Ue.df (Ek (P:=l.prog) (w:=w) (mg:=mg) (base:=base) T Ue.fn Î œ ņ);have Lt:=Ug.df (wv (P:=l.prog) (w:=w) (mg:=mg) (base:=base) Ug.fn í NS);have Lp:=Uh.df (D4 Uh.fn Lk Lt);have Lr:=Ui.df (B9 Ui.fn Lk Lt Lp ú NR œ đ í);have Lf:=Uj.df (ET (P:=l.prog) (w:=w) (mg:=mg) (base:=base) Uj.fn Ŵ í);have Lo:=Uk.df (Dh Uk.fn Lt ú);have Ls:=Ul.df (EE (P:=l.prog) (w:=w) (mg:=mg) (base:=base) Ul.fn œ);have La:=Um.df (Ee (P:=l.prog) (w:=w) (mg:=mg) (base:=base) Um.fn Ŕ);have Lc:=Uo.df (Da Uo.fn La Ls Þ Ŵ);have Lb:=Up.df (DZ (P:=l.prog) (w:=w) (mg:=mg) (base:=base) Up.fn Þ í);have Ld:=Uq.df (Cb Uq.fn ZK Mss);have Le:=Ur.df (ES Ur.fn Lk Lt í đ ú);have Lg:=Us.df (D8 Us.fn Lm);have Lh:=Ut.df (D7 T Ut.fn Ld Lb Lc Lw Î ņ đ í ú);exact yE Uu.fn ⟨Lt,Lr,Lo,Lf,Le,Lg,Lh,Mwd,Mtl,T,Zm,Zi,ŕ,Î,ú,œ,í⟩
theorem walk {l:OpenLaw}{q:Program}{loose:List Str}{XP:(Str->Option Value)->Heap->Prop}{YP:World->Heap->Prop}{d:DefRec}{K:Params->Frag}(hn:l.most=some 63)(MK:d.params.defaults=[])
  (hY:∀(w:World)(h:Heap),YP w h->(K w.params).In h)
  (F:∀(w:World)(mg:Str->Option Value)(fa:Addr)(h:Heap),(K w.params).In h->h.Ns mainGlobals mg->mg d.name=some (.ref fa) ->
   ∃ fd:FuncData,(∀(s:Shared)(u:Value),BindsTo s fd ⟨[u],[]⟩ [("_law_script",u)])/\∀ base:Heap,(K w.params).In base->base.Ns mainGlobals mg->Â l.prog w (K w.params) mg base av 12 fa fd ["_law_script"] (pA (K w.params))) :
  WalkO q loose XP YP l.row.toRowW d [] (λ f vs=>PySem.call f vs) :=
 L2.Jx (n:=63) (k:=12) (x:="_law_script") (CX:=λ _=>av) (sp:=λ w=>pA (K w.params)) hn (by decide) MK ⟨rfl,by decide,by decide,rfl⟩ hY F (λ _ _ a ns hl _ hS hz=>⟨a,ns,rfl,hS,hl,hz,λ _=>rfl⟩) λ _ _ _ _ _ z=>z
end My
open PySem PySem.W PyProof.Rows
namespace PySem.W.Fast
def tw9918694066059546714:=()
def tw1102133558206817458:=()
def tw550925494977221640:=()
def tw16542271643664738117:=()
def tw8921525420527460807:=()
def tw9966195869097424081:=()
def tw2713590512127319525:=()
def tw5130869978250420177:=()
def tw8606766339788183254:=()
def tw12173561868385669201:=()
def tw2039909128938009349:=()
def tw3625797829570944609:=()
def tw7111195500489635571:=()
def tw2385607376160516283:=()
def tw17045286832960578769:=()
def tw15474634728017663122:=()
def tw13161945215687168900:=()
def tw17466503865210080042:=()
def tw8474934807438635922:=()
def tw17161549480499551035:=()
def tw4708786810941464324:=()
def tw3524481819204525394:=()
def tw11284807516181265550:=()
def tw16053846588266415877:=()
def tw4544999359859286292:=()
def tw4982940268413732480:=()
def tw9505001917324270209:=()
def tw13054839570242736467:=()
def tw5278136709591670360:=()
def tw2298322310391790698:=()
def tw2090959112859761520:=()
def tw2554874087227683921:=()
def tw4115888017979132282:=()
def tw7643964989260536302:=()
def tw16568033165532639381:=()
def tw2393588740985744307:=()
def tw6560958915863108626:=()
def tw6452745830268710946:=()
def tw11753421994511373872:=()
def tw1801925271002302631:=()
def tw13285656639036274026:=()
def tw1807980484673038047:=()
def tw10811581902264413971:=()
def tw192923937736638515:=()
def tw3596486116763992511:=()
def tw3001795131767925909:=()
def tw10912018867254371040:=()
def tw7043521565046541581:=()
def tw12188308023289156708:=()
def tw432919851226069528:=()
def tw5488476832248728483:=()
def tw10187647478103441677:=()
def tw13086495216424269276:=()
def tw8365655741438168826:=()
def tw4213940254749803855:=()
def tw7480085943003817346:=()
def tw4124526023153357182:=()
def tw14171649501465448036:=()
def tw14548421641516679921:=()
def tw14789166877276025097:=()
def tw6080590908459049372:=()
def tw3711956933550775078:=()
def tw5612674321906209746:=()
def tw9140876545154670770:=()
def tw12627569216698864903:=()
def tw1972983125659908687:=()
def tw14962553636467970372:=()
def tw8060335107579201900:=()
def tw224909058397534191:=()
def tw14766876497313030752:=()
def tw15101464363696167229:=()
def tw692166400161937850:=()
def tw1451639343584967951:=()
def tw9564120050493353447:=()
def tw17858866495156088550:=()
def tw657029672440865736:=()
def tw17285962471784605445:=()
def tw15556436864299042692:=()
def tw4116214031053452288:=()
def tw5638638416829739989:=()
def tw13240547511511725572:=()
def tw7659044840897538706:=()
def tw8260014344924961683:=()
def tw5268402887590394011:=()
def tw14480478519148932327:=()
def tw14301366252437265115:=()
def tw14427161722505107259:=()
def tw3735994661541574150:=()
def tw3040556920454025109:=()
def tw1602065179187032896:=()
def tw4296113272369792568:=()
def tw1371511949495444996:=()
def tw9261812647205794575:=()
def tw16641145564967817210:=()
def tw8833621683827360265:=()
def tw2745383278900565582:=()
def tw17079020380229581065:=()
def tw5394261185640117055:=()
def tw11923015329397709185:=()
def tw15720620901993368536:=()
def tw13368251487077195317:=()
def tw14586853153847970058:=()
def tw2434804344427959887:=()
def tw4511659405048696262:=()
def tw10866975424305918544:=()
def tw3842359523087699224:=()
def tw17956051351985457164:=()
def tw7745266465346649543:=()
def tw2315209342615871453:=()
def tw4650934331029563933:=()
def tw1795944769569473152:=()
def tw8237731080036701943:=()
def tw9589299098418001014:=()
def tw2789053624151396617:=()
def tw2624906517925777808:=()
def tw5907461794253769274:=()
def tw8431725932229261706:=()
def tw7523352254247883306:=()
def tw9037900755254818476:=()
def tw16425719874317554490:=()
def tw17237542372428312926:=()
def tw10381198151965973515:=()
def tw7007191753842398800:=()
def tw9150345243274153193:=()
def tw4057407751072140883:=()
def tw3082464916590275203:=()
def tw7558535991568981671:=()
def tw17121409387639774265:=()
def tw17115391799005768740:=()
def tw2518297200358328857:=()
def tw7055540983328860715:=()
def tw1088375738394983615:=()
def tw500889511676051911:=()
def tw1230573758686300058:=()
def tw17683534013953098663:=()
def tw6030160691345586203:=()
def tw17840062183160366909:=()
def tw17764725772224260958:=()
def tw7525808096452064248:=()
def tw7227559824695283053:=()
def tw17586424452128154937:=()
def tw6047543380318130597:=()
def tw5125786783881062879:=()
def tw7826715800018404576:=()
def tw13549072196042729346:=()
def tw6469929272678122257:=()
def tw9919025902909575959:=()
def tw3005251500371384457:=()
def tw6024850418554519543:=()
def tw3409135889945900329:=()
def tw17342466613323826309:=()
def tw12179040463765628701:=()
def tw7531814427895780224:=()
def tw15880439595452529018:=()
def tw10036754244007769701:=()
def tw9920586704541489549:=()
def tw3387260339573388080:=()
def tw5457584647880152195:=()
def tw13843414955017691281:=()
def tw13015041748463664867:=()
def tw11051615397176636619:=()
def tw1851470564790065308:=()
def tw2697371010528428506:=()
def tw3173012561921979976:=()
def tw7166049859926649970:=()
def tw6950307516182543585:=()
def tw1061890715762823964:=()
def tw1890018452185282714:=()
def tw11072260396901400676:=()
def tw8411594711313526029:=()
def tw8003791126890074245:=()
def tw14037256289736587027:=()
def tw6201624260938010056:=()
def tw3722845129866031507:=()
def tw16460707780263817467:=()
def tw9137598676853352382:=()
def tw8834421867335325121:=()
def tw10685037400677833697:=()
def tw1107831796584591863:=()
def tw12207431304351116908:=()
def tw15548852337163947406:=()
def tw16022912373234537928:=()
def tw8140594015752277087:=()
def tw16962166770862323660:=()
def tw10082163680330076698:=()
def tw16452941566497384726:=()
def tw3603702983997287567:=()
def tw13961027713001337965:=()
def tw15689040963701257541:=()
def tw12235730796610082829:=()
def tw2924744645681398799:=()
def tw14324182478255439938:=()
def tw6119782321199394235:=()
def tw14028875981335764777:=()
def tw14417782166160537139:=()
def tw16447391649722367864:=()
def tw16455069041774845848:=()
def tw16269819613553967753:=()
def tw14429084439085669270:=()
def tw7033494877624824832:=()
def tw3860447849333050581:=()
def tw16624015917342644626:=()
def tw2938642928715983032:=()
def tw4819133311848580023:=()
def tw9558938062708174202:=()
def tw1461864128524374244:=()
def tw12801270165783606336:=()
def tw3620254744620225682:=()
def tw4599526667772488033:=()
def tw17421515038880583985:=()
def tw2938172760512069608:=()
def tw15101972031924188013:=()
def tw4847850144388093401:=()
def tw14357646223999885957:=()
def tw3718998468514499406:=()
def tw11325460172345534221:=()
def tw12187630829613700639:=()
def tw2386826838203023062:=()
def tw11751018042082595161:=()
def tw5894029619776794270:=()
def tw15076625776383197729:=()
def tw947956861075041196:=()
def tw13417099045404907545:=()
def tw11507936785445690143:=()
def tw4314300687805779727:=()
def tw4417678973194786610:=()
def tw7890854896418767399:=()
def tw12791123832164470855:=()
def tw901711528825342810:=()
def tw6135695171436546833:=()
def tw13361848641731861980:=()
def tw11684436152040474085:=()
def tw16385968098767074667:=()
def tw7091724099270280167:=()
def tw14665009445647243058:=()
def tw922363733651578720:=()
def tw16315166684624282085:=()
def tw5255919704373997698:=()
def tw10675321382128982778:=()
def tw17943821225625739744:=()
def tw7229609496753315443:=()
def tw8395811545330531155:=()
def tw843978354425441772:=()
def tw13147595365366757076:=()
def tw5561897941697589089:=()
def tw1339259447793576635:=()
def tw17417580150069024503:=()
def tw9207856729867821751:=()
def tw1971142603404035762:=()
def tw4494700873113589269:=()
def tw6163015062117773041:=()
def tw17562555282322655259:=()
def tw7370269549322442788:=()
def tw9010570326837407577:=()
def tw14401040291905211424:=()
def tw13506491541010740808:=()
def tw7622455369957297352:=()
def tw11481978983002186670:=()
def tw13623930643245441528:=()
def tw245665775039243116:=()
def tw14350933923752711336:=()
def tw15516166096462856897:=()
def tw17554281619521493727:=()
def tw4228638434795017268:=()
def tw12498757530241982407:=()
def tw14198835991929118624:=()
def tw621185579256437535:=()
def tw12127149261709212173:=()
def tw8930646753052226718:=()
def tw14683678780359878959:=()
def tw12149856257690814115:=()
def tw4276559746568114005:=()
def tw16238158862814466520:=()
def tw2831158634356823861:=()
def tw14438715576056397785:=()
def tw14919510859999513694:=()
def tw3226210126222639619:=()
def tw17202098603851665027:=()
def tw15074384893675979662:=()
def tw17747137794807229774:=()
def tw17215341065755897155:=()
def tw6819935827355742183:=()
def tw17379079378812575454:=()
def tw16548035930103450480:=()
def tw16154540439304551655:=()
def tw243924999784093361:=()
def tw6580682452392649360:=()
def tw9505784450213436731:=()
def tw1639923667133744457:=()
def tw14977527678877778042:=()
def tw12175659760402059719:=()
def tw313674939139613362:=()
def tw9959589110117803024:=()
def tw13405199889884039218:=()
def tw15963374577382172230:=()
def tw7129796977395222708:=()
def tw2188044272351685465:=()
def tw17544413605534765335:=()
def tw18357156822302256177:=()
def tw18173634379948611253:=()
def tw9655619247646362353:=()
def tw9143191368664895517:=()
def tw3503095032067642070:=()
def tw14658583123665474480:=()
def tw3818892565566994542:=()
def tw15142483005764165508:=()
def tw13225566818357784606:=()
def tw5962724773429125203:=()
def tw16442722655034252295:=()
def tw10497370074506200180:=()
def tw17817008764065207328:=()
def tw2648952846601125367:=()
def tw8840635800655335726:=()
def tw1859715852847781464:=()
def tw14972695200092465636:=()
def tw538630338827183920:=()
def tw4943314782598066800:=()
def tw14610886038617041390:=()
def tw8054655695539245019:=()
def tw17799401170684611024:=()
def tw1351203653123419731:=()
def tw4973519663927178389:=()
def tw1292282379073152452:=()
def tw11793928629460062430:=()
def tw332105166183307972:=()
def tw13195514867567925355:=()
def tw9579998087506507877:=()
def tw619011322556619018:=()
def tw4611697250244113870:=()
def tw9867199473972052017:=()
def tw14273856889503205846:=()
def tw5993977335703711900:=()
def tw5276277251720012010:=()
def tw9784640095638806389:=()
def tw1684923566485636750:=()
def tw17681024449222609296:=()
def tw11407800865000284766:=()
def tw544506894689252182:=()
def tw18119943572916312052:=()
def tw15976814046031945936:=()
def tw6498324820080467598:=()
def tw7674224460472274362:=()
def tw5458792863211890497:=()
def tw16364829526189181822:=()
def tw5043882765103233401:=()
def tw7160602498407608444:=()
def tw3765903923319973864:=()
def tw8998484228103242630:=()
def tw684431744002337114:=()
def tw18406656525944137276:=()
def tw7886493802260025050:=()
def tw3368636617379878384:=()
def tw17818595340977756022:=()
def tw7127763664697486595:=()
def tw18089585016218388937:=()
def tw3993481458054100755:=()
def tw6329729835109842271:=()
def tw2567384251140902640:=()
def tw10022400316529397478:=()
def tw1602419094679952112:=()
def tw6491128525904247569:=()
def tw16258271519428658701:=()
def tw10565810603337554340:=()
def tw17838810951142595946:=()
def tw2183942158737191465:=()
def tw17355771213814222162:=()
def tw17866079088827989595:=()
def tw14362861467016366912:=()
def tw17543226378224821051:=()
def tw10722979064620760315:=()
def tw9559062665450785668:=()
def tw223635310332770274:=()
def tw16082271951959144473:=()
def tw15960462078868670815:=()
def tw4067644674457972412:=()
def tw2325445240975971601:=()
def tw7667603089483593075:=()
def tw9910432037511010013:=()
def tw5624480705691103599:=()
def tw15922117559758956910:=()
def tw12929503862936480371:=()
def tw8661836277599365904:=()
def tw16468853910956258476:=()
def tw16207244731340185474:=()
def tw16897640169743774783:=()
def tw4082049967387637394:=()
def tw10122067399615949328:=()
def tw12573151609843521102:=()
def tw362580535634477993:=()
def tw17595715803034078104:=()
def tw14321459177603803769:=()
def tw8789507087000512800:=()
def tw1650432709392557171:=()
def tw17189681786310060571:=()
def tw16469841861498630742:=()
def tw1515195574056682739:=()
def tw16033401939110140687:=()
def tw3084484131809719362:=()
def tw5626977460481494916:=()
def tw9331177434389322674:=()
def tw641663019694996206:=()
def tw9403472431654554577:=()
def tw5399438073729522368:=()
def tw16219194222772344201:=()
def tw7379337119301270966:=()
def tw15579339196903877413:=()
def tw8269882353177825936:=()
def tw4147129472915173192:=()
def tw14322523828187885876:=()
def tw14574186797328161127:=()
def tw10581975628783277446:=()
def tw12088188457955928521:=()
def tw8466001827873919434:=()
def tw7422098783356101550:=()
def tw6313986177804359284:=()
def tw13281909338362308306:=()
def tw6036693751377198946:=()
def tw11015582732116398802:=()
def tw14357670536834266776:=()
def tw1806371604847039029:=()
def tw8276137580633067661:=()
def tw6197190383894448819:=()
def tw410989971742923556:=()
def tw3187773041852413444:=()
def tw8880591484065897671:=()
def tw882203370641360194:=()
def tw8496153251682478199:=()
def tw11877272788020323440:=()
def tw18326591574401636626:=()
def tw2990002482747385560:=()
def tw2454172396888673993:=()
def tw10733066857513180468:=()
def tw8856341838658861182:=()
def tw10357975566036953095:=()
def tw17457327768189766338:=()
def tw5383544340838141446:=()
def tw13231877464909197079:=()
def tw3885024185744043628:=()
def tw5095368865990823593:=()
def tw6254038917211598319:=()
def tw14100371036970610839:=()
def tw3465704407966892000:=()
def tw18079621434178246931:=()
def tw13787448828283269172:=()
def tw10104530761723465001:=()
def tw5300137439494560895:=()
def tw9326388366153479154:=()
def tw1973703079011564767:=()
def tw9801866618079088831:=()
def tw5118027586535688695:=()
def tw7673036554762623714:=()
def tw9006991467187282948:=()
def tw9616314120492626963:=()
def tw13463292136030191983:=()
def tw16880365397253327355:=()
def tw17031609606254290401:=()
end PySem.W.Fast
set_option maxRecDepth 100000 in
set_option maxHeartbeats 0 in
theorem PySem.Challenge.cw_trialdeal_k16_scores_of_all_measures_holds : PySem.Challenge.rw_trialdeal_k16_scores_of_all_measures.Holds := by
 w_on;o_law;k_head;(case hw=>w_witness2)
 k_fill
 refine My.walk (l:=PySem.Challenge.rw_trialdeal_k16_scores_of_all_measures) rfl rfl (λ w h Y=>PySem.W.kIn_of Y) ?F
 case F =>
  intro w mg fa h KX G ML;refine' My.all_mk KX G ML (My.KA ?jaa ?jab ?jac ?jad ?jae ?jaf ?jag ?jah ?jai ?jaj ?jak ?jal) (My.ù "NoShare" ?jam ?jan ?jao ?jap ?jaq ?jar ?jas ?jat) (My.ù "NoNumber" ?jau ?jav ?jaw ?jax ?jay ?jaz ?jaA ?jaB) (My.ù "NoFolk" ?jaC ?jaD ?jaE ?jaF ?jaG ?jaH ?jaI ?jaJ) (My.ù "NoWeights" ?jaK ?jaL ?jaM ?jaN ?jaO ?jaP ?jaQ ?jaR) (My.ù "NoTrials" ?jaS ?jaT ?jaU ?jaV ?jaW ?jaX ?jaY ?jaZ) (My.ù "NoOutcome" ?ja0 ?ja1 ?ja2 ?ja3 ?ja4 ?ja5 ?ja6 ?ja7) (My.ù "NotSure" ?ja8 ?ja9 ?jba ?jbb ?jbc ?jbd ?jbe ?jbf) (My.ù "NoPairs" ?jbg ?jbh ?jbi ?jbj ?jbk ?jbl ?jbm ?jbn) (My.ù "TooMany" ?jbo ?jbp ?jbq ?jbr ?jbs ?jbt ?jbu ?jbv)
   ?jbw ?jbx ?jby ?jbz ?jbA ?jbB ?jbC ?jbD ?jbE ?jbF ?jbG ?jbH ?jbI ?jbJ ?jbK ?jbL ?jbM ?jbN ?jbO ?jbP ?jbQ ?jbR ?jbS ?jbT ?jbU ?jbV ?jbW ?jbX ?jbY ?jbZ ?jb0 ?jb1 ?jb2 ?jb3 ?jb4 ?jb5 ?jb6 ?jb7 ?jb8 ?jb9 ?jca ?jcb ?jcc ?jcd ?jce ?jcf ?jcg ?jch ?jci ?jcj ?jck ?jcl ?jcm ?jcn ?jco ?jcp ?jcq ?jcr ?jcs ?jct ?jcu ?jcv ?jcw ?jcx ?jcy ?jcz ?jcA ?jcB ?jcC ?jcD ?jcE ?jcF ?jcG ?jcH ?jcI ?jcJ ?jcK ?jcL ?jcM ?jcN ?jcO ?jcP ?jcQ ?jcR ?jcS ?jcT ?jcU ?jcV ?jcW ?jcX ?jcY ?jcZ ?jc0 ?jc1 ?jc2 ?jc3 ?jc4 ?jc5 ?jc6 ?jc7 ?jc8 ?jc9 ?jda ?jdb ?jdc ?jdd ?jde ?jdf ?jdg ?jdh ?jdi ?jdj ?jdk ?jdl ?jdm ?jdn ?jdo ?jdp ?jdq ?jdr ?jds ?jdt ?jdu ?jdv ?jdw ?jdx ?jdy ?jdz ?jdA ?jdB ?jdC ?jdD ?jdE ?jdF ?jdG ?jdH ?jdI ?jdJ ?jdK ?jdL ?jdM ?jdN ?jdO ?jdP ?jdQ ?jdR ?jdS ?jdT ?jdU ?jdV ?jdW ?jdX ?jdY ?jdZ ?jd0 ?jd1 ?jd2 ?jd3 ?jd4 ?jd5 ?jd6 ?jd7 ?jd8 ?jd9 ?jea ?jeb ?jec ?jed ?jee ?jef ?jeg ?jeh ?jei ?jej ?jek ?jel ?jem ?jen ?jeo ?jep ?jeq ?jer ?jes ?jet ?jeu ?jev ?jew ?jex ?jey ?jez ?jeA ?jeB ?jeC ?jeD ?jeE ?jeF ?jeG ?jeH ?jeI ?jeJ ?jeK ?jeL ?jeM ?jeN ?jeO ?jeP ?jeQ ?jeR ?jeS ?jeT ?jeU ?jeV ?jeW ?jeX ?jeY ?jeZ ?je0 ?je1 ?je2 ?je3 ?je4 ?je5 ?je6 ?je7 ?je8 ?je9 ?jfa ?jfb ?jfc ?jfd ?jfe ?jff ?jfg ?jfh ?jfi ?jfj ?jfk ?jfl ?jfm ?jfn ?jfo ?jfp ?jfq ?jfr ?jfs ?jft ?jfu ?jfv ?jfw ?jfx ?jfy ?jfz ?jfA ?jfB ?jfC ?jfD ?jfE ?jfF ?jfG ?jfH ?jfI ?jfJ ?jfK ?jfL ?jfM ?jfN ?jfO ?jfP ?jfQ ?jfR ?jfS ?jfT ?jfU ?jfV ?jfW ?jfX ?jfY ?jfZ ?jf0 ?jf1 ?jf2 ?jf3 ?jf4 ?jf5 ?jf6 ?jf7 ?jf8 ?jf9 ?jga ?jgb ?jgc ?jgd ?jge ?jgf ?jgg ?jgh ?jgi ?jgj ?jgk ?jgl ?jgm ?jgn ?jgo ?jgp ?jgq ?jgr ?jgs ?jgt ?jgu ?jgv ?jgw ?jgx ?jgy ?jgz ?jgA ?jgB ?jgC ?jgD ?jgE ?jgF ?jgG ?jgH ?jgI ?jgJ ?jgK ?jgL ?jgM ?jgN ?jgO ?jgP ?jgQ ?jgR ?jgS ?jgT ?jgU ?jgV ?jgW ?jgX ?jgY ?jgZ ?jg0 ?jg1 ?jg2 ?jg3 ?jg4 ?jg5 ?jg6 ?jg7 ?jg8 ?jg9 ?jha ?jhb ?jhc ?jhd ?jhe ?jhf ?jhg ?jhh ?jhi (My.Í My.WI KX G ?jhj ?jhk ?jhl ?jhm) (My.Í My.WJ KX G ?jhn ?jho ?jhp ?jhq) (My.Í My.WK KX G ?jhr ?jhs ?jht ?jhu) (My.Í My.WL KX G ?jhv ?jhw ?jhx ?jhy) (My.Í My.WM KX G ?jhz ?jhA ?jhB ?jhC) (My.Í My.WN KX G ?jhD ?jhE ?jhF ?jhG) (My.Í My.WO KX G ?jhH ?jhI ?jhJ ?jhK) (My.Í My.WQ KX G ?jhL ?jhM ?jhN ?jhO) (My.Í My.WR KX G ?jhP ?jhQ ?jhR ?jhS) (My.Í My.WS KX G ?jhT ?jhU ?jhV ?jhW) (My.Í My.QK KX G ?jhX ?jhY ?jhZ ?jh0) (My.Í My.QL KX G ?jh1 ?jh2 ?jh3 ?jh4) (My.Í My.QM KX G ?jh5 ?jh6 ?jh7 ?jh8) (My.Í My.QN KX G ?jh9 ?jia ?jib ?jic) (My.Í My.QO KX G ?jid ?jie ?jif ?jig) (My.Í My.QP KX G ?jih ?jii ?jij ?jik) (My.Í My.QQ KX G ?jil ?jim ?jin ?jio) (My.Í My.QR KX G ?jip ?jiq ?jir ?jis) (My.Í My.QS KX G ?jit ?jiu ?jiv ?jiw) (My.Í My.QT KX G ?jix ?jiy ?jiz ?jiA) (My.Í My.QU KX G ?jiB ?jiC ?jiD ?jiE) (My.Í My.QV KX G ?jiF ?jiG ?jiH ?jiI) (My.Í My.QW KX G ?jiJ ?jiK ?jiL ?jiM) (My.Í My.QX KX G ?jiN ?jiO ?jiP ?jiQ) (My.Í My.QY KX G ?jiR ?jiS ?jiT ?jiU) (My.Í My.QZ KX G ?jiV ?jiW ?jiX ?jiY) (My.Í My.Q0 KX G ?jiZ ?ji0 ?ji1 ?ji2) (My.Í My.Q1 KX G ?ji3 ?ji4 ?ji5 ?ji6) (My.Í My.Q2 KX G ?ji7 ?ji8 ?ji9 ?jja) (My.Í My.Q3 KX G ?jjb ?jjc ?jjd ?jje) (My.Í My.Q4 KX G ?jjf ?jjg ?jjh ?jji) (My.Í My.Q5 KX G ?jjj ?jjk ?jjl ?jjm) (My.Í My.Q6 KX G ?jjn ?jjo ?jjp ?jjq) (My.Í My.Q7 KX G ?jjr ?jjs ?jjt ?jju) (My.Í My.Q8 KX G ?jjv ?jjw ?jjx ?jjy) (My.Í My.Q9 KX G ?jjz ?jjA ?jjB ?jjC) (My.Ó My.WT ?jjD ?jjE ?jjF ?jjG) (My.Ó My.WU ?jjH ?jjI ?jjJ ?jjK) (My.Ó My.WV ?jjL ?jjM ?jjN ?jjO) (My.Ó My.WW ?jjP ?jjQ ?jjR ?jjS) (My.Ó My.WX ?jjT ?jjU ?jjV ?jjW) (My.Ó My.WY ?jjX ?jjY ?jjZ ?jj0) (My.Ó My.WZ ?jj1 ?jj2 ?jj3 ?jj4) (My.Ó My.W0 ?jj5 ?jj6 ?jj7 ?jj8) (My.Ó My.W2 ?jj9 ?jka ?jkb ?jkc) (My.Ó My.W3 ?jkd ?jke ?jkf ?jkg) (My.Ó My.Ra ?jkh ?jki ?jkj ?jkk) (My.Ó My.Rb ?jkl ?jkm ?jkn ?jko) (My.Ó My.Rc ?jkp ?jkq ?jkr ?jks) (My.Ó My.Rf ?jkt ?jku ?jkv ?jkw) (My.Ó My.Rg ?jkx ?jky ?jkz ?jkA) (My.Ó My.Rh ?jkB ?jkC ?jkD ?jkE) (My.Ó My.Ri ?jkF ?jkG ?jkH ?jkI) (My.Ó My.Rj ?jkJ ?jkK ?jkL ?jkM) (My.Ó My.Rk ?jkN ?jkO ?jkP ?jkQ) (My.Ó My.Rm ?jkR ?jkS ?jkT ?jkU) (My.Ó My.Rn ?jkV ?jkW ?jkX ?jkY) (My.Ó My.Ro ?jkZ ?jk0 ?jk1 ?jk2) (My.Ó My.Rp ?jk3 ?jk4 ?jk5 ?jk6) (My.Ó My.Rq ?jk7 ?jk8 ?jk9 ?jla) (My.Ó My.Rr ?jlb ?jlc ?jld ?jle) (My.Ó My.Rt ?jlf ?jlg ?jlh ?jli) (My.Ó My.Rv ?jlj ?jlk ?jll ?jlm) (My.Ó My.Rw ?jln ?jlo ?jlp ?jlq)
   (λ s v=>.of_eq rfl)
  case jbw | jbx | jby | jbz | jbA | jbB | jbC | jbD | jbE | jbF | jaa | jab=>k_is
  (case jac=>exact My.ũ rfl)
  (case jad=>first | rfl | decide +kernel)
  case jae | jaf | jag | jah | jai | jaj | jak | jal | jam | jan | jao | jap | jaq | jar | jas | jat | jau | jav | jaw | jax | jay | jaz | jaA | jaB | jaC | jaD | jaE | jaF | jaG | jaH | jaI | jaJ | jaK | jaL | jaM | jaN | jaO | jaP | jaQ | jaR | jaS | jaT | jaU | jaV | jaW | jaX | jaY | jaZ | ja0 | ja1 | ja2 | ja3 | ja4 | ja5 | ja6 | ja7 | ja8 | ja9 | jba | jbb | jbc | jbd | jbe | jbf | jbg | jbh | jbi | jbj | jbk | jbl | jbm | jbn | jbo | jbp | jbq | jbr | jbs | jbt | jbu | jbv | jcp | jcw | jcD | jdb | jdJ | jeh | jeQ | jfo | jfM | jga | jgy | jcs | jcz | jcW | jcX | jcY | jcZ | jc0 | jdu | jdv | jdw | jdx | jdy | jd2 | jd3 | jd4 | jd5 | jd6 | jeA | jeB | jeC | jeD | jeE | jeF | je9 | jfa | jfb | jfc | jfd | jfA | jfB | jfC | jfD | jfE | jfF | jfG | jfY | jfZ | jf0 | jf1 | jf2 | jf3 | jf4 | jgm | jgn | jgo | jgp | jgq | jgr | jgs | jgK | jgL | jgM | jgN | jgO | jgP | jgQ | jbG | jbH | jbI | jbJ | jbK | jbL | jbM | jbN | jbO | jbP | jbQ | jbR | jbS | jbT | jbU | jbV | jbW | jbX | jbY | jbZ | jb0 | jb1 | jb2 | jb3 | jb4 | jb5 | jb6 | jb7 | jb8 | jb9 | jca | jcb | jcc | jcd | jce | jcf | jcg | jch | jci | jcj | jck | jcl | jcm | jcn | jco | jcq | jcr | jct | jcu | jcv | jcx | jcy | jcA | jcB | jcC | jcE | jcF | jcG | jcH | jcI | jcJ | jcK | jcL | jcM | jcN | jcO | jcP | jcQ | jcR | jcS | jcT | jcU | jcV | jc1 | jc2 | jc3 | jc4 | jc5 | jc6 | jc7 | jc8 | jc9 | jda | jdc | jdd | jde | jdf | jdg | jdh | jdi | jdj | jdk | jdl | jdm | jdn | jdo | jdp | jdq | jdr | jds | jdt | jdz | jdA | jdB | jdC | jdD | jdE | jdF | jdG | jdH | jdI | jdK | jdL | jdM | jdN | jdO | jdP | jdQ | jdR | jdS | jdT | jdU | jdV | jdW | jdX | jdY | jdZ | jd0 | jd1 | jd7 | jd8 | jd9 | jea | jeb | jec | jed | jee | jef | jeg | jei | jej | jek | jel | jem | jen | jeo | jep | jeq | jer | jes | jet | jeu | jev | jew | jex | jey | jez | jeG | jeH | jeI | jeJ | jeK | jeL | jeM | jeN | jeO | jeP | jeR | jeS | jeT | jeU | jeV | jeW | jeX | jeY | jeZ | je0 | je1 | je2 | je3 | je4 | je5 | je6 | je7 | je8 | jfe | jff | jfg | jfh | jfi | jfj | jfk | jfl | jfm | jfn | jfp | jfq | jfr | jfs | jft | jfu | jfv | jfw | jfx | jfy | jfz | jfH | jfI | jfJ | jfK | jfL | jfN | jfO | jfP | jfQ | jfR | jfS | jfT | jfU | jfV | jfW | jfX | jf5 | jf6 | jf7 | jf8 | jf9 | jgb | jgc | jgd | jge | jgf | jgg | jgh | jgi | jgj | jgk | jgl | jgt | jgu | jgv | jgw | jgx | jgz | jgA | jgB | jgC | jgD | jgE | jgF | jgG | jgH | jgI | jgJ | jgR | jgS | jgT | jgU | jgV | jgW | jgX | jgY | jgZ | jg0 | jg1 | jg2 | jg3 | jg4 | jg5 | jg6 | jg7 | jg8 | jg9 | jha | jhb | jhc | jhd | jhe | jhf | jhg | jhh | jhi | jhj | jhk | jhl | jhm | jhn | jho | jhp | jhq | jhr | jhs | jht | jhu | jhv | jhw | jhx | jhy | jhz | jhA | jhB | jhC | jhD | jhE | jhF | jhG | jhH | jhI | jhJ | jhK | jhL | jhM | jhN | jhO | jhP | jhQ | jhR | jhS | jhT | jhU | jhV | jhW | jhX | jhY | jhZ | jh0 | jh1 | jh2 | jh3 | jh4 | jh5 | jh6 | jh7 | jh8 | jh9 | jia | jib | jic | jid | jie | jif | jig | jih | jii | jij | jik | jil | jim | jin | jio | jip | jiq | jir | jis | jit | jiu | jiv | jiw | jix | jiy | jiz | jiA | jiB | jiC | jiD | jiE | jiF | jiG | jiH | jiI | jiJ | jiK | jiL | jiM | jiN | jiO | jiP | jiQ | jiR | jiS | jiT | jiU | jiV | jiW | jiX | jiY | jiZ | ji0 | ji1 | ji2 | ji3 | ji4 | ji5 | ji6 | ji7 | ji8 | ji9 | jja | jjb | jjc | jjd | jje | jjf | jjg | jjh | jji | jjj | jjk | jjl | jjm | jjn | jjo | jjp | jjq | jjr | jjs | jjt | jju | jjv | jjw | jjx | jjy | jjz | jjA | jjB | jjC | jjD | jjE | jjF | jjG | jjH | jjI | jjJ | jjK | jjL | jjM | jjN | jjO | jjP | jjQ | jjR | jjS | jjT | jjU | jjV | jjW | jjX | jjY | jjZ | jj0 | jj1 | jj2 | jj3 | jj4 | jj5 | jj6 | jj7 | jj8 | jj9 | jka | jkb | jkc | jkd | jke | jkf | jkg | jkh | jki | jkj | jkk | jkl | jkm | jkn | jko | jkp | jkq | jkr | jks | jkt | jku | jkv | jkw | jkx | jky | jkz | jkA | jkB | jkC | jkD | jkE | jkF | jkG | jkH | jkI | jkJ | jkK | jkL | jkM | jkN | jkO | jkP | jkQ | jkR | jkS | jkT | jkU | jkV | jkW | jkX | jkY | jkZ | jk0 | jk1 | jk2 | jk3 | jk4 | jk5 | jk6 | jk7 | jk8 | jk9 | jla | jlb | jlc | jld | jle | jlf | jlg | jlh | jli | jlj | jlk | jll | jlm | jln | jlo | jlp | jlq=>k_is
