import PyProof.Rows.All
import Wide.All
import OpenK.AllK
import Wide.FinOn
import Lean
import PyProof.EqAt
import PyProof.EqKinds
import PyProof.TupleCall
import PyProof.ExcClass2
import PyProof.InstStoreFacts
import PyProof.ExcArgs
import PyProof.ExcInit
import PyProof.ExcBaseAll.ValueError
import KE.KIsAll
import PyProof.RulesRaise
import PyProof.RulesAs
import PyProof.RaisesMany
import PyProof.NeKinds
import PyProof.EnumFor
import PyProof.EnumStmt
import PyProof.EnumMake
import PyProof.Rows.EnumRows
import PyProof.CompFree
import KE.KIntText
import PyProof.StrBlockG
import PyProof.StrBlockH
import PyProof.StrWalks
import PyProof.Rows.StrNews2
import PyProof.Rows.StrOr
import PyProof.Rows.Digits
import PyProof.StrBlockL
import PyProof.MeetsStr2
import PyProof.CompMap
import KE.IntTextLaws
import PyProof.Rows.StrPartPair
import PyProof.StrLawsTight
import PyProof.StrLawsChain
import PyProof.Rows.StrIntSpec
import PyProof.Rows.StrItems
import PyProof.ReprRoads
import PyProof.ReprBulk
import PyProof.FitsInt
import PyProof.CallFns
import PyProof.Rows.FactsT3
import PyProof.ListRange
import PyProof.TupleOfSeq
import PyProof.TupleOfGen
import PyProof.ConsumeWalk
import PyProof.Rows.SeqGen
import PyProof.CompUse
import KE.KUnpack
import PyProof.Draws
import PyProof.Rows.RuleB_bool
import PyProof.WalkInts
import PyProof.SeqI3
import KE.KRevSl
import KE.BitLaws
import PyProof.Rows.SumAny
import PyProof.ZipIter
import PyProof.TupleIter
import PyProof.WalksMore
import PyProof.Rows.FactsT2
import PyProof.Rows.SortWalk
import PyProof.Rows.SeqMore2
import PyProof.DictCompW
import PyProof.Cells
import PyProof.Rows.Range3
import PySem.Challenge.RW_trialdeal_k17_whole_wins_between_hands
set_option Elab.async false
set_option linter.all false
set_option maxRecDepth 100000
namespace L2
open PySem PySem.Spec PyProof.Rows
inductive Key where
 | inl (i:Int) | inr (x:Str) | non
 deriving DecidableEq
def iH:Key->Value->Bool
 | .inl k,v=>Value.isInt k v
 | .inr x,v=>Value.isStrOf x v
 | .non,v=>v == .none
def Eo (w:World):Key->Int
 | .inl k=>hashInt k
 | .inr x=>hashStr w x
 | .non=>0xFCA86420
theorem kT {prog:Program}{w:World}{A:Around}{E:Value->Shared->Prop}{s:Shared}{Q:Int->Shared->Prop}(h:Q 0xFCA86420 { s with toks:=s.toks+1 }):wpAny (model prog w) A (pyHash .none) Q E s:=by
 unfold pyHash;have hT:s.TypeIs .none "NoneType" := rfl;have hv:[Value.none].any Value.onHeap=false:=rfl;refine wpAny_bind ?_;rw [cRoomFor,if_neg (by rw [hv];exact Bool.false_ne_true)];refine wpAny_pure ?_
 refine wpAny_bind (wpAny_specialOf hT PySem.F.slot_NoneType_hash.lookup ?_);show wpAny _ _ (if(some (Value.builtin "NoneType.__hash__")==some Value.none)=true then _ else _) Q E s
 rw [if_neg (by rw [beq_builtin_none];exact Bool.false_ne_true)]
 refine wpAny_bind (wpAny_specialOf hT PySem.F.slot_NoneType_hash.lookup ?_);show wpAny _ _ (callSpecialIfBoundUnlessNone? .none "__hash__" _>>=_) Q E s;refine wpAny_bind (wpAny_callSpecialIfBoundUnlessNone?_slot hT PySem.F.slot_NoneType_hash
  (wpAny_call_entry PySem.F.slot_NoneType_hash hT PySem.F.entry_NoneType_hash
   (show wpAny _ _ (do ret (<- mkInt 0xFCA86420)) _ _ s from wpAny_ret_mkInt ?_) (PySem.F.args_NoneType_hash_1 _)))
 show wpAny _ _ (if(decide (-(2:Int)^63<=0xFCA86420)&&decide ((0xFCA86420:Int)<2^63))=true then _ else _) Q E _
 rw [if_pos (by decide)]
 exact wpAny_pure h
theorem aS:∀{k:Key}{v:Value},iH k v=true->(∃ i t,k=Key.inl i/\v=Value.int i t)\/(∃ x t,k=Key.inr x/\v=Value.str x t)\/(k=Key.non/\v=Value.none)
 | .inl i,v,h=>by
  obtain⟨t,e⟩:=Value.isInt_shape (k:=i) (v:=v) h;exact .inl ⟨i,t,rfl,e⟩
 | .inr x,v,h=>by
  obtain⟨t,e⟩:=Value.isStrOf_shape (x:=x) (v:=v) h;exact .inr (.inl ⟨x,t,rfl,e⟩)
 | .non,v,h=>.inr (.inr ⟨rfl,eq_of_beq h⟩)
theorem oA (i:Int)(t:Tok):iH (.inl i) (.int i t)=true:=by simp [iH,Value.isInt]
theorem pq (x:Str)(t:Tok):iH (.inr x) (.str x t)=true:=by simp [iH,Value.isStrOf]
theorem wz (a b:Int):decide (Key.inl a=Key.inl b)=(a==b):=by
 by_cases e:a=b
 ·subst e;simp
 ·rw [decide_eq_false (λ q=>e (Key.inl.inj q))];exact(beq_eq_false_iff_ne.mpr e).symm
theorem xX (a b:Str):decide (Key.inr a=Key.inr b)=decide (a=b):=by
 by_cases e:a=b
 ·subst e;simp
 ·rw [decide_eq_false (λ q=>e (Key.inr.inj q)),decide_eq_false e]
theorem zq (a:Int)(b:Str):decide (Key.inl a=Key.inr b)=false:=decide_eq_false (λ q=>nomatch q)
theorem wG (a:Str)(b:Int):decide (Key.inr a=Key.inl b)=false:=decide_eq_false (λ q=>nomatch q)
theorem yE (a:Int):decide (Key.inl a=Key.non)=false:=decide_eq_false (λ q=>nomatch q)
theorem xL (a:Int):decide (Key.non=Key.inl a)=false:=decide_eq_false (λ q=>nomatch q)
theorem yZ (a:Str):decide (Key.inr a=Key.non)=false:=decide_eq_false (λ q=>nomatch q)
theorem yt (a:Str):decide (Key.non=Key.inr a)=false:=decide_eq_false (λ q=>nomatch q)
def bu (prog:Program)(w:World):PySem.KeyKind prog w Key where
 is:=iH
 hash:=Eo w
 inj:=λ v a b ha hb=>by
  rcases aS ha with⟨i,t,rfl,rfl⟩ | ⟨x,t,rfl,rfl⟩ | ⟨rfl,rfl⟩
  ·rcases aS hb with⟨j,u,rfl,e⟩ | ⟨y,u,rfl,e⟩ | ⟨rfl,e⟩
   ·injection e with e1 _;rw [e1]
   ·exact nomatch e
   ·exact nomatch e
  ·rcases aS hb with⟨j,u,rfl,e⟩ | ⟨y,u,rfl,e⟩ | ⟨rfl,e⟩
   ·exact nomatch e
   ·injection e with e1 _;rw [e1]
   ·exact nomatch e
  ·rcases aS hb with⟨j,u,rfl,e⟩ | ⟨y,u,rfl,e⟩ | ⟨rfl,e⟩
   ·exact nomatch e
   ·exact nomatch e
   ·rfl
 byValue:=λ k v h=>by
  rcases aS h with⟨i,t,rfl,rfl⟩ | ⟨x,t,rfl,rfl⟩ | ⟨rfl,rfl⟩ <;> rfl
 pyHash:=λ hv h=>by
  rcases aS hv with⟨i,t,rfl,rfl⟩ | ⟨x,t,rfl,rfl⟩ | ⟨rfl,rfl⟩
  ·exact wpAny_pyHash_int h
  ·exact wpAny_pyHash_str h
  ·exact kT h
 eqBool:=λ hu hv h=>by
  rcases aS hu with⟨i,t,rfl,rfl⟩ | ⟨x,t,rfl,rfl⟩ | ⟨rfl,rfl⟩
  ·rcases aS hv with⟨j,u,rfl,rfl⟩ | ⟨y,u,rfl,rfl⟩ | ⟨rfl,rfl⟩
   ·rw [wz] at h;exact wpAny_eqBool_int h
   ·rw [zq] at h;exact SeqAt.EqAt.int_str i t y u _ _ _ _ h
   ·rw [yE] at h;exact SeqAt.EqAt.int_none i t _ _ _ _ h
  ·rcases aS hv with⟨j,u,rfl,rfl⟩ | ⟨y,u,rfl,rfl⟩ | ⟨rfl,rfl⟩
   ·rw [wG] at h;exact SeqAt.EqAt.str_int x t j u _ _ _ _ h
   ·rw [xX] at h;exact wpAny_eqBool_str h
   ·rw [yZ] at h;exact SeqAt.EqAt.str_none x t _ _ _ _ h
  ·rcases aS hv with⟨j,u,rfl,rfl⟩ | ⟨y,u,rfl,rfl⟩ | ⟨rfl,rfl⟩
   ·rw [xL] at h;exact SeqAt.EqAt.none_int j u _ _ _ _ h
   ·rw [yt] at h;exact SeqAt.EqAt.none_str y u _ _ _ _ h
   ·exact SeqAt.EqAt.same _ _ _ _ _ (by simpa using h)
 «strs» := λ k x t v h=>by
  rcases aS h with⟨i,u,rfl,e⟩ | ⟨y,u,rfl,e⟩ | ⟨rfl,e⟩
  ·exact nomatch e
  ·injection e with e1 _
   subst e1;cases v <;> rfl
  ·exact nomatch e
theorem mQ (prog:Program)(w:World)(k:Key)(v:Value):(bu prog w).is k v=iH k v:=rfl
theorem k8 (prog:Program)(w:World)(i:Int)(t:Tok):(bu prog w).is (.inl i) (.int i t)=true:=oA i t
theorem kK (prog:Program)(w:World)(x:Str)(t:Tok):(bu prog w).is (.inr x) (.str x t)=true:=pq x t
inductive V where
 | non | bl (b:Bool) | int (i:Int) | str (x:Str) | byt (b:Array UInt8) | flt (b:UInt64) | ref (a:Addr) | ty (n:String)
 deriving DecidableEq
def RelV:V->Value->Prop
 | .non,u=>u=Value.none
 | .bl b,u=>u=Value.bool b
 | .int i,u=>∃ t,u=Value.int i t
 | .str x,u=>∃ t,u=Value.str x t
 | .byt b,u=>∃ t,u=Value.bytes b t
 | .flt b,u=>∃ t,u=Value.float b t
 | .ref a,u=>u=Value.ref a
 | .ty n,u=>u=Value.type n
abbrev Vals:List V->List Value->Prop:=Paired RelV
theorem Vals.length {xs:List V}{us:List Value}(r:Vals xs us):xs.length=us.length:=Paired.length r
theorem Vals.get:∀{xs:List V}{us:List Value}{i:Nat}{x:V},Vals xs us->xs[i]?=some x->∃ u,us[i]?=some u/\RelV x u
 | _,_,_,_,.nil,e=>by simp at e
 | _,_,0,_,.cons r _,e=>by simp at e;subst e;exact⟨_,rfl,r⟩
 | _,_,i+1,x,.cons _ t,e=>by
  obtain⟨u,h1,h2⟩:=Vals.get (i:=i) (x:=x) t (by simpa using e)
  exact⟨u,by simpa using h1,h2⟩
theorem Vals.set {x:V}{u:Value}(r:RelV x u):∀{xs:List V}{us:List Value}(i:Nat),Vals xs us->Vals (xs.set i x) (us.set i u)
 | _,_,_,.nil=>.nil
 | _,_,0,.cons _ t=>.cons r t
 | _,_,i+1,.cons q t=>.cons q (Vals.set r i t)
theorem Vals.append:∀{xs ys:List V}{us ws:List Value},Vals xs us->Vals ys ws->Vals (xs++ys) (us++ws)
 | _,_,_,_,.nil,s=>s
 | _,_,_,_,.cons r t,s=>.cons r (Vals.append t s)
def RelO:Option V->Option Value->Prop
 | some v,some u=>RelV v u
 | none,none=>True
 | _,_=>False
def KV {κ:Type}:List (κ × V)->List (κ × Value)->Prop:=Paired λ (p:κ × V)(q:κ × Value)=>p.1=q.1/\RelV p.2 q.2
def kV:Key->V
 | .inl i=>.int i
 | .inr x=>.str x
 | .non=>.non
inductive HO where
 | lst (xs:List V)
 | tup (xs:List V)
 | dK (kvs:List (Key × V)) | dT (kvs:List (List Key × V))
 | set (S:Int->Bool)(n:Nat)
 | ins (C dx:Addr)(fs:List (Str × V))
 | own (x:Addr)
 | xd (fs:List (Str × V))
 | met (f x:Addr)
 | rng (lo hi:Int)
 | frz (o:Obj)(u:HO)
 | tbl (ps:Array Value)
 | ext (φ:Heap->Prop)
abbrev Hp:=Addr->Option HO
def ae (H:Hp)(a:Addr)(o:HO):Hp:=λ b=>if b=a then some o else H b
theorem aR {H:Hp}{a:Addr}{o:HO}:ae H a o a=some o:=by unfold ae;rw [if_pos rfl]
theorem ag {H:Hp}{a b:Addr}{o:HO}(h:b≠a):ae H a o b=H b:=by unfold ae;rw [if_neg h]
theorem eN {H:Hp}{a:Addr}{o u:HO}:ae (ae H a o) a u=ae H a u:=by
 funext b;unfold ae;split <;> rfl
theorem cK {H:Hp}{a b:Addr}{o:HO}(h:H a=some o)(h':H b=none):a≠b:=by
 intro e;subst e;rw [h] at h';cases h'
section
variable (P:Program)(w:World)
def ObjOk (H:Hp)(h:Heap)(a:Addr):HO->Prop
 | .lst xs=>xs.length<=sizeLine/\∃(its:List Value)(n:Nat),Vals xs its/\h.get? a=some { cls:=.type "list",data:=.seq its.toArray n }
 | .tup xs=>xs.length<=sizeLine/\∃ its:List Value,Vals xs its/\IsTup h a its.toArray
 | .dK kvs=>kvs.length<=sizeLine/\(a==sysModules)=false/\∃ vs,KV kvs vs/\h.DictOf (bu P w) a vs
 | .dT kvs=>kvs.length<=sizeLine/\(a==sysModules)=false/\∃ xs:List (List Key × Addr × Value),
   Paired (λ (p:List Key × V)(q:List Key × Addr × Value)=>p.1=q.1/\H q.2.1=some (.tup (p.1.map kV))/\RelV p.2 q.2.2) kvs xs /\
   ∃ o es ep,h.get? a=some o/\o.ExactDict/\o.data=.dict es ep/\es.toList=xs.map (entryOfKey (tupleKind (bu P w)))/\(xs.map (·.1)).Nodup
 | .set S n=>h.SetOf (intKind P w) a S n
 | .ins C dx fs=>H dx=some (.own a)/\fs.length<=1000/\dx≠a/\h.get? a=some (PySem.W.instObj C dx) /\
   ∃ mA,h.Ns1 dx mA/\(∀ f,RelO (fs.lookup f) (mA f))/\PySem.Within mA (fs.map (·.1))
 | .own _=>∃ o,h.get? a=some o
 | .xd fs=>∃ mA,h.Ns1 a mA/\∀ f,RelO (fs.lookup f) (mA f)
 | .rng lo hi=>∃ t u v,h.get? a=some { cls:=.type "range",data:=.fields #[.int lo t,.int hi u,.int 1 v] }
 | .frz o u=>h.get? a=some o/\ObjOk H h a u
 | .tbl ps=>h.get? a=some { cls:=.none,data:=.fields ps }
 | .met f x=>h.get? a=some (PySem.W.methodObj (.ref f) (.ref x))
 | .ext φ=>φ h/\(∃ o,h.get? a=some o)/\∀ h1 h2:Heap,φ h1->(∀ o,h1.get? a=some o->h2.get? a=some o)->φ h2
def HOk (H:Hp)(h:Heap):Prop:=∀ a o,H a=some o->ObjOk P w H h a o
end
section
variable {P:Program}{w:World}{H H':Hp}{h h':Heap}{a:Addr}{o:HO}
theorem ObjOk.lt (x:ObjOk P w H h a o):a<h.objs.size:=by
 cases o with
 | lst xs=>obtain⟨_,_,_,_,e⟩:=x;exact Heap.lt_size e
 | tup xs=>obtain⟨_,_,_,p⟩:=x;exact p.lt
 | dK kvs=>obtain⟨_,_,_,_,o,_,_,e,_⟩:=x;exact Heap.lt_size e
 | dT kvs=>obtain⟨_,_,_,_,o,_,_,e,_⟩:=x;exact Heap.lt_size e
 | set S n=>obtain⟨o,_,_,_,e,_⟩:=x;exact Heap.lt_size e
 | ins C dx fs=>obtain⟨_,_,_,e,_⟩:=x;exact Heap.lt_size e
 | own y=>obtain⟨_,e⟩:=x;exact Heap.lt_size e
 | xd fs=>obtain⟨_,⟨_,_,_,e,_⟩,_⟩:=x;exact Heap.lt_size e
 | rng lo hi=>obtain⟨_,_,_,e⟩:=x;exact Heap.lt_size e
 | frz ob u=>obtain⟨e,_⟩:=x;exact Heap.lt_size e
 | tbl ps=>exact Heap.lt_size (show h.get? a=some _ from x)
 | met f y=>exact Heap.lt_size (show h.get? a=some _ from x)
 | ext φ=>obtain⟨_,⟨_,e⟩,_⟩:=x;exact Heap.lt_size e
theorem Paired.mapP {α β:Type}{F G:α->β->Prop}:∀{l₁:List α}{l₂:List β},Paired F l₁ l₂->(∀ a b,F a b->G a b)->Paired G l₁ l₂
 | _,_,.nil,_=>.nil
 | _,_,.cons r t,f=>.cons (f _ _ r) (Paired.mapP t f)
theorem ObjOk.stay (x:ObjOk P w H h a o)(k:∀ b u,(b=a\/H b=some (.own a))->h.get? b=some u->h'.get? b=some u)
  (ho:∀ b,H b=some (.own a)->H' b=some (.own a))(ht:∀ b xs,H b=some (.tup xs)->H' b=some (.tup xs)):ObjOk P w H' h' a o:=by
 induction o with
 | lst xs=>obtain⟨z,its,n,r,e⟩:=x;exact⟨z,its,n,r,k _ _ (.inl rfl) e⟩
 | tup xs=>obtain⟨z,its,r,ob,e,c⟩:=x;exact⟨z,its,r,ob,k _ _ (.inl rfl) e,c⟩
 | dK kvs=>obtain⟨z,y,vs,r,ob,es,ep,e,c⟩:=x;exact⟨z,y,vs,r,ob,es,ep,k _ _ (.inl rfl) e,c⟩
 | dT kvs =>
  obtain⟨z,y,xs,r,ob,es,ep,e,c⟩:=x;exact⟨z,y,xs,Paired.mapP r λ p q z=>⟨z.1,ht _ _ z.2.1,z.2.2⟩,ob,es,ep,k _ _ (.inl rfl) e,c⟩
 | set S n=>obtain⟨ob,es,ep,t,e,c⟩:=x;exact⟨ob,es,ep,t,k _ _ (.inl rfl) e,c⟩
 | ins C dx fs =>
  obtain⟨d,z,ne,e,mA,⟨od,es,ep,e2,c⟩,r⟩:=x;exact⟨ho _ d,z,ne,k _ _ (.inl rfl) e,mA,⟨od,es,ep,k _ _ (.inr d) e2,c⟩,r⟩
 | own y=>obtain⟨ob,e⟩:=x;exact⟨ob,k _ _ (.inl rfl) e⟩
 | xd fs=>obtain⟨mA,⟨od,es,ep,e,c⟩,r⟩:=x;exact⟨mA,⟨od,es,ep,k _ _ (.inl rfl) e,c⟩,r⟩
 | rng lo hi=>obtain⟨t,u,v,e⟩:=x;exact⟨t,u,v,k _ _ (.inl rfl) e⟩
 | frz ob u ih=>obtain⟨e,q⟩:=x;exact⟨k _ _ (.inl rfl) e,ih q⟩
 | tbl ps =>
  have e:h.get? a=some { cls:=.none,data:=.fields ps }:=x;show h'.get? a=some { cls:=.none,data:=.fields ps };exact k a _ (.inl rfl) e
 | met f y =>
  have e:h.get? a=some (PySem.W.methodObj (.ref f) (.ref y)):=x;show h'.get? a=some (PySem.W.methodObj (.ref f) (.ref y));exact k a _ (.inl rfl) e
 | ext φ=>obtain⟨p,⟨o,e⟩,st⟩:=x;exact⟨st _ _ p λ o q=>k _ _ (.inl rfl) q,⟨o,k _ _ (.inl rfl) e⟩,st⟩
theorem HOk.lt (x:HOk P w H h)(e:H a=some o):a<h.objs.size:=(x a o e).lt
theorem HOk.fresh (x:HOk P w H h)(e:h.objs.size<=a):H a=none:=by
 cases q:H a with
 | none=>rfl
 | some u=>exact absurd (Nat.lt_of_lt_of_le (x.lt q) e) (Nat.lt_irrefl _)
theorem HOk.kept (x:HOk P w H h)(k:∀ b u,h.get? b=some u->h'.get? b=some u):HOk P w H h':=λ a o e =>
 (x a o e).stay (λ b u _ q=>k b u q) (λ _ q=>q) λ _ _ q=>q
theorem HOk.laid (x:HOk P w H h)(k:∀ b u,h.get? b=some u->h'.get? b=some u)(hp:h.objs.size<=a)(new:ObjOk P w (ae H a o) h' a o):HOk P w (ae H a o) h':=λ b u e=>by
 have hn:=x.fresh hp;by_cases hb:b=a
 ·subst hb;rw [aR] at e;cases e;exact new
 ·rw [ag hb] at e;exact(x b u e).stay (λ c v _ q=>k c v q) (λ c q=>by rw [ag (cK q hn)];exact q) λ c xs q=>by rw [ag (cK q hn)];exact q
end
def Rd (H:Hp)(a:Addr)(u:HO):Prop:=H a=some u\/∃ o,H a=some (.frz o u)
theorem Rd.ok {P:Program}{w:World}{H:Hp}{h:Heap}{a:Addr}{u:HO}(r:Rd H a u)(x:HOk P w H h):ObjOk P w H h a u:=by
 rcases r with r | ⟨o,r⟩
 ·exact x a u r
 ·obtain⟨_,q⟩:=x a _ r;exact q
def Cc:Option HO->Prop
 | some (.lst _)=>True
 | some (.dK _)=>True
 | some (.dT _)=>True
 | some (.set _ _)=>True
 | some (.ins _ _ _)=>True
 | some (.ext _)=>True
 | _=>False
section
variable {P:Program}{w:World}{H:Hp}{h h':Heap}{x e:Addr}{o':HO}
theorem HOk.write (ok:HOk P w H h)(mu:Cc (H x))(he:e=x\/H e=some (.own x))(k:∀ b u,b≠e->h.get? b=some u->h'.get? b=some u)(heo:∃ u,h'.get? e=some u)
  (new:ObjOk P w (ae H x o') h' x o'):HOk P w (ae H x o') h':=λ b u q=>by
 have nown:∀ c y,H c=some (.own y)->c≠x:=λ c y r z=>by subst z;rw [r] at mu;exact mu
 have ntup:∀ c xs,H c=some (.tup xs)->c≠x:=λ c xs r z=>by subst z;rw [r] at mu;exact mu
 by_cases hb:b=x
 ·subst hb;rw [aR] at q;cases q;exact new
 ·rw [ag hb] at q;by_cases hbe:b=e
  ·have q':H b=some (.own x):=by
    rcases he with z | z
    ·exact absurd (hbe.trans z) hb
    ·rw [hbe];exact z
   rw [q] at q';cases q';obtain⟨v,hv⟩:=heo;exact⟨v,by rw [hbe];exact hv⟩
  ·refine(ok b u q).stay (λ c v hc r=>k c v ?_ r) (λ c r=>by rw [ag (nown c b r)];exact r) λ c xs r=>by rw [ag (ntup c xs r)];exact r
   rcases hc with rfl | hc
   ·exact hbe
   ·rintro rfl;rcases he with z | z
    ·exact nown c b hc z
    ·rw [hc] at z;cases z;exact hb rfl
end
structure Un (fs ex:List Addr)(H H':Hp)(h h':Heap):Prop where
 keep:∀ b o,h.get? b=some o->H b=none->b ∉ fs->b ∉ ex->h'.get? b=some o
 slot:∀ b o,h.get? b=some o->H b=none->b∈fs->b ∉ ex->∃ sl,h'.get? b=some { o with slots:=sl }
 free:∀ b o,h.get? b=some o->H b=none->b ∉ ex->H' b=none
 there:∀ b o,h.get? b=some o->b ∉ ex->∃ o',h'.get? b=some o'
 tups:∀ b xs,H b=some (.tup xs)->H' b=some (.tup xs)
 frzs:∀ b o u,H b=some (.frz o u)->H' b=some (.frz o u)
 tbls:∀ b ps,H b=some (.tbl ps)->∃ more,H' b=some (.tbl (ps++more))
 sys:H sysModules=none->H' sysModules=none
section
variable {fs fs' ex ex':List Addr}{H H1 H2:Hp}{h h1 h2 h':Heap}{a x e:Addr}{o:HO}
theorem Un.any (u:Un fs ex H H1 h h1){b:Addr}{ob:Obj}(q:h.get? b=some ob)(n:H b=none)(hx:b ∉ ex):∃ sl,h1.get? b=some { ob with slots:=sl }:=by
 by_cases hb:b∈fs
 ·exact u.slot b ob q n hb hx
 ·exact⟨ob.slots,u.keep b ob q n hb hx⟩
theorem Un.kept (k:∀ b u,h.get? b=some u->h'.get? b=some u):Un fs ex H H h h' :=
 ⟨λ b ob q _ _ _=>k b ob q,λ b ob q _ _ _=>⟨ob.slots,k b ob q⟩,λ _ _ _ n _=>n,λ b ob q _=>⟨ob,k b ob q⟩,λ _ _ q=>q,λ _ _ _ q=>q,λ _ ps q=>⟨#[],by rw [q];simp⟩,λ q=>q⟩
theorem Un.refl:Un fs ex H H h h:=Un.kept λ _ _ q=>q
theorem Un.laid (k:∀ b u,h.get? b=some u->h'.get? b=some u)(hp:h.objs.size<=a)(hn:H a=none)(hz:sysModules<h.objs.size):Un fs ex H (ae H a o) h h' where
 sys:=λ q=>by rw [ag (Nat.ne_of_lt (Nat.lt_of_lt_of_le hz hp))];exact q
 keep:=λ b u q _ _ _=>k b u q
 slot:=λ b u q _ _ _=>⟨u.slots,k b u q⟩
 free:=λ b u q n _=>by rw [ag (Nat.ne_of_lt (Nat.lt_of_lt_of_le (Heap.lt_size q) hp))];exact n
 there:=λ b u q _=>⟨u,k b u q⟩
 tups:=λ b xs q=>by rw [ag (cK q hn)];exact q
 frzs:=λ b u xs q=>by rw [ag (cK q hn)];exact q
 tbls:=λ b ps q=>⟨#[],by rw [ag (cK q hn),q];simp⟩
theorem Un.write (mu:Cc (H x))(he:e=x\/H e=some (.own x))(k:∀ b u,b≠e->h.get? b=some u->h'.get? b=some u)(heo:∃ u,h'.get? e=some u):Un fs ex H (ae H x o) h h':=by
 have hx:∀ b,H b=none->b≠x:=λ b n z=>by subst z;rw [n] at mu;exact mu
 have hb:∀ b,H b=none->b≠e:=λ b n z=>by
  subst z;rcases he with r | r
  ·exact hx b n r
  ·rw [n] at r;cases r
 have hm:∀ b u,H b=some u->¬ Cc (some u)->b≠x:=λ b u q nm z=>by subst z;rw [q] at mu;exact nm mu
 refine⟨λ b u q n _ _=>k b u (hb b n) q,λ b u q n _ _=>⟨u.slots,k b u (hb b n) q⟩,λ b u q n _=>by rw [ag (hx b n)];exact n,λ b u q _=>?_,
  λ b xs q=>by rw [ag (hm b _ q λ z=>z)];exact q,λ b u xs q=>by rw [ag (hm b _ q λ z=>z)];exact q,λ b ps q=>⟨#[],by rw [ag (hm b _ q λ z=>z),q];simp⟩,λ q=>by rw [ag (hx _ q)];exact q⟩
 by_cases hbe:b=e
 ·subst hbe;exact heo
 ·exact⟨u,k b u hbe q⟩
end
def DQ (h:Heap)(H:Hp):List Addr:=(List.range h.objs.size).filter λ a=>(H a).isSome
def jW (h:Heap)(H:Hp):Heap:=PySem.W.hideAll h (DQ h H)
theorem oI (h:Heap)(H:Hp):(jW h H).objs.size=h.objs.size:=PySem.W.hideAll_size _ _
theorem qC {h:Heap}{H:Hp}{b:Addr}{o:Obj}(e:h.get? b=some o)(n:H b=none):(jW h H).get? b=some o :=
 PySem.W.hideAll_get _ e λ hm=>by
  have q:(H b).isSome=true:=(List.mem_filter.mp hm).2;rw [n] at q;simp at q
theorem uC {h:Heap}{H:Hp}{b:Addr}{o:Obj}(e:(jW h H).get? b=some o):h.get? b=some o/\H b=none:=by
 have e':h.get? b=some o:=PySem.W.of_hideAll (DQ h H) e;refine⟨e',?_⟩;cases q:H b with
 | none=>rfl
 | some x =>
  have hm:b∈DQ h H:=List.mem_filter.mpr ⟨List.mem_range.mpr (Heap.lt_size e'),by simp [q]⟩
  have z:(jW h H).get? b=none:=PySem.W.hideAll_none (DQ h H) hm;rw [z] at e;cases e
def sL (g h:Heap)(L:Addr):List (Addr × Obj):=(List.range h.objs.size).filterMap λ a=>if a=L\/(g.get? a).isSome=true then none else(h.get? a).map λ o=>(a,o)
def rest (g h:Heap)(L d:Addr):List (Addr × Obj):=(sL g h L).filter λ p=>decide (p.1≠d)
structure Mod (K:PySem.W.Frag)(mg:Str->Option Value)(base:Heap):Prop where
 kin:K.In base
 glob:base.Ns mainGlobals mg
 blt:∃ mb,base.Ns builtinsNs mb/\∀ x:Str,x ≠ "__name__" -> mb x=bootBuiltins x
 nolimit:base.NoLimit
structure Cx where
 prog:Program
 w:World
 K:PySem.W.Frag
 mg:Str->Option Value
 base:Heap
 A:Around
 N:List Str
 s₀:Shared
 H₀:Hp
 env:Env
 outer:List Env
 stack:List Env
 ex:List Addr
 fn:Str->Bool
 calm:Bool
 pn:List (Addr × Obj)
 xe:Value->Shared->Prop
def iW (l:List Env):List Addr:=l.filterMap (·.frame)
abbrev Cx.fs (X:Cx):List Addr:=iW X.outer
def vn (sc:Scope)(x:Str):Prop:=sc.names.lookup x=some .local\/sc.names.lookup x=some .cell\/sc.names.lookup x=some .free
def yD (sc:Scope)(x:Str):Prop:=sc.names.lookup x=some .local\/sc.names.lookup x=some .cell
def Ee (env:Env)(h:Heap)(m:Str->Option Value)(x:Str)(u:Value):Prop :=
 (env.kindOf x=some .local/\m x=some u)\/((env.kindOf x=some .cell\/env.kindOf x=some .free)/\∃ c,env.cells.lookup x=some c/\h.IsCell c (some u))
structure Cx.Ok (X:Cx):Prop where
 mod:Mod X.K X.mg X.base
 kind:X.env.scope.kind=.function
 glob:X.env.globals=mainGlobals
 blt:X.env.builtins=builtinsNs
 above:X.s₀.heap.objs.size<=X.env.locals
 inj:∀ x y c,X.env.cells.lookup x=some c->X.env.cells.lookup y=some c->x=y
 has:∀ x,(X.env.kindOf x=some .cell\/X.env.kindOf x=some .free)->∃ c,X.env.cells.lookup x=some c
 cab:∀ x c,X.fn x=true->X.env.cells.lookup x=some c->X.s₀.heap.objs.size<=c
 hd:X.calm=true->X.A.handled=none
 frames:X.A.frames=some X.stack
 stk:X.stack=X.outer\/(X.stack=X.env::X.outer/\X.env.frame=some X.env.locals)
 exf:∀ b∈X.ex,b≠X.env.locals/\∀ x c,X.env.cells.lookup x=some c->c≠b
 bs:∀ b o,X.base.get? b=some o->X.s₀.heap.get? b=some o/\X.H₀ b=none
 bsz:X.base.objs.size<=X.s₀.heap.objs.size
 noex:∀ b o,X.base.get? b=some o->b ∉ X.ex
 exfs:∀ b∈X.ex,b ∉ X.fs
 funs:X.s₀.heap.FunFrames X.base X.outer
 frf:∀ b∈X.fs,X.H₀ b=none
structure Inv (X:Cx)(pins:List (Addr × Obj))(σ:List (Option V))(H:Hp)(s:Shared):Prop where
 ok:X.Ok
 os:s.os=X.s₀.os
 bare:AllBare s.gens
 base:Un X.fs X.ex X.H₀ H X.s₀.heap s.heap
 loc:∃ m,s.heap.Ns X.env.locals m/\∀(i:Nat)(x:Str)(v:V),X.N[i]?=some x->σ[i]?=some (some v)->vn X.env.scope x->∃ u,RelV v u/\Ee X.env s.heap m x u
 cell:∀ x c,X.env.cells.lookup x=some c->∃ v,s.heap.IsCell c v
 free:H X.env.locals=none
 freeC:∀ x c,X.env.cells.lookup x=some c->H c=none
 pin:∀ p∈X.pn++pins,s.heap.get? p.1=some p.2/\H p.1=none/\p.1≠X.env.locals/\p.1 ∉ X.fs/\∀ v,p.2.data ≠ .cell v
 hok:HOk X.prog X.w H s.heap
 len:σ.length=X.N.length
section
variable {X:Cx}{pins:List (Addr × Obj)}{σ:List (Option V)}{H H':Hp}{s:Shared}{h':Heap}
theorem Cx.Ok.nofr (ok:X.Ok){b:Addr}{o:Obj}(e:X.base.get? b=some o):b ∉ X.fs:=λ hb=>by
 have:=(ok.funs.mem hb).1;rw [e] at this;cases this
theorem Inv.bs (I:Inv X pins σ H s):∀ b o,X.base.get? b=some o->s.heap.get? b=some o/\H b=none:=λ b o e =>
 ⟨I.base.keep b o (I.ok.bs b o e).1 (I.ok.bs b o e).2 (I.ok.nofr e) (I.ok.noex b o e),I.base.free b o (I.ok.bs b o e).1 (I.ok.bs b o e).2 (I.ok.noex b o e)⟩
theorem Inv.bk (I:Inv X pins σ H s):∀ b o,X.base.get? b=some o->s.heap.get? b=some o:=λ b o e=>(I.bs b o e).1
theorem Inv.mod (I:Inv X pins σ H s):Mod X.K X.mg X.base:=I.ok.mod
theorem Inv.kIn (I:Inv X pins σ H s):X.K.In s.heap:=I.ok.mod.kin.keeps I.bk
theorem Inv.lt (I:Inv X pins σ H s):X.env.locals<s.heap.objs.size:=let ⟨_,hn,_⟩:=I.loc;hn.lt
theorem Inv.sz (I:Inv X pins σ H s):X.s₀.heap.objs.size<=s.heap.objs.size:=Nat.le_trans I.ok.above (Nat.le_of_lt I.lt)
theorem Inv.nofs (I:Inv X pins σ H s){a:Addr}(h:s.heap.objs.size<=a):a ∉ X.fs:=λ hb=>by
 obtain⟨_,o,ho,_⟩:=I.ok.funs.mem hb;exact absurd (Nat.lt_of_lt_of_le (Heap.lt_size ho) (Nat.le_trans I.sz h)) (Nat.lt_irrefl _)
theorem Inv.cne (I:Inv X pins σ H s):∀ x c,X.env.cells.lookup x=some c->c≠X.env.locals:=λ x c e z=>by
 obtain⟨v,o,ho,hd⟩:=I.cell x c e;obtain⟨m,⟨o',es,ep,ho',hd',_⟩,_⟩:=I.loc;rw [z,ho'] at ho;cases ho;rw [hd'] at hd;cases hd
theorem Inv.funs (I:Inv X pins σ H s):s.heap.FunFrames X.base X.outer:=by
 have all:∀(l:List Env),(∀ b∈iW l,b∈X.fs)->X.s₀.heap.FunFrames X.base l->s.heap.FunFrames X.base l:=by
  intro l
  induction l with
  | nil=>intro _ _;trivial
  | cons env r ih =>
   intro hs hl;obtain⟨hk,⟨L,o,hf,hn,ho,hd⟩,hr⟩:=hl;have hL:L∈X.fs:=hs L (by unfold iW;rw [List.filterMap_cons,hf];exact List.mem_cons_self)
   obtain⟨sl,e⟩:=I.base.slot L o ho (I.ok.frf L hL) hL λ z=>I.ok.exfs L z hL;exact⟨hk,⟨L,_,hf,hn,e,hd⟩,ih (λ b hb=>hs b (by unfold iW;rw [List.filterMap_cons,hf];exact List.mem_cons_of_mem _ hb)) hr⟩
 exact all X.outer (λ _ hb=>hb) I.ok.funs
theorem Inv.stack (I:Inv X pins σ H s):s.heap.FunFrames X.base X.stack:=by
 rcases I.ok.stk with e | ⟨e,hf⟩
 ·rw [e];exact I.funs
 ·rw [e];obtain⟨m,hn,_⟩:=I.loc;refine .cons (by rw [I.ok.kind];decide) hf hn ?_ I.funs
  exact Heap.get?_none_of_le (Nat.le_trans I.ok.bsz I.ok.above)
theorem Inv.stkSub (I:Inv X pins σ H s):∀ b∈iW X.stack,b∈X.env.locals::X.fs:=λ b hb=>by
 rcases I.ok.stk with e | ⟨e,hf⟩
 ·rw [e] at hb;exact List.mem_cons_of_mem _ hb
 ·rw [e] at hb;unfold iW at hb;rw [List.filterMap_cons,hf] at hb;exact hb
theorem Inv.stkFree (I:Inv X pins σ H s):∀ b∈iW X.stack,H b=none:=λ b hb=>by
 rcases List.mem_cons.mp (I.stkSub b hb) with e | hb
 ·rw [e];exact I.free
 ·obtain⟨_,o,ho,_⟩:=I.ok.funs.mem hb;exact I.base.free b o ho (I.ok.frf b hb) λ z=>I.ok.exfs b z hb
theorem Inv.step {g':Array GenState}{t':Nat}{d':Drawn}{ch:List Addr}(I:Inv X pins σ H s)
  (hch:∀ b∈ch,(b∈X.ex\/X.s₀.heap.objs.size<=b)/\b≠X.env.locals/\(∀ x c,X.env.cells.lookup x=some c->c≠b)/\∀ p∈X.pn++pins,p.1≠b)
  (keep:∀ b o,b≠X.env.locals->b ∉ X.fs->b ∉ ch->s.heap.get? b=some o->H b=none->h'.get? b=some o)
  (slot:∀ b o,b≠X.env.locals->b∈X.fs->b ∉ ch->s.heap.get? b=some o->H b=none->∃ sl,h'.get? b=some { o with slots:=sl })(free:∀ b o,b ∉ ch->s.heap.get? b=some o->H b=none->H' b=none)
  (there:∀ b o,b ∉ ch->s.heap.get? b=some o->∃ o',h'.get? b=some o')
  (tups:∀ b xs,H b=some (.tup xs)->H' b=some (.tup xs))(frzs:∀ b o u,H b=some (.frz o u)->H' b=some (.frz o u))(tbls:∀ b ps,H b=some (.tbl ps)->∃ more,H' b=some (.tbl (ps++more)))(sys:H sysModules=none->H' sysModules=none)
  (ns:∀ m,s.heap.Ns X.env.locals m->h'.Ns X.env.locals m)(hok:HOk X.prog X.w H' h')(hg:AllBare g') :
  Inv X pins σ H' { s with heap:=h',gens:=g',drawn:=d',toks:=t' }:=by
 have neL:∀ b o,X.s₀.heap.get? b=some o->b≠X.env.locals:=λ b o e=>Nat.ne_of_lt (Nat.lt_of_lt_of_le (Heap.lt_size e) I.ok.above);have neC:∀ b o,X.s₀.heap.get? b=some o->b ∉ X.ex->b ∉ ch:=λ b o e hx hb=>by
  rcases(hch b hb).1 with z | z
  ·exact hx z
  ·exact absurd (Nat.lt_of_lt_of_le (Heap.lt_size e) z) (Nat.lt_irrefl _)
 have cellK:∀ x c,X.env.cells.lookup x=some c->∀ v,s.heap.IsCell c v->h'.IsCell c v:=λ x c e v ⟨o,ho,hd⟩=>by
  have nch:c ∉ ch:=λ z=>(hch c z).2.2.1 x c e rfl;by_cases hc:c∈X.fs
  ·obtain⟨sl,q⟩:=slot c o (I.cne x c e) hc nch ho (I.freeC x c e);exact⟨_,q,hd⟩
  ·exact⟨o,keep c o (I.cne x c e) hc nch ho (I.freeC x c e),hd⟩
 refine⟨I.ok,I.os,hg,⟨λ b o e n hb hx=>?_,λ b o e n hb hx=>?_,λ b o e n hx=>?_,λ b o e hx=>?_,λ b xs e=>tups b xs (I.base.tups b xs e),λ b o xs e=>frzs b o xs (I.base.frzs b o xs e),λ b ps e=>?_,λ q=>sys (I.base.sys q)⟩,?_,λ x c e=>?_,?_,λ x c e=>?_,λ p hp=>?_,hok,I.len⟩
 ·exact keep b o (neL b o e) hb (neC b o e hx) (I.base.keep b o e n hb hx) (I.base.free b o e n hx)
 ·obtain⟨sl,e1⟩:=I.base.slot b o e n hb hx;obtain⟨sl',e2⟩:=slot b _ (neL b o e) hb (neC b o e hx) e1 (I.base.free b o e n hx);exact⟨sl',e2⟩
 ·obtain⟨o',e1⟩:=I.base.there b o e hx;exact free b o' (neC b o e hx) e1 (I.base.free b o e n hx)
 ·obtain⟨o',e1⟩:=I.base.there b o e hx;exact there b o' (neC b o e hx) e1
 ·obtain⟨m1,e1⟩:=I.base.tbls b ps e;obtain⟨m2,e2⟩:=tbls b _ e1;exact⟨m1++m2,by rw [e2,Array.append_assoc]⟩
 ·obtain⟨m,hn,hl⟩:=I.loc;refine⟨m,ns m hn,λ i x v e1 e2 e3=>?_⟩;obtain⟨u,r,l⟩:=hl i x v e1 e2 e3;refine⟨u,r,?_⟩;rcases l with l | ⟨k,c,e,z⟩
  ·exact .inl l
  ·exact .inr ⟨k,c,e,cellK x c e _ z⟩
 ·obtain⟨v,z⟩:=I.cell x c e;exact⟨v,cellK x c e v z⟩
 ·obtain⟨m,⟨o,_,_,ho,_⟩,_⟩:=I.loc;exact free _ o (λ z=>(hch _ z).2.1 rfl) ho I.free
 ·obtain⟨v,o,ho,hd⟩:=I.cell x c e;exact free c o (λ z=>(hch c z).2.2.1 x c e rfl) ho (I.freeC x c e)
 ·obtain⟨e,n,ne,nf,d⟩:=I.pin p hp;have nch:p.1 ∉ ch:=λ z=>(hch p.1 z).2.2.2 p hp rfl;exact⟨keep p.1 p.2 ne nf nch e n,free p.1 p.2 nch e n,ne,nf,d⟩
theorem Inv.un {t':Nat}(I:Inv X pins σ H s)(u:Un X.fs [] H H' s.heap h')(hok:HOk X.prog X.w H' h'):Inv X pins σ H' { s with heap:=h',toks:=t' }:=by
 obtain⟨m,⟨o,es,ep,ho,r⟩,_⟩:=id I.loc;obtain⟨sl,hL⟩:=u.any ho I.free (by simp)
 exact I.step (g':=s.gens) (d':=s.drawn) (ch:=[]) (λ _ z=>nomatch z) (λ b o _ hb _ e n=>u.keep b o e n hb (by simp)) (λ b o _ hb _ e n=>u.slot b o e n hb (by simp)) (λ b o _ e n=>u.free b o e n (by simp)) (λ b o _ e=>u.there b o e (by simp)) u.tups u.frzs u.tbls u.sys (λ m' hm=>by
  obtain⟨o',es',ep',ho',r'⟩:=hm;rw [ho] at ho';cases ho';exact⟨_,es',ep',hL,r'⟩) hok I.bare
theorem Inv.call {g':Array GenState}{t':Nat}{d':Drawn}{ch:List Addr}(I:Inv X pins σ H s)(u:Un (iW X.stack) ch H H' s.heap h')(hok:HOk X.prog X.w H' h')(hg:AllBare g')
  (hch:∀ b∈ch,(b∈X.ex\/X.s₀.heap.objs.size<=b)/\b≠X.env.locals/\(∀ x c,X.env.cells.lookup x=some c->c≠b)/\∀ p∈X.pn++pins,p.1≠b) :
  Inv X pins σ H' { s with heap:=h',gens:=g',drawn:=d',toks:=t' }:=by
 obtain⟨m,⟨o,es,ep,ho,r⟩,_⟩:=id I.loc;obtain⟨sl,hL⟩:=u.any ho I.free λ z=>(hch _ z).2.1 rfl;exact I.step (ch:=ch) hch (λ b o hL hb hc e n=>u.keep b o e n (λ z=>(List.mem_cons.mp (I.stkSub b z)).elim hL hb) hc) (λ b o _ _ hc e n=>u.any e n hc) (λ b o hc e n=>u.free b o e n hc) (λ b o hc e=>u.there b o e hc) u.tups u.frzs u.tbls u.sys (λ m' hm=>by
  obtain⟨o',es',ep',ho',r'⟩:=hm;rw [ho] at ho';cases ho';exact⟨_,es',ep',hL,r'⟩) hok hg
theorem Inv.turned {t':Nat}{it:Addr}(I:Inv X pins σ H s)(k:∀ b o,b≠it->s.heap.get? b=some o->h'.get? b=some o)(hn:H it=none)(hL:it≠X.env.locals)
  (h1:it∈X.ex\/X.s₀.heap.objs.size<=it)(h2:∀ x c,X.env.cells.lookup x=some c->c≠it)(h3:∀ p∈X.pn++pins,p.1≠it):Inv X pins σ H { s with heap:=h',toks:=t' }:=by
 have nit:∀ b u,H b=some u->b≠it:=λ b u e z=>by rw [z,hn] at e;cases e
 refine I.step (g':=s.gens) (d':=s.drawn) (ch:=[it]) (λ b hb=>?_) (λ b o _ _ hc e _=>k b o (λ z=>hc (by simp [z])) e) (λ b o _ _ hc e _=>⟨o.slots,k b o (λ z=>hc (by simp [z])) e⟩) (λ _ _ _ _ n=>n)
  (λ b o hc e=>⟨o,k b o (λ z=>hc (by simp [z])) e⟩) (λ _ _ e=>e) (λ _ _ _ e=>e) (λ b ps e=>⟨#[],by rw [e];simp⟩) (λ q=>q) (λ m hm=>?_) (λ b u e=>?_) I.bare
 ·have e:b=it:=by simpa using hb
  subst e;exact⟨h1,hL,h2,h3⟩
 ·obtain⟨o,es,ep,ho,r⟩:=hm;exact⟨o,es,ep,k _ o (Ne.symm hL) ho,r⟩
 ·refine(I.hok b u e).stay (λ c v hc q=>k c v ?_ q) (λ _ q=>q) λ _ _ q=>q;rcases hc with z | z
  ·rw [z];exact nit b u e
  ·exact nit c _ z
theorem Inv.tok (I:Inv X pins σ H s)(t:Nat):Inv X pins σ H { s with toks:=t }:=I.un (h':=s.heap) (t':=t) Un.refl I.hok
theorem Inv.kept {t':Nat}(I:Inv X pins σ H s)(k:∀ b u,s.heap.get? b=some u->h'.get? b=some u):Inv X pins σ H { s with heap:=h',toks:=t' }:=I.un (Un.kept k) (I.hok.kept k)
theorem Inv.laid {a:Addr}{o:HO}{t':Nat}(I:Inv X pins σ H s)(k:∀ b u,s.heap.get? b=some u->h'.get? b=some u)(hp:s.heap.objs.size<=a)(new:ObjOk X.prog X.w (ae H a o) h' a o) :
  Inv X pins σ (ae H a o) { s with heap:=h',toks:=t' }:=I.un (Un.laid k hp (I.hok.fresh hp) (Nat.lt_trans (by decide:sysModules<mainGlobals) (I.mod.glob.keeps I.bk).lt)) (I.hok.laid k hp new)
theorem Inv.write {x e:Addr}{o:HO}{t':Nat}(I:Inv X pins σ H s)(mu:Cc (H x))(he:e=x\/H e=some (.own x))(k:∀ b u,b≠e->s.heap.get? b=some u->h'.get? b=some u)(heo:∃ u,h'.get? e=some u)
  (new:ObjOk X.prog X.w (ae H x o) h' x o):Inv X pins σ (ae H x o) { s with heap:=h',toks:=t' }:=I.un (Un.write mu he k heo) (I.hok.write mu he k heo new)
theorem Inv.pins_of {pins':List (Addr × Obj)}(I:Inv X pins σ H s)(h:∀ p∈pins',s.heap.get? p.1=some p.2/\H p.1=none/\p.1≠X.env.locals/\p.1 ∉ X.fs/\∀ v,p.2.data ≠ .cell v):Inv X pins' σ H s :=
 ⟨I.ok,I.os,I.bare,I.base,I.loc,I.cell,I.free,I.freeC,λ p hp=>(List.mem_append.mp hp).elim (λ z=>I.pin p (List.mem_append_left _ z)) (h p),I.hok,I.len⟩
theorem lU {N:List Str}(hN:N.Nodup){i j:Nat}{x:Str}(a:N[i]?=some x)(b:N[j]?=some x):i=j:=by
 obtain⟨h1,e1⟩:=List.getElem?_eq_some_iff.mp a;obtain⟨h2,e2⟩:=List.getElem?_eq_some_iff.mp b;exact(List.getElem_inj hN).mp (e1.trans e2.symm)
theorem gF {M:Model}{A:Around}{E:Value->Shared->Prop}{i:Nat}{x:Str}{v:V}{u:Value}{Q:Unit->Shared->Prop}(I:Inv X pins σ H s)(hN:X.N.Nodup)(hi:X.N[i]?=some x)(hx:yD X.env.scope x)(r:RelV v u)
  (h:∀ s',Inv X pins (σ.set i (some v)) H s'->(∃ a,Heap.SameBut a s.heap s'.heap/\(a=X.env.locals\/X.env.cells.lookup x=some a))->Q () s')(hf:X.fn x=true\/X.env.scope.names.lookup x=some .local:=by first | exact .inl rfl | exact .inr rfl | assumption):wpAny M A (storeName X.env x u) Q E s:=by
 obtain⟨m,hn,hl⟩:=id I.loc;have hcls:(X.env.scope.kind == .class||(X.env.scope.kind == .module&&X.env.locals != X.env.globals))=false:=by rw [I.ok.kind];rfl
 have hiσ:i < σ.length:=by rw [I.len];exact(List.getElem?_eq_some_iff.mp hi).1
 have cne:=I.cne;have tracked:∀{a:Addr}{h':Heap},(∃ o,s.heap.get? a=some o/\H a=none)->Heap.SameBut a s.heap h'->HOk X.prog X.w H h':=λ {a h'} ha hs b ob e=>by
  obtain⟨_,_,hfree⟩:=ha;refine(I.hok b ob e).stay (λ c w' hc q=>(hs.2 c ?_).trans q) (λ _ q=>q) λ _ _ q=>q;rintro rfl;rcases hc with rfl | hc
  ·rw [hfree] at e;cases e
  ·rw [hfree] at hc;cases hc
 rcases hx with hk | hk
 ·refine wpAny_storeName_local hk hn (λ h' hn' hs=>?_) hcls;obtain⟨oL,_,_,hoL,_⟩:=id hn;refine h _ ⟨I.ok,I.os,I.bare,⟨λ b o e n hb hx=>?_,λ b o e n hb hx=>?_,I.base.free,λ b o e hx=>?_,I.base.tups,I.base.frzs,I.base.tbls,I.base.sys⟩,⟨_,hn',λ j y v' e1 e2 e3=>?_⟩,λ y c e=>?_,I.free,I.freeC,λ p hp=>?_,tracked ⟨oL,hoL,I.free⟩ hs,by simpa using I.len⟩ ⟨_,hs,.inl rfl⟩
  ·exact(hs.2 b (Nat.ne_of_lt (Nat.lt_of_lt_of_le (Heap.lt_size e) I.ok.above))).trans (I.base.keep b o e n hb hx)
  ·obtain⟨sl,e1⟩:=I.base.slot b o e n hb hx;exact⟨sl,(hs.2 b (Nat.ne_of_lt (Nat.lt_of_lt_of_le (Heap.lt_size e) I.ok.above))).trans e1⟩
  ·obtain⟨o',e1⟩:=I.base.there b o e hx;exact⟨o',(hs.2 b (Nat.ne_of_lt (Nat.lt_of_lt_of_le (Heap.lt_size e) I.ok.above))).trans e1⟩
  ·by_cases hj:j=i
   ·subst hj;rw [hi] at e1;cases e1;rw [List.getElem?_set_self hiσ] at e2;cases e2;exact⟨u,r,.inl ⟨hk,by simp⟩⟩
   ·rw [List.getElem?_set_ne (Ne.symm hj)] at e2;obtain⟨u',r',q⟩:=hl j y v' e1 e2 e3;refine⟨u',r',?_⟩;rcases q with⟨k,e⟩ | ⟨k,c,e,z⟩
    ·refine .inl ⟨k,?_⟩;have:y≠x:=λ e=>hj (lU hN e1 (e ▸ hi));simp [this,e]
    ·exact .inr ⟨k,c,e,z.sameBut hs (cne y c e)⟩
  ·obtain⟨w',z⟩:=I.cell y c e;exact⟨w',z.sameBut hs (cne y c e)⟩
  ·obtain⟨e,n,ne,nf,d⟩:=I.pin p hp;exact⟨(hs.2 p.1 ne).trans e,n,ne,nf,d⟩
 ·have hfn:X.fn x=true:=by
   rcases hf with z | z
   ·exact z
   ·rw [z] at hk;cases hk
  obtain⟨c,hc⟩:=I.ok.has x (.inl hk);obtain⟨w',z⟩:=I.cell x c hc;refine wpAny_storeName_cell I.ok.kind hk hc z (λ h' hc' hs=>?_);obtain⟨oc,hoc,hocd⟩:=id z;refine h { s with heap:=h' } ⟨I.ok,I.os,I.bare,⟨λ b o e n hb hx=>?_,λ b o e n hb hx=>?_,I.base.free,λ b o e hx=>?_,I.base.tups,I.base.frzs,I.base.tbls,I.base.sys⟩,⟨m,hn.sameBut hs (Ne.symm (cne x c hc)),λ j y v' e1 e2 e3=>?_⟩,λ y c' e=>?_,I.free,I.freeC,λ p hp=>?_,tracked ⟨oc,hoc,I.freeC x c hc⟩ hs,by simpa using I.len⟩ ⟨c,hs,.inr hc⟩
  ·exact(hs.2 b (Nat.ne_of_lt (Nat.lt_of_lt_of_le (Heap.lt_size e) (I.ok.cab x c hfn hc)))).trans (I.base.keep b o e n hb hx)
  ·obtain⟨sl,e1⟩:=I.base.slot b o e n hb hx;exact⟨sl,(hs.2 b (Nat.ne_of_lt (Nat.lt_of_lt_of_le (Heap.lt_size e) (I.ok.cab x c hfn hc)))).trans e1⟩
  ·obtain⟨o',e1⟩:=I.base.there b o e hx;exact⟨o',(hs.2 b (Nat.ne_of_lt (Nat.lt_of_lt_of_le (Heap.lt_size e) (I.ok.cab x c hfn hc)))).trans e1⟩
  ·by_cases hj:j=i
   ·subst hj;rw [hi] at e1;cases e1;rw [List.getElem?_set_self hiσ] at e2;cases e2;exact⟨u,r,.inr ⟨.inl hk,c,hc,hc'⟩⟩
   ·rw [List.getElem?_set_ne (Ne.symm hj)] at e2;obtain⟨u',r',q⟩:=hl j y v' e1 e2 e3;refine⟨u',r',?_⟩;rcases q with q | ⟨k,c',e,z'⟩
    ·exact .inl q
    ·refine .inr ⟨k,c',e,z'.sameBut hs ?_⟩;rintro rfl;exact hj (lU hN e1 (I.ok.inj _ _ _ e hc ▸ hi))
  ·by_cases hcc:c'=c
   ·subst hcc;exact⟨_,hc'⟩
   ·obtain⟨w2,z2⟩:=I.cell y c' e;exact⟨w2,z2.sameBut hs hcc⟩
  ·obtain⟨e,n,ne,nf,d⟩:=I.pin p hp;refine⟨(hs.2 p.1 ?_).trans e,n,ne,nf,d⟩;intro q;rw [q,hoc] at e;have q':oc=p.2:=Option.some.inj e;exact d w' (by rw [<- q'];exact hocd)
theorem fW {M:Model}{A:Around}{E:Value->Shared->Prop}{i:Nat}{x:Str}{v:V}{u:Value}{Q:Unit->Shared->Prop}(I:Inv X pins σ H s)(hN:X.N.Nodup)(hi:X.N[i]?=some x)(hx:yD X.env.scope x)(r:RelV v u)
  (h:∀ s',Inv X pins (σ.set i (some v)) H s'->Q () s')(hf:X.fn x=true\/X.env.scope.names.lookup x=some .local:=by first | exact .inl rfl | exact .inr rfl | assumption):wpAny M A (storeName X.env x u) Q E s :=
 gF I hN hi hx r (λ s' I' _=>h s' I') hf
theorem Inv.call' {s':Shared}{ch:List Addr}(I:Inv X pins σ H s)(ho:s'.os=s.os)(u:Un (iW X.stack) ch H H' s.heap s'.heap)(hok:HOk X.prog X.w H' s'.heap)(hg:AllBare s'.gens)
  (hch:∀ b∈ch,(b∈X.ex\/X.s₀.heap.objs.size<=b)/\b≠X.env.locals/\(∀ x c,X.env.cells.lookup x=some c->c≠b)/\∀ p∈X.pn++pins,p.1≠b):Inv X pins σ H' s':=by
 obtain⟨h',g',d',t',o'⟩:=s';have e:o'=s.os:=ho;subst e;exact I.call (g':=g') (t':=t') (d':=d') u hok hg hch
end
abbrev XK:=Value->Option Addr->Hp->Prop
abbrev St:=List (Option V)
abbrev VK:=V->Hp->Prop
abbrev TE:=St->Hp->VK->Prop
abbrev TT:=St->Hp->(Bool->Hp->Prop)->Prop
abbrev TA:=St->Hp->(List V->Hp->Prop)->Prop
structure cw where
 nx:St->Hp->Prop
 rt:VK
 bk:St->Hp->Prop:=λ _ _=>False
 ct:St->Hp->Prop:=λ _ _=>False
abbrev TS:=cw->St->Hp->Prop
def EP (X:Cx)(pins:List (Addr × Obj))(σ:St)(Q:VK)(u:Value)(s':Shared):Prop:=∃ v H',Inv X pins σ H' s'/\RelV v u/\Q v H'
def TP (X:Cx)(pins:List (Addr × Obj))(σ:St)(Q:Bool->Hp->Prop)(b:Bool)(s':Shared):Prop:=∃ H',Inv X pins σ H' s'/\Q b H'
def AP (X:Cx)(pins:List (Addr × Obj))(σ:St)(Q:List V->Hp->Prop)(us:List Value)(s':Shared):Prop:=∃ vs H',Inv X pins σ H' s'/\Vals vs us/\Q vs H'
def SP (X:Cx)(pins:List (Addr × Obj))(D:cw)(f:Flow)(s':Shared):Prop :=
 match f with
 | .next=>∃ σ' H',Inv X pins σ' H' s'/\D.nx σ' H'
 | .brk=>∃ σ' H',Inv X pins σ' H' s'/\D.bk σ' H'
 | .cont=>∃ σ' H',Inv X pins σ' H' s'/\D.ct σ' H'
 | .ret u=>∃ v σ' H',Inv X pins σ' H' s'/\RelV v u/\D.rt v H'
def PE (X:Cx)(e:Expr)(t:TE):Prop :=
 ∀(pins:List (Addr × Obj))(s:Shared)(σ:St)(H:Hp)(Q:VK),Inv X pins σ H s->t σ H Q->wpAny (model X.prog X.w) X.A (eval e X.env) (EP X pins σ Q) X.xe s
def PT (X:Cx)(e:Expr)(t:TT):Prop :=
 ∀(pins:List (Addr × Obj))(s:Shared)(σ:St)(H:Hp)(Q:Bool->Hp->Prop),Inv X pins σ H s->t σ H Q->wpAny (model X.prog X.w) X.A (isTrue e X.env (eval e X.env)) (TP X pins σ Q) X.xe s
def PW (X:Cx)(e:Expr)(t:TT):Prop :=
 ∀(whole:Sem Value)(pins:List (Addr × Obj))(s:Shared)(σ:St)(H:Hp)(Q:Bool->Hp->Prop),Inv X pins σ H s->t σ H Q->wpAny (model X.prog X.w) X.A (isTrue e X.env whole) (TP X pins σ Q) X.xe s
theorem PW.pt {X:Cx}{e:Expr}{t:TT}(h:PW X e t):PT X e t:=h _
def PA (X:Cx)(es:List Expr)(t:TA):Prop :=
 ∀(pos:Pos)(pins:List (Addr × Obj))(s:Shared)(σ:St)(H:Hp)(Q:List V->Hp->Prop),Inv X pins σ H s->t σ H Q->wpAny (model X.prog X.w) X.A (spliced (backTo pos (starEach es X.env))) (AP X pins σ Q) X.xe s
def PS (X:Cx)(st:Stmt)(t:TS):Prop :=
 ∀(pins:List (Addr × Obj))(s:Shared)(σ:St)(H:Hp)(D:cw),Inv X pins σ H s->t D σ H->wpAny (model X.prog X.w) X.A (exec st X.env) (SP X pins D) X.xe s
def PSs (X:Cx)(st:List Stmt)(t:TS):Prop :=
 ∀(pins:List (Addr × Obj))(s:Shared)(σ:St)(H:Hp)(D:cw),Inv X pins σ H s->t D σ H->wpAny (model X.prog X.w) X.A (execs st X.env) (SP X pins D) X.xe s
theorem aK {α:Type}{t:Sem α}{Q Q':α->Shared->Prop}{M:Model}{A:Around}{E:Value->Shared->Prop}{s:Shared}(h:wpAny M A t Q E s)(hQ:∀ a s,Q a s->Q' a s):wpAny M A t Q' E s:=wpAny_mono h hQ λ _ _ x=>x
section
variable {X:Cx}
theorem Gx {a b:Expr}{ta tb:TE}(ha:PE X a ta)(hb:PE X b tb){pins:List (Addr × Obj)}{s:Shared}{σ:St}{H:Hp}{R:V->V->Hp->Prop}(I:Inv X pins σ H s)(h:ta σ H λ x H1=>tb σ H1 λ y H2=>R x y H2)
  {α:Type}{Q:α->Shared->Prop}{f:Value->Value->Sem α}
  (hf:∀ v u s2 x y H2,Inv X pins σ H2 s2->RelV x v->RelV y u->R x y H2->wpAny (model X.prog X.w) X.A (f v u) Q X.xe s2) :
  wpAny (model X.prog X.w) X.A (eval a X.env) (λ v s₁=>wpAny (model X.prog X.w) X.A (eval b X.env) (λ u s₂=>wpAny (model X.prog X.w) X.A (f v u) Q X.xe s₂) X.xe s₁) X.xe s:=by
 refine aK (ha pins s σ H _ I h) λ v s1 ⟨x,H1,I1,r1,q1⟩=>?_;refine aK (hb pins s1 σ H1 _ I1 q1) λ u s2 ⟨y,H2,I2,r2,q2⟩=>?_;exact hf v u s2 x y H2 I2 r1 r2 q2
def af (i:Nat):TE:=λ σ H Q=>∃ v,σ[i]?=some (some v)/\Q v H
def tC (v:V):TE:=λ _ H Q=>Q v H
theorem zR {i:Nat}{x:Str}{pos:Pos}(hN:X.N[i]?=some x)(hv:vn X.env.scope x)(hd:(x==("__debug__" : Str))=false:=by decide)(hcd:(x==("__classdict__" : Str))=false:=by decide):PE X (.Name x pos) (af i):=by
 intro pins s σ H Q I h;obtain⟨v,e,h⟩:=h;obtain⟨m,hn,hl⟩:=I.loc;obtain⟨u,r,l⟩:=hl i x v hN e hv;have fin:EP X pins σ Q u s:=⟨v,H,I,r,h⟩;rcases l with⟨hk,hm⟩ | ⟨hk,c,hc,hcell⟩
 ·exact wpAny_Name (wpAny_loadName_local I.ok.kind hk hn hm fin) hd
 ·rcases hk with hk | hk
  ·exact wpAny_Name (wpAny_loadName_cell I.ok.kind hk hc hcell fin) hd
  ·exact wpAny_Name (wpAny_loadName_free I.ok.kind hk hc hcell fin hcd) hd
theorem az {i j pos}:PE X (.Constant (.int i) j pos) (tC (.int i)):=λ _ _ _ H _ I h=>wpAny_Constant_int ⟨.int i,H,I.tok _,⟨_,rfl⟩,h⟩
theorem rY {b j pos}:PE X (.Constant (.bool b) j pos) (tC (.bl b)):=λ _ _ _ H _ I h=>Constant_bool ⟨.bl b,H,I,rfl,h⟩
theorem qB {j pos}:PE X (.Constant .none j pos) (tC .non):=λ _ _ _ H _ I h=>Constant_none ⟨.non,H,I,rfl,h⟩
theorem bh {x j pos}:PE X (.Constant (.str x) j pos) (tC (.str x)):=λ _ _ _ H _ I h=>Calls.Constant_str ⟨.str x,H,I.tok _,⟨_,rfl⟩,h⟩
def Gl (X:Cx)(x:Str):Prop:=X.env.kindOf x=some .globalImplicit
theorem eD {E:Value->Shared->Prop}{pins:List (Addr × Obj)}{s:Shared}{σ:St}{H:Hp}{x:Str}{u:Value}{pos:Pos}{Q:Value->Shared->Prop}(I:Inv X pins σ H s)(hg:Gl X x)(hm:X.mg x=some u)(h:Q u s)
  (hd:(x==("__debug__" : Str))=false:=by decide):wpAny (model X.prog X.w) X.A (eval (.Name x pos) X.env) Q E s :=
 Calls.Name_function_global I.ok.kind hg (Calls.loadGlobal_global (by rw [I.ok.glob];exact I.mod.glob.keeps I.bk) hm h) hd
theorem fw {E:Value->Shared->Prop}{pins:List (Addr × Obj)}{s:Shared}{σ:St}{H:Hp}{x:Str}{u:Value}{pos:Pos}{Q:Value->Shared->Prop}(I:Inv X pins σ H s)(hg:Gl X x)(hm:X.mg x=none)(hv:bootBuiltins x=some u)(h:Q u s)
  (hn:x ≠ "__name__" := by decide)(hd:(x==("__debug__" : Str))=false:=by decide):wpAny (model X.prog X.w) X.A (eval (.Name x pos) X.env) Q E s:=by
 obtain⟨mb,h1,h2⟩:=I.mod.blt;exact Calls.Name_function_global I.ok.kind hg (Calls.loadGlobal_builtin (by rw [I.ok.glob];exact I.mod.glob.keeps I.bk) hm (by rw [I.ok.blt];exact h1.keeps I.bk) ((h2 x hn).trans hv) h) hd
theorem bS {x:Str}{v:V}{u:Value}{pos:Pos}(hg:Gl X x)(hm:X.mg x=some u)(r:RelV v u)(hd:(x==("__debug__" : Str))=false:=by decide):PE X (.Name x pos) (tC v) :=
 λ _ _ _ H _ I h=>eD I hg hm ⟨v,H,I,r,h⟩ hd
theorem uF {x:Str}{v:V}{u:Value}{pos:Pos}(hg:Gl X x)(hm:X.mg x=none)(hv:bootBuiltins x=some u)(r:RelV v u)(hn:x ≠ "__name__" := by decide)(hd:(x==("__debug__" : Str))=false:=by decide):PE X (.Name x pos) (tC v) :=
 λ _ _ _ H _ I h=>fw I hg hm hv ⟨v,H,I,r,h⟩ hn hd
variable {a b:Expr}{ta tb:TE}{pos:Pos}
def PC (X:Cx)(op:CmpOp)(a b:Expr)(t:TE):Prop :=
 ∀(pins:List (Addr × Obj))(s:Shared)(σ:St)(H:Hp)(Q:VK),Inv X pins σ H s->t σ H Q ->
  wpAny (model X.prog X.w) X.A (eval a X.env) (λ v s₁=>wpAny (model X.prog X.w) X.A (eval b X.env) (λ u s₂=>wpAny (model X.prog X.w) X.A (compareOp op v u) (EP X pins σ Q) X.xe s₂) X.xe s₁) X.xe s
theorem qu (b:Expr){op:CmpOp}(h:op ≠ .In)(h2:op ≠ .NotIn):behindInMarks op b=false:=by
 have e1:(op==CmpOp.In)=false:=by cases op <;> first | rfl | exact absurd rfl h
 have e2:(op==CmpOp.NotIn)=false:=by cases op <;> first | rfl | exact absurd rfl h2
 cases b <;> simp [behindInMarks,e1,e2]
def tB (t:TE):TT:=λ σ H Q=>t σ H λ x H1=>∃ c,x=.bl c/\Q c H1
theorem Ez {op:CmpOp}{t:TE}(h:PC X op a b t)(h1:behindInMarks op b=false:=by first | exact qu _ (by decide) (by decide) | rfl):PT X (.Compare a [op] [b] pos) (tB t):=by
 intro pins s σ H Q I hw;refine wpAny_isTrue_Compare1 (aK (h pins s σ H _ I hw) λ v s1 h1=>aK h1 λ u s2 h2=>aK h2 λ c s3 ⟨x,H1,I1,r1,q1⟩=>?_) h1;obtain⟨d,rfl,q⟩:=q1;cases r1;exact wpAny_truthy_bool ⟨H1,I1,q⟩
theorem bw {e:Expr}{t:TE}(h:PE X e t)(he:∀ whole,isTrue e X.env whole=(do let v <- whole;standAt e.pos;holding [v] (truthy v)):=by intro _;rfl):PT X e (tB t):=by
 intro pins s σ H Q I hw;refine isTrue_plain (aK (h pins s σ H _ I hw) λ v s1 ⟨x,H1,I1,r1,q1⟩=>?_) (he _);obtain⟨d,rfl,q⟩:=q1;cases r1;exact wpAny_truthy_bool ⟨H1,I1,q⟩
variable {tA tB':TT}{rest:List Expr}
def yM (t u:TT):TT:=λ σ H Q=>t σ H λ c H1=>if c=true then u σ H1 Q else Q false H1
def Bp (t u:TT):TT:=λ σ H Q=>t σ H λ c H1=>if c=true then Q true H1 else u σ H1 Q
def sx (t:TT):TT:=λ σ H Q=>t σ H λ c H1=>Q (!c) H1
theorem km (ha:PT X a tA):PW X (.BoolOp .And [a] pos) tA:=by
 intro wh pins s σ H Q I h;refine isTrue_and (aK (ha pins s σ H Q I h) λ c s1 e=>?_);cases c with
 | true=>exact isTrue_and_nil e
 | false=>exact e
theorem eB (ha:PT X a tA):PW X (.BoolOp .Or [a] pos) tA:=by
 intro wh pins s σ H Q I h;refine isTrue_or (aK (ha pins s σ H Q I h) λ c s1 e=>?_);cases c with
 | false=>exact isTrue_or_nil e
 | true=>exact e
theorem my (ha:PT X a tA)(hb:PW X (.BoolOp .And (b::rest) pos) tB'):PW X (.BoolOp .And (a::b::rest) pos) (yM tA tB'):=by
 intro wh pins s σ H Q I h;refine isTrue_and (aK (ha pins s σ H _ I h) λ c s1 ⟨H1,I1,q1⟩=>?_);cases c with
 | true=>exact hb wh pins s1 σ H1 Q I1 q1
 | false=>exact⟨H1,I1,q1⟩
theorem gk (ha:PT X a tA)(hb:PW X (.BoolOp .Or (b::rest) pos) tB'):PW X (.BoolOp .Or (a::b::rest) pos) (Bp tA tB'):=by
 intro wh pins s σ H Q I h;refine isTrue_or (aK (ha pins s σ H _ I h) λ c s1 ⟨H1,I1,q1⟩=>?_);cases c with
 | true=>exact⟨H1,I1,q1⟩
 | false=>exact hb wh pins s1 σ H1 Q I1 q1
theorem cg (ha:PT X a tA):PT X (.UnaryOp .Not a pos) (sx tA):=by
 intro pins s σ H Q I h;exact isTrue_not (ha pins s σ H (λ c H1=>Q (!c) H1) I h)
def vP (ta tb:TE):TE:=λ σ H Q=>ta σ H λ x H1=>∃ c,x=.bl c/\if c=true then tb σ H1 Q else Q (.bl false) H1
def w5 (ta tb:TE):TE:=λ σ H Q=>ta σ H λ x H1=>∃ c,x=.bl c/\if c=true then Q (.bl true) H1 else tb σ H1 Q
def Dq (ta:TE):TE:=λ σ H Q=>ta σ H λ x H1=>∃ c,x=.bl c/\Q (.bl (!c)) H1
theorem eu {op}{t:TE}(h:PE X a t):PE X (.BoolOp op [a] pos) t:=λ pins s σ H Q I hw=>BoolOp_one (h pins s σ H Q I hw)
theorem dJ (ha:PE X a ta)(hb:PE X (.BoolOp .And (b::rest) pos) tb):PE X (.BoolOp .And (a::b::rest) pos) (vP ta tb):=by
 intro pins s σ H Q I h;refine BoolOp_and (aK (ha pins s σ H _ I h) λ v s1 ⟨x,H1,I1,r1,q1⟩=>?_);obtain⟨c,rfl,q1⟩:=q1;cases r1;refine wpAny_truthy_bool ?_;cases c with
 | true=>exact hb pins s1 σ H1 Q I1 q1
 | false=>exact⟨.bl false,H1,I1,rfl,q1⟩
theorem Cp (ha:PE X a ta)(hb:PE X (.BoolOp .Or (b::rest) pos) tb):PE X (.BoolOp .Or (a::b::rest) pos) (w5 ta tb):=by
 intro pins s σ H Q I h;refine BoolOp_or (aK (ha pins s σ H _ I h) λ v s1 ⟨x,H1,I1,r1,q1⟩=>?_);obtain⟨c,rfl,q1⟩:=q1;cases r1;refine wpAny_truthy_bool ?_;cases c with
 | false=>exact hb pins s1 σ H1 Q I1 q1
 | true=>exact⟨.bl true,H1,I1,rfl,q1⟩
theorem qO (ha:PE X a ta):PE X (.UnaryOp .Not a pos) (Dq ta):=by
 intro pins s σ H Q I h;refine UnaryOp_ (aK (ha pins s σ H _ I h) λ v s1 ⟨x,H1,I1,r1,q1⟩=>?_);obtain⟨c,rfl,q1⟩:=q1;cases r1;exact not_of (wpAny_truthy_bool ⟨.bl (!c),H1,I1,rfl,q1⟩)
def F8 (t:TT)(ta tb:TE):TE:=λ σ H Q=>t σ H λ c H1=>if c=true then ta σ H1 Q else tb σ H1 Q
theorem kB {c:Expr}(hc:PT X c tA)(ha:PE X a ta)(hb:PE X b tb):PE X (.IfExp c a b pos) (F8 tA ta tb):=by
 intro pins s σ H Q I h;refine wpAny_IfExp (aK (hc pins s σ H _ I h) λ d s1 ⟨H1,I1,q1⟩=>?_);cases d with
 | true=>exact ha pins s1 σ H1 Q I1 q1
 | false=>exact hb pins s1 σ H1 Q I1 q1
end
def SqL (K:PySem.W.Frag)(H:Hp)(a:Addr)(xs:List V):Prop :=
 Rd H a (.lst xs) \/
  ∃(o:Obj)(its:Array Value)(n:Nat),K.lookup a=some o/\o.cls=.type "list" /\ o.dict=none/\o.data=.seq its n/\its.size<=sizeLine/\Vals xs its.toList
def SqT (K:PySem.W.Frag)(H:Hp)(a:Addr)(xs:List V):Prop :=
 Rd H a (.tup xs) \/
  ∃(o:Obj)(its:Array Value)(n:Nat),K.lookup a=some o/\o.cls=.type "tuple" /\ o.data=.seq its n/\its.size<=sizeLine/\Vals xs its.toList
def zH:Value->Option V
 | .none=>some .non
 | .bool b=>some (.bl b)
 | .int i _=>some (.int i)
 | .str x _=>some (.str x)
 | .bytes b _=>some (.byt b)
 | .float b _=>some (.flt b)
 | .ref a=>some (.ref a)
 | .type n=>some (.ty n)
 | _=>none
theorem RelV.abs {x:V}{u:Value}(r:RelV x u):zH u=some x:=by
 cases x with
 | non=>cases r;rfl
 | bl _=>cases r;rfl
 | int _=>obtain⟨t,rfl⟩:=r;rfl
 | str _=>obtain⟨t,rfl⟩:=r;rfl
 | byt _=>obtain⟨t,rfl⟩:=r;rfl
 | flt _=>obtain⟨t,rfl⟩:=r;rfl
 | ref _=>cases r;rfl
 | ty _=>cases r;rfl
theorem RelV.inj {x y:V}{u:Value}(r:RelV x u)(q:RelV y u):x=y:=Option.some.inj (r.abs.symm.trans q.abs)
theorem Vals.inj:∀{xs ys:List V}{us:List Value},Vals xs us->Vals ys us->xs=ys
 | _,_,_,.nil,.nil=>rfl
 | _,_,_,.cons r t,.cons r' t'=>by rw [r.inj r',Vals.inj t t']
section
variable {X:Cx}{pins:List (Addr × Obj)}{σ:St}{H:Hp}{s:Shared}{a:Addr}{xs ys:List V}
theorem SqL.of {K:PySem.W.Frag}(h:H a=some (.lst xs)):SqL K H a xs:=.inl (.inl h)
theorem SqT.of {K:PySem.W.Frag}(h:H a=some (.tup xs)):SqT K H a xs:=.inl (.inl h)
theorem Inv.list (I:Inv X pins σ H s)(h:SqL X.K H a xs):∃ its:List Value,Vals xs its/\PlainL s.heap a its.toArray/\xs.length<=sizeLine:=by
 rcases h with h | ⟨o,its,n,hk,hc,hd,hs,hz,r⟩
 ·obtain⟨z,its,n,r,e⟩:=h.ok I.hok;exact⟨its,r,⟨_,n,e,rfl,rfl,rfl⟩,z⟩
 ·refine⟨its.toList,r,⟨o,n,I.kIn a o hk,hc,hd,by simpa using hs⟩,?_⟩
  have e:=r.length;simp only [Array.length_toList] at e;omega
theorem Inv.tuple (I:Inv X pins σ H s)(h:SqT X.K H a xs):∃ its:List Value,Vals xs its/\IsTup s.heap a its.toArray/\xs.length<=sizeLine:=by
 rcases h with h | ⟨o,its,n,hk,hc,hs,hz,r⟩
 ·obtain⟨z,its,r,p⟩:=h.ok I.hok;exact⟨its,r,p,z⟩
 ·refine⟨its.toList,r,⟨o,I.kIn a o hk,hc,n,by simpa using hs⟩,?_⟩
  have e:=r.length;simp only [Array.length_toList] at e;omega
theorem Inv.list_inj (I:Inv X pins σ H s)(h:SqL X.K H a xs)(h':SqL X.K H a ys):xs=ys:=by
 obtain⟨its,r,⟨o,n,e,_,_,d⟩,_⟩:=I.list h;obtain⟨its',r',⟨o',n',e',_,_,d'⟩,_⟩:=I.list h';rw [e] at e';cases e';rw [d] at d';injection d' with d1 _
 have:its=its':=by simpa using congrArg Array.toList d1
 subst this;exact r.inj r'
theorem Inv.tuple_inj (I:Inv X pins σ H s)(h:SqT X.K H a xs)(h':SqT X.K H a ys):xs=ys:=by
 obtain⟨its,r,⟨o,e,_,n,d⟩,_⟩:=I.tuple h;obtain⟨its',r',⟨o',e',_,n',d'⟩,_⟩:=I.tuple h';rw [e] at e';cases e';rw [d] at d';injection d' with d1 _
 have:its=its':=by simpa using congrArg Array.toList d1
 subst this;exact r.inj r'
end
abbrev Cx.wish (X:Cx)(E:Value->Shared->Prop):Cx:={ X with xe:=E }
abbrev Cx.nox (X:Cx):Cx:=X.wish λ _ _=>False
theorem Cx.Ok.wish {X:Cx}(ok:X.Ok)(E:Value->Shared->Prop):(X.wish E).Ok :=
 ⟨ok.mod,ok.kind,ok.glob,ok.blt,ok.above,ok.inj,ok.has,ok.cab,ok.hd,ok.frames,ok.stk,ok.exf,ok.bs,ok.bsz,ok.noex,ok.exfs,ok.funs,ok.frf⟩
theorem Cx.Ok.unwish {X:Cx}{E:Value->Shared->Prop}(ok:(X.wish E).Ok):X.Ok :=
 ⟨ok.mod,ok.kind,ok.glob,ok.blt,ok.above,ok.inj,ok.has,ok.cab,ok.hd,ok.frames,ok.stk,ok.exf,ok.bs,ok.bsz,ok.noex,ok.exfs,ok.funs,ok.frf⟩
section
variable {X:Cx}{pins:List (Addr × Obj)}{σ:St}{H:Hp}{s:Shared}{E:Value->Shared->Prop}
theorem Inv.wish (I:Inv X pins σ H s)(E:Value->Shared->Prop):Inv (X.wish E) pins σ H s:=⟨I.ok.wish E,I.os,I.bare,I.base,I.loc,I.cell,I.free,I.freeC,I.pin,I.hok,I.len⟩
theorem Inv.unwish (I:Inv (X.wish E) pins σ H s):Inv X pins σ H s:=⟨I.ok.unwish,I.os,I.bare,I.base,I.loc,I.cell,I.free,I.freeC,I.pin,I.hok,I.len⟩
theorem SP.unwish {D:cw}{f:Flow}{s':Shared}(h:SP (X.wish E) pins D f s'):SP X pins D f s':=by
 cases f with
 | next=>obtain⟨σ',H',I,q⟩:=h;exact⟨σ',H',I.unwish,q⟩
 | brk=>obtain⟨σ',H',I,q⟩:=h;exact⟨σ',H',I.unwish,q⟩
 | cont=>obtain⟨σ',H',I,q⟩:=h;exact⟨σ',H',I.unwish,q⟩
 | ret u=>obtain⟨v,σ',H',I,r,q⟩:=h;exact⟨v,σ',H',I.unwish,r,q⟩
theorem PSs.nox {st:List Stmt}{t:TS}(h:PSs X.nox st t):PSs X st t:=λ pins s σ H D I hw =>
 wpAny_mono (h pins s σ H D (I.wish _) hw) (λ _ _ q=>q.unwish) λ _ _ z=>False.elim z
variable {st:Stmt}{rest:List Stmt}{t u:TS}{e:Expr}{te:TE}{pos:Pos}
def cp:TS:=λ D σ H=>D.nx σ H
def aV (t u:TS):TS:=λ D σ H=>t { D with nx:=u D } σ H
theorem gz:PSs X [] cp:=λ _ _ σ H _ I h=>wpAny_execs_nil ⟨σ,H,I,h⟩
theorem bZ (h1:PS X st t)(h2:PSs X rest u):PSs X (st::rest) (aV t u):=by
 intro pins s σ H D I h;refine wpAny_execs_cons (aK (h1 pins s σ H { D with nx:=u D } I h) λ f s1 q=>?_)
 cases f with
 | next =>
  obtain⟨σ',H',I',q⟩:=q;exact h2 pins s1 σ' H' D I' q
 | ret v=>exact q
 | brk=>exact q
 | cont=>exact q
theorem bc (h1:PS X st t):PSs X [st] t:=by
 intro pins s σ H D I h;refine wpAny_execs_cons (aK (h1 pins s σ H D I h) λ f s1 q=>?_);cases f with
 | next=>exact wpAny_execs_nil q
 | ret v=>exact q
 | brk=>exact q
 | cont=>exact q
theorem ua:PS X (.Pass pos) cp:=λ _ _ σ H _ I h=>wpAny_Pass ⟨σ,H,I,h⟩
theorem Inv.quiet {pins:List (Addr × Obj)}{σ:St}{H:Hp}{s:Shared}(I:Inv X pins σ H s):interactive X.env=false:=by simp [interactive,I.ok.kind]
def ls (te:TE):TS:=λ D σ H=>te σ H λ _ H1=>D.nx σ H1
theorem aw (he:PE X e te)(hs:swapsWith e none pos.line X.env=pure false:=by rfl):PS X (.Expr e pos) (ls te):=by
 intro pins s σ H D I h;exact wpAny_Expr_any (aK (he pins s σ H _ I h) λ v s1 ⟨x,H1,I1,r1,q1⟩=>⟨σ,H1,I1,q1⟩) I.quiet hs
def cX (te:TE):TS:=λ D σ H=>te σ H D.rt
theorem cZ (he:PE X e te):PS X (.Return (some e) pos) (cX te):=by
 intro pins s σ H D I h;exact wpAny_Return_some (aK (he pins s σ H _ I h) λ v s1 ⟨x,H1,I1,r1,q1⟩=>⟨x,σ,H1,I1,r1,q1⟩)
def fc (c:TT)(t u:TS):TS:=λ D σ H=>c σ H λ b H1=>if b=true then t D σ H1 else u D σ H1
theorem bB {c:Expr}{a b:List Stmt}{tc:TT}(hc:PT X c tc)(ha:PSs X a t)(hb:PSs X b u):PS X (.If c a b pos) (fc tc t u):=by
 intro pins s σ H D I h;refine wpAny_If (aK (hc pins s σ H _ I h) λ d s1 ⟨H1,I1,q1⟩=>?_);cases d with
 | true=>exact ha pins s1 σ H1 D I1 q1
 | false=>exact hb pins s1 σ H1 D I1 q1
def zO:TS:=λ _ _ _=>False
theorem lf:PS X st zO:=λ _ _ _ _ _ _ h=>h.elim
end
abbrev TG:=V->St->Hp->(St->Hp->Prop)->Prop
abbrev tL:=List V->St->Hp->(St->Hp->Prop)->Prop
def PG (X:Cx)(target:Expr)(t:TG):Prop :=
 ∀(pins:List (Addr × Obj))(s:Shared)(σ:St)(H:Hp)(v:V)(u:Value)(Q:St->Hp->Prop),Inv X pins σ H s->RelV v u->t v σ H Q ->
  wpAny (model X.prog X.w) X.A (assign target X.env u) (λ _ s'=>∃ σ' H',Inv X pins σ' H' s'/\Q σ' H') X.xe s
def Bs (X:Cx)(ts:List Expr)(t:tL):Prop :=
 ∀(pins:List (Addr × Obj))(s:Shared)(σ:St)(H:Hp)(vs:List V)(us:List Value)(Q:St->Hp->Prop),Inv X pins σ H s->Vals vs us->t vs σ H Q ->
  wpAny (model X.prog X.w) X.A (assignInOrder ((assignEach ts X.env).map (·.2)) us) (λ _ s'=>∃ σ' H',Inv X pins σ' H' s'/\Q σ' H') X.xe s
abbrev qw:=V->V->V->Hp->(Hp->Prop)->Prop
def zD (X:Cx)(t:qw):Prop :=
 ∀(pins:List (Addr × Obj))(s:Shared)(σ:St)(H:Hp)(o i v:V)(ov iv u:Value)(Q:Hp->Prop),Inv X pins σ H s->RelV o ov->RelV i iv->RelV v u->t o i v H Q ->
  wpAny (model X.prog X.w) X.A (setItem ov iv u) (λ _ s'=>∃ H',Inv X pins σ H' s'/\Q H') X.xe s
abbrev Dv:=V->V->Hp->VK->Prop
def FL (X:Cx)(op:Operator)(t:Dv):Prop :=
 ∀(pins:List (Addr × Obj))(s:Shared)(σ:St)(H:Hp)(x y:V)(v u:Value)(Q:VK),Inv X pins σ H s->RelV x v->RelV y u->t x y H Q ->
  wpAny (model X.prog X.w) X.A (inplaceOp op v u) (EP X pins σ Q) X.xe s
section
variable {X:Cx}{pos:Pos}
def aP (i:Nat):TG:=λ v σ H Q=>Q (σ.set i (some v)) H
theorem bU {i:Nat}{x:Str}(hN:X.N.Nodup)(hi:X.N[i]?=some x)(hx:yD X.env.scope x)(hf:X.fn x=true\/X.env.scope.names.lookup x=some .local:=by first | exact .inl rfl | exact .inr rfl | assumption):PG X (.Name x pos) (aP i):=by
 intro pins s σ H v u Q I r h;exact wpAny_assign_Name (fW I hN hi hx r (λ s' I'=>⟨_,H,I',h⟩) hf)
def oK:tL:=λ vs σ H Q=>vs=[]/\Q σ H
def eY (t:TG)(u:tL):tL:=λ vs σ H Q=>∃ v r,vs=v::r/\t v σ H λ σ' H'=>u r σ' H' Q
theorem ba:Bs X [] oK:=by
 intro pins s σ H vs us Q I r h;obtain⟨e,h⟩:=h;subst e;cases r;exact assignInOrder_nil ⟨σ,H,I,h⟩
theorem dX {e:Expr}{es:List Expr}{t:TG}{u:tL}(h1:PG X e t)(h2:Bs X es u)
  (hs:(assignEach (e::es) X.env).map (·.2)=assign e X.env::(assignEach es X.env).map (·.2):=by rfl):Bs X (e::es) (eY t u):=by
 intro pins s σ H vs us Q I r h;obtain⟨v,vr,e1,h⟩:=h;subst e1;cases r with
 | cons r rr =>
  rw [hs];refine assignInOrder_cons (aK (h1 pins s σ H _ _ _ I r h) λ _ s1 ⟨σ1,H1,I1,q1⟩=>?_);exact h2 pins s1 σ1 H1 _ _ Q I1 rr q1
def qH (K:PySem.W.Frag)(n:Nat)(t:tL):TG:=λ v σ H Q=>∃ a xs,v=.ref a/\SqT K H a xs/\xs.length=n/\t xs σ H Q
theorem bI {es:List Expr}{k:Nat}{t:tL}{n:Nat}(hc:X.calm=true)(h:Bs X es t)
  (hn:(assignEach es X.env).length=n:=by rfl)(hst:(assignEach es X.env).findIdx? (·.1)=none:=by rfl):PG X (.Tuple es k pos) (qH X.K n t):=by
 intro pins s σ H v u Q I r hw;obtain⟨a,xs,e1,hq,hl,hw⟩:=hw;subst e1;cases r;obtain⟨its,rv,ht,hz⟩:=I.tuple hq;refine assign_Tuple_tuple (I.ok.hd hc) ht (by simp [hn,<- hl,rv.length]) hst λ h' hx=>?_
 have I1:Inv X pins σ H { s with heap:=h' }:=I.kept (t':=s.toks) λ b o e=>hx b o (Nat.ne_of_lt (Heap.lt_size e)) e
 exact h pins _ σ H xs _ Q I1 (by simpa using rv) hw
def B8 (to ti:TE)(t:qw):TG:=λ v σ H Q=>to σ H λ o H1=>ti σ H1 λ i H2=>t o i v H2 λ H3=>Q σ H3
theorem kj {o i:Expr}{to ti:TE}{t:qw}(ho:PE X o to)(hi:PE X i ti)(hs:zD X t)
  (ha:∀ v,assign (.Subscript o i pos) X.env v=(do
   let ov <- holding [v] (eval o X.env)
   let iv <- holding [v,ov] (eval i X.env)
   standAt pos
   holding [v,ov,iv] (setItem ov iv v)
   release [v,ov,iv] []):=by intro _;rfl):PG X (.Subscript o i pos) (B8 to ti t):=by
 intro pins s σ H v u Q I r h;rw [ha];refine wpAny_bind (wpAny_holding (aK (ho pins s σ H _ I h) λ ov s1 ⟨x,H1,I1,r1,q1⟩=>?_));refine wpAny_bind (wpAny_holding (aK (hi pins s1 σ H1 _ I1 q1) λ iv s2 ⟨y,H2,I2,r2,q2⟩=>?_));refine wpAny_bind (wpAny_standAt (wpAny_bind (wpAny_holding (aK (hs pins s2 σ H2 x y v ov iv u _ I2 r1 r2 r q2) λ _ s3 ⟨H3,I3,q3⟩=>?_))));exact wpAny_release ⟨σ,H3,I3,q3⟩
def cj (te:TE)(g:TG):TS:=λ D σ H=>te σ H λ x H1=>g x σ H1 D.nx
theorem fQ {tg e:Expr}{te:TE}{g:TG}(he:PE X e te)(hg:PG X tg g)(hs:swapsWithSole [tg] e pos.line X.env=pure false:=by rfl)(hw:swappedStores [tg] e X.env=pure none:=by rfl)
  (h1:(assignEach [tg] X.env).map (·.2)=[assign tg X.env]:=by rfl):PS X (.Assign [tg] e pos) (cj te g):=by
 intro pins s σ H D I h;refine wpAny_Assign_stores (aK (he pins s σ H _ I h) λ v s1 ⟨x,H1,I1,r1,q1⟩=>?_) hs hw;rw [h1];exact aK (hg pins s1 σ H1 x v _ I1 r1 q1) λ _ s2 q=>q
theorem gW {i:Nat}{x:Str}{e:Expr}{te:TE}{pos':Pos}(hN:X.N.Nodup)(hi:X.N[i]?=some x)(hx:yD X.env.scope x)(he:PE X e te)(hs:swapsWith e (some (.Name x pos')) pos.line X.env=pure false:=by rfl)(hf:X.fn x=true\/X.env.scope.names.lookup x=some .local:=by first | exact .inl rfl | exact .inr rfl | assumption) :
  PS X (.Assign [.Name x pos'] e pos) (cj te (aP i)):=by
 intro pins s σ H D I h;refine wpAny_Assign_Name (aK (he pins s σ H _ I h) λ v s1 ⟨y,H1,I1,r1,q1⟩=>?_) hs;exact fW I1 hN hi hx r1 (λ s2 I2=>⟨_,H1,I2,q1⟩) hf
def EZ (i j:Nat)(ta:TA):TS:=λ D σ H=>ta σ H λ vs H1=>∃ v w,vs=[v,w]/\D.nx ((σ.set i (some v)).set j (some w)) H1
theorem zk {i j:Nat}{x y:Str}{a b:Expr}{ta:TA}{px py pt:Pos} {kt k2 pt2}(hc:X.calm=true)(hN:X.N.Nodup)(hi:X.N[i]?=some x)(hj:X.N[j]?=some y)(hij:i≠j)
  (hx:X.env.scope.names.lookup x=some .local)(hy:X.env.scope.names.lookup y=some .local)(ha:PA X [a,b] ta)
  (hw:swappedStores [.Tuple [.Name x px,.Name y py] kt pt] (.Tuple [a,b] k2 pt2) X.env=pure (some [x,y]))
  (hs:swapsWithSole [.Tuple [.Name x px,.Name y py] kt pt] (.Tuple [a,b] k2 pt2) pos.line X.env=pure false:=by rfl) :
  PS X (.Assign [.Tuple [.Name x px,.Name y py] kt pt] (.Tuple [a,b] k2 pt2) pos) (EZ i j ta):=by
 intro pins s σ H D I h;rw [exec_Assign_arm];refine wpAny_bind (wpAny_standAt ?_);rw [hs];refine wpAny_bind (wpAny_pure ?_);rw [if_neg (by decide)]
 refine wpAny_bind (Tuple_ (aK (ha _ pins s σ H _ I h) λ us s1 ⟨vs,H1,I1,r1,q1⟩=>?_));obtain⟨v,w,e1,q1⟩:=q1;subst e1;obtain⟨u1,u2,rfl,rv,rw'⟩:∃ u1 u2,us=[u1,u2]/\RelV v u1/\RelV w u2:=by
  cases r1 with
  | cons p q =>
   cases q with
   | cons p' q' =>
    cases q';exact⟨_,_,rfl,p,p'⟩
 refine wpAny_newObj_type ?_ (by show 2<=sizeLine;decide)
 have I2:Inv X pins σ H1 { s1 with heap:=s1.heap.push { cls:=.type "tuple",data:=.seq [u1,u2].toArray } }:=I1.kept (t':=s1.toks) λ b o e=>Heap.get?_push_of_some _ e
 rw [hw];refine wpAny_bind (wpAny_pure ?_);show wpAny (model X.prog X.w) X.A (do rule "assign.swapped-stores";let items <- unpackItems (.ref s1.heap.objs.size) 2 none;assignInOrder [λ v=>bindName X.env y v,λ v=>bindName X.env x v] items.reverse;pure Flow.next) _ _ _
 refine wpAny_bind (wpAny_rule (wpAny_bind (unpackItems_tuple (items:=#[u1,u2]) (I.ok.hd hc) (IsTup.new s1.heap _) λ h' hx'=>?_)));have I3:=I2.kept (h':=h') (t':=s1.toks) λ b o e=>hx' b o (Nat.ne_of_lt (Heap.lt_size e)) e;show wpAny _ _ (assignInOrder [λ v=>bindName X.env y v,λ v=>bindName X.env x v] [u2,u1] >>= λ _=>pure Flow.next) _ _ _;refine wpAny_bind (assignInOrder_cons (wpAny_bindName (fW I3 hN hj (.inl hy) rw' (λ s2 I4=>?_) (.inr hy))));refine assignInOrder_cons (wpAny_bindName (fW I4 hN hi (.inl hx) rv (λ s3 I5=>assignInOrder_nil (wpAny_pure ?_)) (.inr hx)));rw [List.set_comm _ _ (Ne.symm hij)] at I5;exact⟨_,H1,I5,q1⟩
def vW (to ti te:TE)(tget:V->V->Hp->VK->Prop)(tip:Dv)(tset:qw):TS:=λ D σ H=>to σ H λ o H1=>ti σ H1 λ i H2=>tget o i H2 λ x H3=>te σ H3 λ y H4=>tip x y H4 λ z H5=>tset o i z H5 λ H6=>D.nx σ H6
def AX (X:Cx)(t:V->V->Hp->VK->Prop):Prop :=
 ∀(pins:List (Addr × Obj))(s:Shared)(σ:St)(H:Hp)(o i:V)(ov iv:Value)(Q:VK),Inv X pins σ H s->RelV o ov->RelV i iv->t o i H Q ->
  wpAny (model X.prog X.w) X.A (getItem ov iv) (EP X pins σ Q) X.xe s
theorem uy {o i e:Expr}{to ti te:TE}{tget:V->V->Hp->VK->Prop}{tip:Dv}{tset:qw}{op:Operator}{tpos:Pos}(ho:PE X o to)(hi:PE X i ti)(hg:AX X tget)(he:PE X e te)(hp:FL X op tip)(hs:zD X tset)
  (ha:∀ ov iv new,augStore i ov iv new=(do holding [new,ov,iv] (setItem ov iv new);release [new,ov,iv] [];pure .next):=by intros;rfl):PS X (.AugAssign (.Subscript o i tpos) op e pos) (vW to ti te tget tip tset):=by
 intro pins s σ H D I h;refine wpAny_AugAssign_SubscriptAny (aK (ho pins s σ H _ I h) λ ov s1 ⟨x1,H1,I1,r1,q1⟩=>?_) ha;refine aK (hi pins s1 σ H1 _ I1 q1) λ iv s2 ⟨x2,H2,I2,r2,q2⟩=>?_;refine aK (hg pins s2 σ H2 x1 x2 ov iv _ I2 r1 r2 q2) λ old s3 ⟨x3,H3,I3,r3,q3⟩=>?_;refine aK (he pins s3 σ H3 _ I3 q3) λ v s4 ⟨x4,H4,I4,r4,q4⟩=>?_;refine aK (hp pins s4 σ H4 x3 x4 old v _ I4 r3 r4 q4) λ new s5 ⟨x5,H5,I5,r5,q5⟩=>?_;exact aK (hs pins s5 σ H5 x1 x2 x5 ov iv new _ I5 r1 r2 r5 q5) λ _ s6 ⟨H6,I6,q6⟩=>⟨σ,H6,I6,q6⟩
def F0 (f:Int->Int->Int):Dv:=λ x y H Q=>∃ i j,x=.int i/\y=.int j/\Q (.int (f i j)) H
theorem wA:FL X .Add (F0 λ i j=>i+j):=by
 intro pins s σ H x y v u Q I r1 r2 h;obtain⟨i,j,e1,e2,q⟩:=h;subst e1;subst e2;obtain⟨t,rfl⟩:=r1;obtain⟨t',rfl⟩:=r2;exact iadd_int ⟨.int _,H,I.tok _,⟨_,rfl⟩,q⟩
def qg (c:TT)(tb:TS):TS:=λ D σ H=>∃ W:Nat->St->Hp->Prop,(∃ m,W m σ H)/\∀ m σ H,W m σ H ->
 c σ H λ b H1=>if b=true then ∃ N:St->Hp->Prop,(∀ σ' H',N σ' H'->∃ m',m'<m/\W m' σ' H')/\tb { D with nx:=N,ct:=N,bk:=D.nx } σ H1 else D.nx σ H1
theorem kU {c:Expr}{body:List Stmt}{tc:TT}{tb:TS}(hp:PassesOwn (model X.prog X.w) X.A X.env X.xe)(hc:PT X c tc)(hb:PSs X body tb):PS X (.While c body [] pos) (qg tc tb):=by
 intro pins s σ H D I h;obtain⟨W,⟨m0,w0⟩,turn⟩:=h;refine wpAny_While (codeAny_whileLoop (λ n s'=>∃ σ' H',Inv X pins σ' H' s'/\W n σ' H') ?_ m0 ⟨σ,H,I,w0⟩);rintro n s1 ⟨σ1,H1,I1,w1⟩;refine wpAny_passesOwn hp (aK (hc pins s1 σ1 H1 _ I1 (turn n σ1 H1 w1)) λ b s2 ⟨H2,I2,q2⟩=>?_);cases b with
 | true =>
  obtain⟨N,hN,q2⟩:=q2;rw [if_pos rfl];refine wpAny_passesOwn hp (aK (hb pins s2 σ1 H2 _ I2 q2) λ f s3 q3=>?_);cases f with
  | next =>
   obtain⟨σ3,H3,I3,n3⟩:=q3;obtain⟨m',hm,w3⟩:=hN σ3 H3 n3;exact⟨m',hm,σ3,H3,I3,w3⟩
  | cont =>
   obtain⟨σ3,H3,I3,n3⟩:=q3;obtain⟨m',hm,w3⟩:=hN σ3 H3 n3;exact⟨m',hm,σ3,H3,I3,w3⟩
  | brk=>exact q3
  | ret v=>exact q3
 | false =>
  rw [if_neg Bool.false_ne_true];exact wpAny_execs_nil ⟨σ1,H2,I2,q2⟩
end
structure It where
 go:Nat->Hp->Prop
 yld:Nat->Hp->V->Hp->Prop
 stop:Nat->Hp->Prop
def cD (X:Cx)(pins:List (Addr × Obj))(H:Hp)(b:Addr):Prop :=
 H b=none/\b≠X.env.locals/\b ∉ X.fs/\(b∈X.ex\/X.s₀.heap.objs.size<=b)/\(∀ x c,X.env.cells.lookup x=some c->c≠b)/\∀ p∈X.pn++pins,p.1≠b
theorem Inv.fpOk {X:Cx}{pins:List (Addr × Obj)}{σ:St}{H H':Hp}{s:Shared}{b:Addr}(I:Inv X pins σ H s)(hb:s.heap.objs.size<=b)(hn:H' b=none):cD X pins H' b:=by
 refine⟨hn,Nat.ne_of_gt (Nat.lt_of_lt_of_le I.lt hb),I.nofs hb,.inr (Nat.le_trans I.sz hb),λ x c e z=>?_,λ p hp z=>?_⟩
 ·obtain⟨v,q⟩:=I.cell x c e;exact absurd (Nat.lt_of_lt_of_le q.lt (by rw [z];exact hb)) (Nat.lt_irrefl _)
 ·exact absurd (Nat.lt_of_lt_of_le (Heap.lt_size (I.pin p hp).1) (by rw [z];exact hb)) (Nat.lt_irrefl _)
structure nt (P:Program)(w:World)(K:PySem.W.Frag)(tg:Expr)(J:It)(fp:List Addr)(it:Addr)(tn:Nat->Heap->Prop):Prop where
 mem:it∈fp
 obj:∀ i h,tn i h->∀ b∈fp,∃ o,h.get? b=some o/\∀ v,o.data ≠ .cell v
 keep:∀ i h h',tn i h->(∀ b∈fp,∀ o,h.get? b=some o->h'.get? b=some o)->tn i h'
 item:∀(X:Cx),X.prog=P->X.w=w->X.K=K->X.calm=true->∀(i:Nat)(pins:List (Addr × Obj))(s:Shared)(σ:St)(H:Hp)(E:Value->Shared->Prop),Inv X pins σ H s->(∀ b∈fp,cD X pins H b)->tn i s.heap->J.go i H ->
  wpAny (model P w) X.A (pyNext (.ref it)) (λ r s1=>∃ u,r=some u /\
   wpAny (model P w) X.A (letOwnedTupleGo tg (.ref it) u) (λ _ s2=>∃ x H',Inv X pins σ H' s2/\RelV x u/\J.yld i H x H'/\tn (i+1) s2.heap/\∀ b∈fp,H' b=none) E s1) E s
 done:∀(X:Cx),X.prog=P->X.w=w->X.K=K->X.calm=true->∀(i:Nat)(pins:List (Addr × Obj))(s:Shared)(σ:St)(H:Hp)(E:Value->Shared->Prop),Inv X pins σ H s->(∀ b∈fp,cD X pins H b)->tn i s.heap->J.stop i H ->
  wpAny (model P w) X.A (pyNext (.ref it)) (λ r s1=>r=none/\Inv X pins σ H s1) E s
 self:∀(A:Around)(i:Nat)(s:Shared)(Q:Value->Shared->Prop)(E:Value->Shared->Prop),tn i s.heap->Q (.ref it) s->wpAny (model P w) A (pyIter (.ref it)) Q E s
abbrev TI:=St->Hp->(It->Hp->Prop)->Prop
def F3 (X:Cx)(pins:List (Addr × Obj))(σ:St)(tg:Expr)(R:It->Hp->Prop)(itv:Value)(s2:Shared):Prop :=
 ∃(it:Addr)(fp:List Addr)(tn:Nat->Heap->Prop)(J:It)(H':Hp),itv=.ref it/\Inv X pins σ H' s2/\nt X.prog X.w X.K tg J fp it tn/\tn 0 s2.heap/\(∀ b∈fp,cD X pins H' b)/\R J H'
def PI (X:Cx)(tg iter:Expr)(wi:TI):Prop :=
 ∀(pins:List (Addr × Obj))(s:Shared)(σ:St)(H:Hp)(R:It->Hp->Prop),Inv X pins σ H s->wi σ H R ->
  wpAny (model X.prog X.w) X.A (eval iter X.env) (λ v s1=>wpAny (model X.prog X.w) X.A (pyIter v) (F3 X pins σ tg R) X.xe s1) X.xe s
theorem nQ {M:Model}{A:Around}{E:Value->Shared->Prop}{s:Shared}{tg:Expr}{it:Addr}{u:Value}{o:Obj}{n:String}{vs:Array Value}{Q:Unit->Shared->Prop}(ho:s.heap.get? it=some o)(hc:o.cls=.type n)(hd:o.data=.fields vs)
  (hn:["enumerate","zip","dict_itemiterator","dict_reverseitemiterator","odict_iterator","itertools.zip_longest","itertools.pairwise"].contains n=false)(hQ:Q () s):wpAny M A (letOwnedTupleGo tg (.ref it) u) Q E s:=by
 unfold letOwnedTupleGo;cases tg <;> first
  | exact wpAny_pure hQ
  | (cases u <;> first
    | exact wpAny_pure hQ
    | (refine wpAny_bind (wpAny_load ho ?_)
       rw [hc,hd];show wpAny M A (if(["enumerate","zip","dict_itemiterator","dict_reverseitemiterator","odict_iterator","itertools.zip_longest","itertools.pairwise"].contains n&&vs[0]?==some (rawInt _))=true then _ else _) Q E s
       rw [if_neg (by intro h;rw [hn,Bool.false_and] at h;cases h)]
       exact wpAny_pure hQ))
def kq (K:PySem.W.Frag)(a:Addr):It :=
 ⟨λ i H=>∃ xs x,SqL K H a xs/\xs[i]?=some x,λ i H x H'=>H'=H/\∀ xs,SqL K H a xs->xs[i]?=some x,λ i H=>∃ xs,SqL K H a xs/\xs.length<=i⟩
def Ak (K:PySem.W.Frag)(a:Addr):It :=
 ⟨λ i H=>∃ xs x,SqT K H a xs/\xs[i]?=some x,λ i H x H'=>H'=H/\∀ xs,SqT K H a xs->xs[i]?=some x,λ i H=>∃ xs,SqT K H a xs/\xs.length<=i⟩
def uT (lo:Int)(n:Nat):It:=⟨λ i _=>i<n,λ i H x H'=>H'=H/\x=.int (lo+i),λ i _=>n<=i⟩
theorem oR {P:Program}{w:World}{K:PySem.W.Frag}{tg:Expr}(a it:Addr):nt P w K tg (kq K a) [it] it (λ i h=>h.IsListIter it a i) where
 mem:=by simp
 obj:=λ i h st b hb=>by
  have e:b=it:=by simpa using hb
  subst e;obtain⟨o,e,c,d⟩:=st;exact⟨o,e,λ v z=>by rw [d] at z;cases z⟩
 keep:=λ i h h' st k=>st.at λ o e=>k it (by simp) o e
 item:=by
  intro X hP hw hK hc i pins s σ H E I hf st hg;subst hP hw hK;obtain⟨xs,x,hq,hx⟩:=hg;obtain⟨its,rv,p,hz⟩:=I.list hq;obtain⟨u,hu,ru⟩:=rv.get hx;obtain⟨f0,f1,f2,f3,f4,f5⟩:=hf it (by simp)
  refine wpAny_pyNext_list_item st p.isList (x:=u) (by simpa using hu) λ h' st' sb=>?_
  have I1:Inv X pins σ H { s with heap:=h' }:=I.turned (t':=s.toks) (λ b o hb e=>(sb.2 b hb).trans e) f0 f1 f3 f4 f5
  obtain⟨o,e,c,d⟩:=id st';exact⟨u,rfl,nQ (s:={ s with heap:=h' }) e c d (by decide) ⟨x,H,I1,ru,⟨rfl,λ ys hy=>by rw [I.list_inj hy hq];exact hx⟩,st',λ b hb=>(hf b hb).1⟩⟩
 done:=by
  intro X hP hw hK hc i pins s σ H E I hf st hg;subst hP hw hK;obtain⟨xs,hq,hx⟩:=hg;obtain⟨its,rv,p,hz⟩:=I.list hq;obtain⟨f0,f1,f2,f3,f4,f5⟩:=hf it (by simp)
  have hl:=rv.length;exact wpAny_pyNext_list_end (I.ok.hd hc) st p.isList (by simp;omega) λ h' eb=>⟨rfl,I.turned (t':=s.toks) (λ b o hb e=>eb b o hb e) f0 f1 f3 f4 f5⟩
 self:=λ _ _ _ _ _ st h=>wpAny_pyIter_listiter st h
theorem lY {P:Program}{w:World}{K:PySem.W.Frag}{tg:Expr}(a it:Addr):nt P w K tg (Ak K a) [it] it (λ i h=>h.IsTupleIter it a i) where
 mem:=by simp
 obj:=λ i h st b hb=>by
  have e:b=it:=by simpa using hb
  subst e;obtain⟨o,e,c,d⟩:=st;exact⟨o,e,λ v z=>by rw [d] at z;cases z⟩
 keep:=λ i h h' st k=>st.at λ o e=>k it (by simp) o e
 item:=by
  intro X hP hw hK hc i pins s σ H E I hf st hg;subst hP hw hK;obtain⟨xs,x,hq,hx⟩:=hg;obtain⟨its,rv,p,hz⟩:=I.tuple hq;obtain⟨u,hu,ru⟩:=rv.get hx;obtain⟨f0,f1,f2,f3,f4,f5⟩:=hf it (by simp)
  refine wpAny_pyNext_tuple_item st (show s.heap.IsTuple a its.toArray from p) (x:=u) (by simpa using hu) λ h' st' sb=>?_
  have I1:Inv X pins σ H { s with heap:=h' }:=I.turned (t':=s.toks) (λ b o hb e=>(sb.2 b hb).trans e) f0 f1 f3 f4 f5
  obtain⟨o,e,c,d⟩:=id st';exact⟨u,rfl,nQ (s:={ s with heap:=h' }) e c d (by decide) ⟨x,H,I1,ru,⟨rfl,λ ys hy=>by rw [I.tuple_inj hy hq];exact hx⟩,st',λ b hb=>(hf b hb).1⟩⟩
 done:=by
  intro X hP hw hK hc i pins s σ H E I hf st hg;subst hP hw hK;obtain⟨xs,hq,hx⟩:=hg;obtain⟨its,rv,p,hz⟩:=I.tuple hq;obtain⟨f0,f1,f2,f3,f4,f5⟩:=hf it (by simp)
  have hl:=rv.length;exact wpAny_pyNext_tuple_end (I.ok.hd hc) st (show s.heap.IsTuple a its.toArray from p) (by simp;omega) λ h' eb=>⟨rfl,I.turned (t':=s.toks) (λ b o hb e=>eb b o hb e) f0 f1 f3 f4 f5⟩
 self:=λ _ _ _ _ _ st h=>wpAny_pyIter_tupleiter st h
theorem mI {P:Program}{w:World}{K:PySem.W.Frag}{tg:Expr}(it:Addr)(lo:Int)(n:Nat):nt P w K tg (uT lo n) [it] it (λ i h=>IsRangeIter h it (lo+(i:Nat)*1) ((n:Int)-(i:Nat)) 1) where
 mem:=by simp
 obj:=λ i h st b hb=>by
  have e:b=it:=by simpa using hb
  subst e;exact⟨_,st,λ v z=>by
   have z':Data.fields _=Data.cell v:=z;cases z'⟩
 keep:=λ i h h' st k=>k it (by simp) _ st
 item:=by
  intro X hP hw hK hc i pins s σ H E I hf st hg;subst hP hw hK;obtain⟨f0,f1,f2,f3,f4,f5⟩:=hf it (by simp)
  have W:=Walks.range (prog:=X.prog) (w:=X.w) (I.ok.hd hc) it lo 1 n;refine W.item i s _ _ hg st λ v h' tk hv st' kk=>?_;obtain⟨t,rfl⟩:=hv;have I1:Inv X pins σ H { s with heap:=h',toks:=tk }:=I.turned (λ b o hb e=>kk b o (by simpa using hb) e) f0 f1 f3 f4 f5
  refine⟨_,rfl,nQ (s:={ s with heap:=h',toks:=tk }) (n:="range_iterator") st' rfl rfl (by decide) ⟨.int (lo+i),H,I1,⟨t,?_⟩,⟨rfl,rfl⟩,st',λ b hb=>(hf b hb).1⟩⟩
  rw [Int.mul_one]
 done:=by
  intro X hP hw hK hc i pins s σ H E I hf st hg;subst hP hw hK;obtain⟨f0,f1,f2,f3,f4,f5⟩:=hf it (by simp)
  exact wpAny_pyNext_range_end (I.ok.hd hc) st (by have:n<=i:=hg;omega) λ h' eb=>⟨rfl,I.turned (t':=s.toks) (λ b o hb e=>eb b o hb e) f0 f1 f3 f4 f5⟩
 self:=λ _ _ _ _ _ st h=>wpAny_pyIter_rangeiter st h
section
variable {X:Cx}{tg:Expr}
def aZ (K:PySem.W.Frag)(tl:TE):TI:=λ σ H R=>tl σ H λ x H1=>∃ a,x=.ref a/\(∃ xs,SqL K H1 a xs)/\R (kq K a) H1
def AF (K:PySem.W.Frag)(tl:TE):TI:=λ σ H R=>tl σ H λ x H1=>∃ a,x=.ref a/\(∃ xs,SqT K H1 a xs)/\R (Ak K a) H1
theorem aE {l:Expr}{tl:TE}(hl:PE X l tl):PI X tg l (aZ X.K tl):=by
 intro pins s σ H R I h;refine aK (hl pins s σ H _ I h) λ v s1 ⟨x,H1,I1,r1,q1⟩=>?_;obtain⟨a,e,⟨xs,hq⟩,q⟩:=q1;subst e;cases r1;obtain⟨its,rv,p,hz⟩:=I1.list hq;refine wpAny_pyIter_list p.isList ?_;refine⟨s1.heap.objs.size,[s1.heap.objs.size],_,_,H1,rfl,I1.kept (t':=s1.toks) λ b o e=>Heap.get?_push_of_some _ e,oR a _,⟨_,Heap.get?_push_size _ rfl,rfl,rfl⟩,λ b hb=>?_,q⟩;have e:b=s1.heap.objs.size:=by simpa using hb
 subst e;exact I1.fpOk (Nat.le_refl _) (I1.hok.fresh (Nat.le_refl _))
theorem nv {l:Expr}{tl:TE}(hl:PE X l tl):PI X tg l (AF X.K tl):=by
 intro pins s σ H R I h;refine aK (hl pins s σ H _ I h) λ v s1 ⟨x,H1,I1,r1,q1⟩=>?_;obtain⟨a,e,⟨xs,hq⟩,q⟩:=q1;subst e;cases r1;obtain⟨its,rv,p,hz⟩:=I1.tuple hq;refine wpAny_pyIter_tuple (show s1.heap.IsTuple a its.toArray from p) ?_;refine⟨s1.heap.objs.size,[s1.heap.objs.size],_,_,H1,rfl,I1.kept (t':=s1.toks) λ b o e=>Heap.get?_push_of_some _ e,lY a _,⟨_,Heap.get?_push_size _ rfl,rfl,rfl⟩,λ b hb=>?_,q⟩;have e:b=s1.heap.objs.size:=by simpa using hb
 subst e;exact I1.fpOk (Nat.le_refl _) (I1.hok.fresh (Nat.le_refl _))
theorem p5 {pins:List (Addr × Obj)}{σ:St}{H:Hp}{s:Shared}{R:It->Hp->Prop}{E:Value->Shared->Prop}{lo hi:Int}{t u v:Tok}{tk:Nat}(I:Inv X pins σ H s)(h1:-(2^62)<=lo)(h2:lo<2^62)(h3:-(2^62)<=hi)(h4:hi<2^62)
  (q:R (uT lo (hi-lo).toNat) H):wpAny (model X.prog X.w) X.A (pyIter (.ref s.heap.objs.size)) (F3 X pins σ tg R) E { s with heap:=s.heap.push { cls:=.type "range",data:=.fields #[.int lo t,.int hi u,.int 1 v] },toks:=tk }:=by
 refine wpAny_pyIter_range (IsRange.new ..) (small_one h1 h2 h3 h4) ?_;have I1:Inv X pins σ H { s with heap:=s.heap.push { cls:=.type "range",data:=.fields #[.int lo t,.int hi u,.int 1 v] },toks:=tk }:=I.kept λ b o e=>Heap.get?_push_of_some _ e
 refine⟨(s.heap.push { cls:=.type "range",data:=.fields #[.int lo t,.int hi u,.int 1 v] }).objs.size,[(s.heap.push { cls:=.type "range",data:=.fields #[.int lo t,.int hi u,.int 1 v] }).objs.size],_,_,H,rfl,
  I1.kept (t':=tk) λ b o e=>Heap.get?_push_of_some _ e,mI _ lo (hi-lo).toNat,?_,λ b hb=>?_,q⟩
 ·have e1:lo+((0:Nat):Int)*1=lo:=by simp
  have e2:(((hi-lo).toNat:Nat):Int)-((0:Nat):Int)=Builtin.Range.rangeSize lo hi 1:=by rw [rangeSize_one];split <;> omega
  show IsRangeIter _ _ (lo+((0:Nat):Int)*1) ((((hi-lo).toNat:Nat):Int)-((0:Nat):Int)) 1;rw [e1,e2];exact Heap.get?_push_size _ rfl
 ·have e:b=(s.heap.push { cls:=.type "range",data:=.fields #[.int lo t,.int hi u,.int 1 v] }).objs.size:=by simpa using hb
  subst e;exact I1.fpOk (Nat.le_refl _) (I1.hok.fresh (Nat.le_refl _))
def jz (ta:TA):TI:=λ σ H R=>ta σ H λ vs H1=>∃ j:Int,vs=[.int j]/\-(2^62)<=j/\j<2^62/\R (uT 0 j.toNat) H1
theorem fF {a:Expr}{ta:TA}{p pos:Pos}(hg:Gl X "range")(hm:X.mg "range" = none)(ha:PA X [a] ta)(hs:starEach [a] X.env=[(false,eval a X.env)]:=by rfl):PI X tg (.Call (.Name "range" p) [a] [] pos) (jz ta):=by
 intro pins s σ H R I h;refine Call_ (fw I hg hm boot_range (PyProof.Rows.callWith_type1 (aK (ha pos pins s σ H _ I h) λ us s1 ⟨vs,H1,I1,r1,q1⟩=>?_) hs rfl));obtain⟨j,e,q1,q2,q⟩:=q1;subst e;cases r1 with
 | cons r rr =>
  cases rr;obtain⟨t,rfl⟩:=r;exact call_range_1 (p5 I1 (by omega) (by omega) q1 q2 (by simpa using q))
def iQ (wi:TI)(g:TG)(tb:TS):TS:=λ D σ H=>wi σ H λ J H1=>∃ W:Nat->Nat->St->Hp->Prop,(∃ m,W 0 m σ H1)/\∀ i m σ H,W i m σ H ->
 (J.stop i H/\D.nx σ H)\/(J.go i H/\∃ N:St->Hp->Prop,(∀ σ' H',N σ' H'->∃ m',m'<m/\W (i+1) m' σ' H')/\∀ x H',J.yld i H x H'->g x σ H' λ σ2 H2=>tb { D with nx:=N,ct:=N,bk:=D.nx } σ2 H2)
def jC (fp:List Addr)(h:Heap):List (Addr × Obj):=fp.filterMap λ b=>(h.get? b).map λ o=>(b,o)
theorem aF {fp:List Addr}{h:Heap}{b:Addr}{o:Obj}(hb:b∈fp)(e:h.get? b=some o):(b,o)∈jC fp h:=List.mem_filterMap.mpr ⟨b,hb,by rw [e];rfl⟩
theorem pj {fp:List Addr}{h:Heap}{p:Addr × Obj}(hp:p∈jC fp h):p.1∈fp/\h.get? p.1=some p.2:=by
 obtain⟨b,hb,e⟩:=List.mem_filterMap.mp hp;cases q:h.get? b with
 | none=>rw [q] at e;cases e
 | some o =>
  rw [q] at e;have e':(b,o)=p:=Option.some.inj e;subst e';exact⟨hb,q⟩
theorem Inv.pinned {pins:List (Addr × Obj)}{σ:St}{H:Hp}{s:Shared}{fp:List Addr}(I:Inv X pins σ H s)(hf:∀ b∈fp,cD X pins H b)(ho:∀ b∈fp,∃ o,s.heap.get? b=some o/\∀ v,o.data ≠ .cell v):Inv X (pins++jC fp s.heap) σ H s :=
 I.pins_of λ p hp=>(List.mem_append.mp hp).elim (λ z=>I.pin p (List.mem_append_right _ z)) λ z=>by
  obtain⟨hb,e⟩:=pj z;obtain⟨f0,f1,f2,_⟩:=hf p.1 hb;obtain⟨o,e',d⟩:=ho p.1 hb;rw [e] at e';cases e';exact⟨e,f0,f1,f2,d⟩
theorem Inv.unpinned {pins pl:List (Addr × Obj)}{σ:St}{H:Hp}{s:Shared}(I:Inv X (pins++pl) σ H s):Inv X pins σ H s:=I.pins_of λ p hp=>I.pin p (List.mem_append_right _ (List.mem_append_left _ hp))
theorem cJ {iter:Expr}{body:List Stmt}{wi:TI}{g:TG}{tb:TS}{pos:Pos}(hp:PassesOwn (model X.prog X.w) X.A X.env X.xe)(hc:X.calm=true)(hi:PI X tg iter wi)(hg:PG X tg g)(hb:PSs X body tb)
  (hs:∀ x,foldedSetIterable iter X.env x=pure x:=by intro _;rfl):PS X (.For tg iter body [] pos) (iQ wi g tb):=by
 intro pins s σ H D I h;refine wpAny_For (aK (hi pins s σ H _ I h) λ v s1 h1=>aK h1 λ itv s2 h2=>?_) hs;obtain⟨it,fp,tn,J,H2,e,I2,T,st2,f2,W,⟨m0,w0⟩,turn⟩:=h2;subst e;have stat:∀{H':Hp},(∀ b∈fp,H' b=none)->∀ b∈fp,cD X pins H' b:=λ hn b hb=>⟨hn b hb,(f2 b hb).2⟩;refine codeAny_forLoop_any (λ n s'=>∃ i σ' H',Inv X pins σ' H' s'/\tn i s'.heap/\(∀ b∈fp,H' b=none)/\W i n σ' H') ?_ m0 ⟨0,σ,H2,I2,st2,λ b hb=>(f2 b hb).1,w0⟩;rintro n s3 ⟨i,σ3,H3,I3,st3,fr3,w3⟩;rcases turn i n σ3 H3 w3 with⟨stop,qn⟩ | ⟨go,N,hN,step⟩
 ·refine wpAny_passesOwn hp (aK (T.done X rfl rfl rfl hc i pins s3 σ3 H3 X.xe I3 (stat fr3) st3 stop) λ r s4 ⟨hr,I4⟩=>?_);subst hr;exact wpAny_execs_nil ⟨σ3,H3,I4,qn⟩
 ·refine wpAny_passesOwn hp (aK (T.item X rfl rfl rfl hc i pins s3 σ3 H3 X.xe I3 (stat fr3) st3 go) λ r s4 ⟨u,hr,h4⟩=>?_);subst hr;refine wpAny_passesOwn hp (aK h4 λ _ s5 ⟨x,H5,I5,r5,y5,st5,fr5⟩=>?_);have I5':=I5.pinned (stat fr5) (T.obj _ _ st5);refine wpAny_passesOwn hp (aK (hg _ s5 σ3 H5 x u _ I5' r5 (step x H5 y5)) λ _ s6 ⟨σ6,H6,I6,q6⟩=>?_);refine wpAny_passesOwn hp (aK (hb _ s6 σ6 H6 _ I6 q6) λ f s7 q7=>?_);have again:∀{σ7:St}{H7:Hp},Inv X (pins++jC fp s5.heap) σ7 H7 s7->N σ7 H7->∃ m,m<n/\∃ i σ' H',Inv X pins σ' H' s7/\tn i s7.heap/\(∀ b∈fp,H' b=none)/\W i m σ' H':=λ {σ7 H7} I7 n7=>by
   obtain⟨m',hm,w7⟩:=hN σ7 H7 n7;refine⟨m',hm,i+1,σ7,H7,I7.unpinned,T.keep _ _ _ st5 λ b hb o e=>(I7.pin (b,o) (List.mem_append_right _ (List.mem_append_right _ (aF hb e)))).1,λ b hb=>?_,w7⟩;obtain⟨o,e,d⟩:=T.obj _ _ st5 b hb;exact(I7.pin (b,o) (List.mem_append_right _ (List.mem_append_right _ (aF hb e)))).2.1
  cases f with
  | next=>obtain⟨σ7,H7,I7,n7⟩:=q7;exact again I7 n7
  | cont=>obtain⟨σ7,H7,I7,n7⟩:=q7;exact again I7 n7
  | brk=>obtain⟨σ7,H7,I7,q7⟩:=q7;exact⟨σ7,H7,I7.unpinned,q7⟩
  | ret v=>obtain⟨x7,σ7,H7,I7,r7,q7⟩:=q7;exact⟨x7,σ7,H7,I7.unpinned,r7,q7⟩
end
theorem dw {K:PySem.W.Frag}{a:Addr}{xs:List V}{g:TG}{tb:TS}{D:cw}{σ:St}{H:Hp}(Pv:Nat->St->Hp->Prop)(h0:Pv 0 σ H)(hl:∀ i σ H,i<=xs.length->Pv i σ H->SqL K H a xs)
  (hs:∀ i x σ H,xs[i]?=some x->Pv i σ H->g x σ H λ σ2 H2=>tb { D with nx:=Pv (i+1),ct:=Pv (i+1),bk:=D.nx } σ2 H2)(hd:∀ σ H,Pv xs.length σ H->D.nx σ H) :
  ∃ W:Nat->Nat->St->Hp->Prop,(∃ m,W 0 m σ H)/\∀ i m σ H,W i m σ H ->
   ((kq K a).stop i H/\D.nx σ H)\/((kq K a).go i H/\∃ N:St->Hp->Prop,(∀ σ' H',N σ' H'->∃ m',m'<m/\W (i+1) m' σ' H')/\∀ x H',(kq K a).yld i H x H'->g x σ H' λ σ2 H2=>tb { D with nx:=N,ct:=N,bk:=D.nx } σ2 H2):=by
 refine⟨λ i m σ H=>m=xs.length-i/\i<=xs.length/\Pv i σ H,⟨xs.length,by simp,Nat.zero_le _,h0⟩,?_⟩
 rintro i m σ H ⟨rfl,hi,p⟩;have q:=hl i σ H hi p;by_cases hlt:i<xs.length
 ·refine .inr ⟨⟨xs,xs[i],q,by simp [hlt]⟩,Pv (i+1),λ σ' H' p'=>⟨xs.length-(i+1),by omega,rfl,hlt,p'⟩,λ x H' y=>?_⟩
  obtain⟨e,y⟩:=y;subst e;exact hs i x σ _ (y xs q) p
 ·have e:i=xs.length:=by omega
  subst e;exact .inl ⟨⟨xs,q,Nat.le_refl _⟩,hd σ H p⟩
theorem i4 {lo:Int}{n:Nat}{g:TG}{tb:TS}{D:cw}{σ:St}{H:Hp}(Pv:Nat->St->Hp->Prop)(h0:Pv 0 σ H)
  (hs:∀ i σ H,i<n->Pv i σ H->g (.int (lo+i)) σ H λ σ2 H2=>tb { D with nx:=Pv (i+1),ct:=Pv (i+1),bk:=D.nx } σ2 H2)(hd:∀ σ H,Pv n σ H->D.nx σ H) :
  ∃ W:Nat->Nat->St->Hp->Prop,(∃ m,W 0 m σ H)/\∀ i m σ H,W i m σ H ->
   ((uT lo n).stop i H/\D.nx σ H)\/((uT lo n).go i H/\∃ N:St->Hp->Prop,(∀ σ' H',N σ' H'->∃ m',m'<m/\W (i+1) m' σ' H')/\∀ x H',(uT lo n).yld i H x H'->g x σ H' λ σ2 H2=>tb { D with nx:=N,ct:=N,bk:=D.nx } σ2 H2):=by
 refine⟨λ i m σ H=>m=n-i/\i<=n/\Pv i σ H,⟨n,by simp,Nat.zero_le _,h0⟩,?_⟩
 rintro i m σ H ⟨rfl,hi,p⟩;by_cases hlt:i<n
 ·refine .inr ⟨hlt,Pv (i+1),λ σ' H' p'=>⟨n-(i+1),by omega,rfl,hlt,p'⟩,λ x H' y=>?_⟩
  obtain⟨e,y⟩:=y;subst e y;exact hs i σ _ hlt p
 ·have e:i=n:=by omega
  subst e;exact .inl ⟨Nat.le_refl _,hd σ H p⟩
theorem rP {c:TT}{tb:TS}{D:cw}{σ:St}{H:Hp}(Pv:St->Hp->Prop)(μ:St->Hp->Nat)(h0:Pv σ H)
  (hs:∀ σ H,Pv σ H->c σ H λ b H1=>if b=true then tb { D with nx:=λ σ' H'=>Pv σ' H'/\μ σ' H' < μ σ H,ct:=λ σ' H'=>Pv σ' H'/\μ σ' H' < μ σ H,bk:=D.nx } σ H1 else D.nx σ H1)
  (mono:∀ σ H Q Q',(∀ b H1,Q b H1->Q' b H1)->c σ H Q->c σ H Q'):qg c tb D σ H:=by
 refine⟨λ m σ H=>m = μ σ H/\Pv σ H,⟨_,rfl,h0⟩,?_⟩;rintro m σ H ⟨rfl,p⟩;refine mono σ H _ _ (λ b H1 q=>?_) (hs σ H p);cases b with
 | true=>exact⟨_,λ σ' H' ⟨p',l⟩=>⟨_,l,rfl,p'⟩,q⟩
 | false=>exact q
abbrev R2:=V->V->Hp->VK->Prop
def gL (X:Cx)(f:Value->Value->Sem Value)(r:R2):Prop :=
 ∀(pins:List (Addr × Obj))(s:Shared)(σ:St)(H:Hp)(x y:V)(v u:Value)(Q:VK),Inv X pins σ H s->RelV x v->RelV y u->r x y H Q ->
  wpAny (model X.prog X.w) X.A (f v u) (EP X pins σ Q) X.xe s
def Ff (X:Cx)(f:Value->Sem Value)(r:V->Hp->VK->Prop):Prop :=
 ∀(pins:List (Addr × Obj))(s:Shared)(σ:St)(H:Hp)(x:V)(v:Value)(Q:VK),Inv X pins σ H s->RelV x v->r x H Q ->
  wpAny (model X.prog X.w) X.A (f v) (EP X pins σ Q) X.xe s
def cG (X:Cx)(f:Value)(r:List V->Hp->VK->Prop):Prop :=
 ∀(pins:List (Addr × Obj))(s:Shared)(σ:St)(H:Hp)(xs:List V)(us:List Value)(Q:VK),Inv X pins σ H s->Vals xs us->r xs H Q ->
  wpAny (model X.prog X.w) X.A (call f us) (EP X pins σ Q) X.xe s
def aB (r:R2)(ta tb:TE):TE:=λ σ H Q=>ta σ H λ x H1=>tb σ H1 λ y H2=>r x y H2 Q
def Gp (r:V->Hp->VK->Prop)(ta:TE):TE:=λ σ H Q=>ta σ H λ x H1=>r x H1 Q
def rI (C:Int->Int->Prop)(g:Int->Int->V):R2:=λ x y H Q=>∃ i j,x=.int i/\y=.int j/\C i j/\Q (g i j) H
def ck (g:Int->Int->V):R2:=λ x y H Q=>∃ i j,x=.int i/\y=.int j/\Q (g i j) H
def rU (g:Int->V):V->Hp->VK->Prop:=λ x H Q=>∃ i,x=.int i/\Q (g i) H
section
variable {X:Cx}{a b c:Expr}{ta tb tc:TE}{pos:Pos}
theorem zZ (ha:PE X a ta)(hb:PE X b tb){pins:List (Addr × Obj)}{s:Shared}{σ:St}{H:Hp}{R:V->V->Hp->Prop}(I:Inv X pins σ H s)
  (h:ta σ H λ x H1=>tb σ H1 λ y H2=>R x y H2){Q:Value->Shared->Prop}{f:Value->Value->Sem Value}
  (hf:∀ v u s2 x y H2,Inv X pins σ H2 s2->RelV x v->RelV y u->R x y H2->wpAny (model X.prog X.w) X.A (f v u) Q X.xe s2) :
  wpAny (model X.prog X.w) X.A (eval a X.env) (λ v s₁=>wpAny (model X.prog X.w) X.A (eval b X.env) (λ u s₂=>wpAny (model X.prog X.w) X.A (f v u) Q X.xe s₂) X.xe s₁) X.xe s:=by
 refine aK (ha pins s σ H _ I h) λ v s1 ⟨x,H1,I1,r1,q1⟩=>?_;refine aK (hb pins s1 σ H1 _ I1 q1) λ u s2 ⟨y,H2,I2,r2,q2⟩=>?_;exact hf v u s2 x y H2 I2 r1 r2 q2
theorem aj {op:Operator}{r:R2}(ho:gL X (binaryOp op) r)(ha:PE X a ta)(hb:PE X b tb):PE X (.BinOp a op b pos) (aB r ta tb):=by
 intro pins s σ H Q I h;exact wpAny_BinOp (zZ ha hb I h λ v u s2 x y H2 I2 rx ry q=>ho pins s2 σ H2 x y v u Q I2 rx ry q)
theorem Cs {op:UnaryOp}{r:V->Hp->VK->Prop}(ho:Ff X (unaryOp op) r)(ha:PE X a ta):PE X (.UnaryOp op a pos) (Gp r ta):=by
 intro pins s σ H Q I h;exact UnaryOp_ (aK (ha pins s σ H _ I h) λ v s1 ⟨x,H1,I1,r1,q1⟩=>ho pins s1 σ H1 x v Q I1 r1 q1)
theorem Ah {f:Value->Value->Sem Value}{C:Int->Int->Prop}{g:Int->Int->Int}
  (rule:∀(i j:Int)(t u:Tok)(s:Shared)(Q:Value->Shared->Prop)(E:Value->Shared->Prop),C i j->Q (.int (g i j) s.toks) { s with toks:=s.toks+1 }->wpAny (model X.prog X.w) X.A (f (.int i t) (.int j u)) Q E s) :
  gL X f (rI C λ i j=>.int (g i j)):=by
 intro pins s σ H x y v u Q I rx ry h;obtain⟨i,j,rfl,rfl,hc,q⟩:=h;obtain⟨t,rfl⟩:=rx;obtain⟨t',rfl⟩:=ry;exact rule i j t t' s _ _ hc ⟨.int (g i j),H,I.tok _,⟨_,rfl⟩,q⟩
theorem tZ {f:Value->Value->Sem Value}{g:Int->Int->Int}
  (rule:∀(i j:Int)(t u:Tok)(s:Shared)(Q:Value->Shared->Prop)(E:Value->Shared->Prop),Q (.int (g i j) s.toks) { s with toks:=s.toks+1 }->wpAny (model X.prog X.w) X.A (f (.int i t) (.int j u)) Q E s) :
  gL X f (ck λ i j=>.int (g i j)):=by
 intro pins s σ H x y v u Q I rx ry h;obtain⟨i,j,rfl,rfl,q⟩:=h;obtain⟨t,rfl⟩:=rx;obtain⟨t',rfl⟩:=ry;exact rule i j t t' s _ _ ⟨.int (g i j),H,I.tok _,⟨_,rfl⟩,q⟩
theorem uI {f:Value->Value->Sem Value}{g:Int->Int->Bool}
  (rule:∀(i j:Int)(t u:Tok)(s:Shared)(Q:Value->Shared->Prop)(E:Value->Shared->Prop),Q (.bool (g i j)) s->wpAny (model X.prog X.w) X.A (f (.int i t) (.int j u)) Q E s) :
  gL X f (ck λ i j=>.bl (g i j)):=by
 intro pins s σ H x y v u Q I rx ry h;obtain⟨i,j,rfl,rfl,q⟩:=h;obtain⟨t,rfl⟩:=rx;obtain⟨t',rfl⟩:=ry;exact rule i j t t' s _ _ ⟨.bl (g i j),H,I,rfl,q⟩
def ix (i j:Int):Prop:=0<j/\j<1073741824
def oz (i j:Int):Prop:=0<=j/\j<=1000000/\i.natAbs<2^64
def CMul (i j:Int):Prop:=(-(2^64)<i/\i<2^64)\/(-(2^64)<j/\j<2^64)
theorem CMul.ok {i j:Int}(h:CMul i j):IntMulOk i j:=by
 rcases h with⟨h1,h2⟩ | ⟨h1,h2⟩
 ·exact .of_left (intBits_le_64 h1 h2)
 ·exact .of_right (intBits_le_64 h1 h2)
theorem mv (k:Nat):(0:Int)<=2^k:=by
 rw [two_pow_cast];exact Int.natCast_nonneg _
theorem bo:gL X (binaryOp .Add) (ck λ i j=>.int (i+j)):=tZ λ _ _ _ _ _ _ _ q=>add_int q
theorem eJ:gL X (binaryOp .Sub) (ck λ i j=>.int (i-j)):=tZ λ _ _ _ _ _ _ _ q=>sub_int q
theorem dB:gL X (binaryOp .Mult) (rI CMul λ i j=>.int (i*j)):=Ah λ _ _ _ _ _ _ _ hc q=>mul_int q hc.ok
theorem fH:gL X (binaryOp .FloorDiv) (rI ix λ i j=>.int (i/j)):=Ah λ i j _ _ _ _ _ hc q=>by
 have h1:(0:Int)<j:=hc.1;have h2:j<1073741824:=hc.2;exact floordiv_int (by omega) (by rw [Int.fdiv_eq_ediv_of_nonneg i (by omega)];exact q) (.inl (PyProof.noPylong_small (by omega)))
theorem dG:gL X (binaryOp .Mod) (rI (λ _ j=>0<j) λ i j=>.int (i%j)):=Ah λ i j _ _ _ _ _ hc q=>by
 have h1:(0:Int)<j:=hc;exact mod_int' (by omega) (by rw [Int.fmod_eq_emod_of_nonneg i (by omega)];exact q)
theorem yw:gL X (binaryOp .Pow) (rI oz λ i j=>.int (i^j.toNat)):=Ah λ _ _ _ _ _ _ _ hc q=>pow_int_small hc.1 hc.2.1 hc.2.2 q
theorem jV:gL X (binaryOp .LShift) (rI oz λ i j=>.int (i*2^j.toNat)):=Ah λ _ _ _ _ _ _ _ hc q=>lshift_int_small hc.1 hc.2.1 hc.2.2 q
theorem jY:gL X (binaryOp .RShift) (rI (λ _ j=>0<=j) λ i j=>.int (i/2^j.toNat)):=Ah λ i j _ _ _ _ _ hc q =>
 rshift_int hc (by rw [Int.fdiv_eq_ediv_of_nonneg i (mv _)];exact q)
theorem kg:gL X (binaryOp .BitAnd) (ck λ i j=>.int (Builtin.bitAnd i j)):=tZ λ _ _ _ _ _ _ _ q=>and_int q
theorem yC:gL X (binaryOp .BitXor) (ck λ i j=>.int (Builtin.bitXor i j)):=tZ λ _ _ _ _ _ _ _ q=>xor_int q
theorem Ga {f:Value->Sem Value}{g:Int->Int}
  (rule:∀(i:Int)(t:Tok)(s:Shared)(Q:Value->Shared->Prop)(E:Value->Shared->Prop),Q (.int (g i) s.toks) { s with toks:=s.toks+1 }->wpAny (model X.prog X.w) X.A (f (.int i t)) Q E s) :
  Ff X f (rU λ i=>.int (g i)):=by
 intro pins s σ H x v Q I rx h;obtain⟨i,rfl,q⟩:=h;obtain⟨t,rfl⟩:=rx;exact rule i t s _ _ ⟨.int (g i),H,I.tok _,⟨_,rfl⟩,q⟩
theorem xh:Ff X (unaryOp .USub) (rU λ i=>.int (-i)):=Ga λ _ _ _ _ _ q=>neg_int q
end
def BJ:V->V->Bool
 | .non,.non=>true | .non,.int _=>true | .int _,.non=>true | .non,.bl _=>true | .bl _,.non=>true | .non,.str _=>true | .str _,.non=>true
 | .int _,.int _=>true | .bl _,.bl _=>true | .str _,.str _=>true | .byt _,.byt _=>true
 | .int _,.str _=>true | .str _,.int _=>true | .bl _,.str _=>true | .str _,.bl _=>true
 | _,_=>false
def nF:R2:=λ x y H Q=>BJ x y=true/\Q (.bl (decide (x=y))) H
def yT:R2:=λ x y H Q=>BJ x y=true/\Q (.bl (!decide (x=y))) H
theorem nM {i j:Int}:decide (V.int i=V.int j)=(i==j):=by
 rw [Bool.eq_iff_iff];simp
theorem qa {i j:Bool}:decide (V.bl i=V.bl j)=(i==j):=by
 rw [Bool.eq_iff_iff];simp
theorem om {i j:Str}:decide (V.str i=V.str j)=(i==j):=by
 rw [Bool.eq_iff_iff];simp
theorem nK {i j:Array UInt8}:decide (V.byt i=V.byt j)=(i.toList==j.toList):=by
 rw [Bool.eq_iff_iff];cases i;cases j;simp
section
variable {X:Cx}{a b c:Expr}{ta tb tc:TE}{pos:Pos}
theorem aN {pins:List (Addr × Obj)}{σ:St}{H:Hp}{s:Shared}{Q:VK}{k k':Bool}(I:Inv X pins σ H s)(q:Q (.bl k) H)(e:k=k'):EP X pins σ Q (.bool k') s:=by
 subst e;exact⟨.bl k,H,I,rfl,q⟩
theorem cT:gL X (compareOp .Eq) nF:=by
 intro pins s σ H x y v u Q I rx ry h;obtain⟨hs,q⟩:=h;cases x with
 | non =>
  cases rx;cases y with
  | non=>cases ry;exact PySem.EqNone.eq_none_none (aN I q (by simp))
  | bl j=>cases ry;exact PySem.EqNone.eq_none_bool (aN I q (by simp))
  | int j=>obtain⟨t',rfl⟩:=ry;exact PySem.EqNone.eq_none_int (aN I q (by simp))
  | str j=>obtain⟨t',rfl⟩:=ry;exact PySem.EqNone.eq_none_str (aN I q (by simp))
  | _=>exact absurd (show false=true from hs) Bool.false_ne_true
 | bl i =>
  cases rx;cases y with
  | non=>cases ry;exact PySem.EqNone.eq_bool_none (aN I q (by simp))
  | bl j=>cases ry;exact eq_bool (aN I q qa)
  | str j=>obtain⟨t',rfl⟩:=ry;exact PySem.EqMixed.eq_bool_str (aN I q (by simp))
  | _=>exact absurd (show false=true from hs) Bool.false_ne_true
 | int i =>
  obtain⟨t,rfl⟩:=rx;cases y with
  | non=>cases ry;exact PySem.EqNone.eq_int_none (aN I q (by simp))
  | int j=>obtain⟨t',rfl⟩:=ry;exact eq_int (aN I q nM)
  | str j=>obtain⟨t',rfl⟩:=ry;exact PySem.EqMixed.eq_int_str (aN I q (by simp))
  | _=>exact absurd (show false=true from hs) Bool.false_ne_true
 | str i =>
  obtain⟨t,rfl⟩:=rx;cases y with
  | non=>cases ry;exact PySem.EqNone.eq_str_none (aN I q (by simp))
  | bl j=>cases ry;exact PySem.EqMixed.eq_str_bool (aN I q (by simp))
  | int j=>obtain⟨t',rfl⟩:=ry;exact PySem.EqMixed.eq_str_int (aN I q (by simp))
  | str j=>obtain⟨t',rfl⟩:=ry;exact eq_str (aN I q om)
  | _=>exact absurd (show false=true from hs) Bool.false_ne_true
 | byt i =>
  obtain⟨t,rfl⟩:=rx;cases y with
  | byt j=>obtain⟨t',rfl⟩:=ry;exact PySem.W.eq_bytes (aN I q nK)
  | _=>exact absurd (show false=true from hs) Bool.false_ne_true
 | _=>cases y <;> exact absurd (show false=true from hs) Bool.false_ne_true
theorem fK:gL X (compareOp .NotEq) yT:=by
 intro pins s σ H x y v u Q I rx ry h;obtain⟨hs,q⟩:=h;cases x with
 | non =>
  cases rx;cases y with
  | non=>cases ry;exact PySem.EqNone.ne_none_none (aN I q (by simp))
  | bl j=>cases ry;exact PySem.EqNone.ne_none_bool (aN I q (by simp))
  | int j=>obtain⟨t',rfl⟩:=ry;exact PySem.EqNone.ne_none_int (aN I q (by simp))
  | str j=>obtain⟨t',rfl⟩:=ry;exact PySem.EqNone.ne_none_str (aN I q (by simp))
  | _=>exact absurd (show false=true from hs) Bool.false_ne_true
 | bl i =>
  cases rx;cases y with
  | non=>cases ry;exact PySem.EqNone.ne_bool_none (aN I q (by simp))
  | bl j=>cases ry;exact ne_bool (aN I q (congrArg not qa))
  | str j=>obtain⟨t',rfl⟩:=ry;exact PySem.EqMixed.ne_bool_str (aN I q (by simp))
  | _=>exact absurd (show false=true from hs) Bool.false_ne_true
 | int i =>
  obtain⟨t,rfl⟩:=rx;cases y with
  | non=>cases ry;exact PySem.EqNone.ne_int_none (aN I q (by simp))
  | int j=>obtain⟨t',rfl⟩:=ry;exact ne_int (aN I q (congrArg not nM))
  | str j=>obtain⟨t',rfl⟩:=ry;exact PySem.EqMixed.ne_int_str (aN I q (by simp))
  | _=>exact absurd (show false=true from hs) Bool.false_ne_true
 | str i =>
  obtain⟨t,rfl⟩:=rx;cases y with
  | non=>cases ry;exact PySem.EqNone.ne_str_none (aN I q (by simp))
  | bl j=>cases ry;exact PySem.EqMixed.ne_str_bool (aN I q (by simp))
  | int j=>obtain⟨t',rfl⟩:=ry;exact PySem.EqMixed.ne_str_int (aN I q (by simp))
  | str j=>obtain⟨t',rfl⟩:=ry;exact ne_str (aN I q (congrArg not om))
  | _=>exact absurd (show false=true from hs) Bool.false_ne_true
 | byt i =>
  obtain⟨t,rfl⟩:=rx;cases y with
  | byt j=>obtain⟨t',rfl⟩:=ry;exact PySem.W.ne_bytes (aN I q (congrArg not nK))
  | _=>exact absurd (show false=true from hs) Bool.false_ne_true
 | _=>cases y <;> exact absurd (show false=true from hs) Bool.false_ne_true
theorem nU:gL X (compareOp .Lt) (ck λ i j=>.bl (decide (i<j))):=uI λ _ _ _ _ _ _ _ q=>lt_int q
theorem vH:gL X (compareOp .LtE) (ck λ i j=>.bl (decide (i<=j))):=uI λ _ _ _ _ _ _ _ q=>le_int q
theorem ft:gL X (compareOp .Gt) (ck λ i j=>.bl (decide (j<i))):=uI λ _ _ _ _ _ _ _ q=>gt_int q
theorem vS:gL X (compareOp .GtE) (ck λ i j=>.bl (decide (j<=i))):=uI λ _ _ _ _ _ _ _ q=>ge_int q
theorem au (b:Expr){op:CmpOp}(h:op ≠ .In:=by decide)(h2:op ≠ .NotIn:=by decide):behindInMarks op b=false:=by
 have e1:(op==CmpOp.In)=false:=by cases op <;> first | rfl | exact absurd rfl h
 have e2:(op==CmpOp.NotIn)=false:=by cases op <;> first | rfl | exact absurd rfl h2
 cases b <;> simp [behindInMarks,e1,e2]
theorem bY {op:CmpOp}{r:R2}(ho:gL X (compareOp op) r)(ha:PE X a ta)(hb:PE X b tb)(hm:behindInMarks op b=false):PE X (.Compare a [op] [b] pos) (aB r ta tb):=by
 intro pins s σ H Q I h;exact wpAny_Compare1 (zZ ha hb I h λ v u s2 x y H2 I2 rx ry q=>ho pins s2 σ H2 x y v u Q I2 rx ry q) hm
def Bm (t:TE):TT:=λ σ H Q=>t σ H λ x H'=>∃ k,x=.bl k/\Q k H'
theorem av {op:CmpOp}{r:R2}(ho:gL X (compareOp op) r)(ha:PE X a ta)(hb:PE X b tb)(hm:behindInMarks op b=false):PT X (.Compare a [op] [b] pos) (Bm (aB r ta tb)):=by
 intro pins s σ H Q I h;refine wpAny_isTrue_Compare1 (aK (ha pins s σ H _ I h) λ v s1 ⟨x,H1,I1,r1,q1⟩=>aK (hb pins s1 σ H1 _ I1 q1) λ u s2 ⟨y,H2,I2,r2,q2⟩ =>
  aK (ho pins s2 σ H2 x y v u _ I2 r1 r2 q2) λ c s3 ⟨z,H3,I3,r3,k,e,q3⟩=>?_) hm
 subst e;cases r3;exact wpAny_truthy_bool ⟨H3,I3,q3⟩
theorem il:(sizeLine:Nat)<2^63:=by rw [sizeLine_eq];decide
theorem dA {x:V}{us:List Value}(r:Vals [x] us):∃ u,us=[u]/\RelV x u:=by
 cases r with
 | cons r1 r2=>cases r2;exact⟨_,rfl,r1⟩
theorem ik {x y:V}{us:List Value}(r:Vals [x,y] us):∃ u w',us=[u,w']/\RelV x u/\RelV y w':=by
 cases r with
 | cons r1 r2 =>
  cases r2 with
  | cons r3 r4=>cases r4;exact⟨_,_,rfl,r1,r3⟩
theorem pu (hc:X.calm=true):cG X (.builtin "max") (λ xs H Q=>∃ i j,xs=[.int i,.int j]/\Q (.int (if j>i then j else i)) H):=by
 intro pins s σ H xs us Q I r h;obtain⟨i,j,rfl,q⟩:=h;obtain⟨u,w',rfl,⟨t,rfl⟩,⟨t',rfl⟩⟩:=ik r;refine max_two_ints (I.ok.hd hc) λ h' tk k=>⟨_,H,I.kept k,?_,q⟩;by_cases hj:j>i
 ·rw [if_pos hj,if_pos hj];exact⟨_,rfl⟩
 ·rw [if_neg hj,if_neg hj];exact⟨_,rfl⟩
theorem pi (hc:X.calm=true):cG X (.builtin "min") (λ xs H Q=>∃ i j,xs=[.int i,.int j]/\Q (.int (if j<i then j else i)) H):=by
 intro pins s σ H xs us Q I r h;obtain⟨i,j,rfl,q⟩:=h;obtain⟨u,w',rfl,⟨t,rfl⟩,⟨t',rfl⟩⟩:=ik r;refine min_two_ints (I.ok.hd hc) λ h' tk k=>⟨_,H,I.kept k,?_,q⟩;by_cases hj:j<i
 ·rw [if_pos hj,if_pos hj];exact⟨_,rfl⟩
 ·rw [if_neg hj,if_neg hj];exact⟨_,rfl⟩
theorem gE:cG X (.type "int") (λ xs H Q=>(∃ i,xs=[.int i]/\Q (.int i) H)\/∃ k,xs=[.bl k]/\Q (.int (if k then 1 else 0)) H):=by
 intro pins s σ H xs us Q I r h;rcases h with⟨i,rfl,q⟩ | ⟨k,rfl,q⟩
 ·obtain⟨u,rfl,t,rfl⟩:=dA r;exact call_int_int ⟨.int i,H,I,⟨_,rfl⟩,q⟩
 ·obtain⟨u,rfl,r1⟩:=dA r;cases r1;exact call_int_bool ⟨.int (if k then 1 else 0),H,I.tok _,⟨_,rfl⟩,q⟩
end
structure ObjM (h:Heap)(x dx C:Addr)(mA:Str->Option Value):Prop where
 obj:h.get? x=some (PySem.W.instObj C dx)
 ns:h.Ns1 dx mA
 ne:dx≠x
theorem jl {h:Heap}{dx:Addr}{mA:Str->Option Value}(n:h.Ns1 dx mA):∃ od,h.get? dx=some od/\∀ name,PySem.W.lookIn name od=some (mA name):=by
 obtain⟨o,es,ep,ho,hd,hk,_,hm⟩:=n;refine⟨o,ho,λ name=>?_⟩;have e:=hm name;unfold nsFind findBy at e;rw [<- Array.find?_toList] at e;unfold PySem.W.lookIn;rw [hd]
 dsimp only
 split
 ·rename_i y q
  rw [q] at e;exact congrArg some e
 ·rename_i q
  rw [q] at e;have a:es.toList.any (·.refKey)=false:=by
   rw [List.any_eq_false];intro y hy;obtain⟨z,t,hkey⟩:=hk y (Array.mem_toList_iff.mp hy);simp [DictEntry.refKey,hkey]
  have a':¬ es.toList.any (·.refKey)=true:=by rw [a];exact Bool.false_ne_true
  rw [if_neg a'];exact congrArg some e
theorem ObjM.look {h:Heap}{x dx C:Addr}{mA:Str->Option Value}(I:ObjM h x dx C mA):∃ od,PySem.W.InstAt h x (PySem.W.instObj C dx) C (some od)/\∀ name,PySem.W.lookIn name od=some (mA name) :=
 let ⟨od,ho,hl⟩:=jl I.ns
 ⟨od,⟨I.obj,rfl,rfl,ho⟩,hl⟩
section
variable {prog:Program}{w:World}{A:Around}{E:Value->Shared->Prop}{s:Shared}{K:PySem.W.Frag}{x dx C f:Addr}{mA:Str->Option Value}{name:Str}{v:Value}
theorem tF {expr:Bool}{Q:Value->Shared->Prop}(X:K.In s.heap)(I:ObjM s.heap x dx C mA)(hg:PySem.W.plainGet K C name=true)(hh:PySem.W.hasDictIn K C=true)
  (ha:PySem.W.findIn K (.ref C) name=some none)(hv:mA name=some v)(hv':PySem.W.handedIn v=true)(h:Q v { s with toks:=s.toks+1 }) :
  wpAny (model prog w) A (getAttr (.ref x) name expr) Q E s:=by
 obtain⟨od,J,hl⟩:=I.look;exact PySem.W.get_value X J (PySem.W.plainGet_of hg).1 (PySem.W.findObj_own hh ha rfl (by rw [hl,hv])) hv' h
theorem rA {pl:Sem Bool}{Q:Value × List Value->Shared->Prop}(X:K.In s.heap)(I:ObjM s.heap x dx C mA)(hg:PySem.W.plainGet K C name=true)
  (hf:PySem.W.findIn K (.ref C) name=some (some (.ref f)))(ht:PySem.W.isFn K (.ref f)=true)(hv:mA name=none)(h:Q (.ref f,[.ref x]) s) :
  wpAny (model prog w) A (getMethod (.ref x) name pl) Q E s:=by
 obtain⟨od,J,hl⟩:=I.look;exact PySem.W.method_fn X J (PySem.W.plainGet_of hg).1 (PySem.W.plainGet_of hg).2 hf (beq_iff_eq.mp ht) (by show(PySem.W.lookIn name od).map (·.isSome)=some false;rw [hl,hv];rfl) h
theorem uL {ns:List Str}{Q:Unit->Shared->Prop}(X:K.In s.heap)(I:ObjM s.heap x dx C mA)
  (hs:PySem.W.findIn K (.ref C) "__setattr__" = some (some (.builtin "object.__setattr__")))(hp:PySem.W.plainOver K C=true)(ht:PySem.W.takerIn K C name=some none)(hh:PySem.W.hasDictIn K C=true)
  (hw:PySem.Within mA ns)(hsz:ns.length<=sizeLine)
  (h:∀ h',ObjM h' x dx C (λ y=>if y=name then some v else mA y)->Heap.SameBut dx s.heap h'->Q () { s with heap:=h',toks:=s.toks+2 }) :
  wpAny (model prog w) A (setAttr (.ref x) name v) Q E s:=by
 obtain⟨od,J,hl⟩:=I.look;refine PySem.W.set_plain X J hs (PySem.W.osa_open (s:={ s with toks:=s.toks+1 }) (r:=none) X J hp ht λ b=>?_)
 obtain⟨cd,hc,hd'⟩:=PySem.W.any_some hh;have hx:s.heap.get? x=some ⟨.ref C,some dx,.plain,#[]⟩:=I.obj;refine wpAny_bind (wpAny_pure (wpAny_bind (wpAny_bind (wpAny_loadPart hx (wpAny_bind (PySem.W.Looks.here (s:={ s with toks:=s.toks+1 }) (PySem.W.looks_clsIn X hc) ?_))))))
 rw [hd'];refine wpAny_pure (a:=some dx) (wpAny_bind (wpAny_pure (wpAny_bind ?_)));refine wpAny_nsSet1 (s:={ s with toks:=s.toks+1 }) I.ns λ h' hn2 hs2=>?_
 obtain⟨oD,esD,epD,hoD,hdD,hcD⟩:=hn2.count (PySem.Within.cons name v hw);refine wpAny_bind (wpAny_lookBehind hoD (by rw [hdD];exact pastItsLine_dict (Nat.le_trans hcD (by rw [List.length_cons];omega))) ?_)
 exact wpAny_pure (h _ ⟨(hs2.2 _ (Ne.symm I.ne)).trans I.obj,hn2,I.ne⟩ hs2)
theorem pO {R:Result->Shared->Prop}{vs:List Value}{kw:List (Str × Value)}(X:K.In s.heap)(hm:PySem.W.makesIn K C=true)
  (hi:PySem.W.findIn K (.ref C) "__init__" = some (some (.ref f)))(hf:PySem.W.typeIn K (.ref f)=some (.type "function"))
  (h:codeAny (model prog w) (A.under (.builtin "type.__call__" ⟨.ref C::vs,kw⟩)) (.call (.ref f) ⟨.ref (s.heap.objs.size+1)::vs,kw⟩) (PySem.W.InitBack (s.heap.objs.size+1) R)
   { s with heap:=(s.heap.push PySem.W.emptyDict).push (PySem.W.instObj C s.heap.objs.size) }) :
  codeAny (model prog w) A (.call (.ref C) ⟨vs,kw⟩) R s:=by
 obtain⟨hh,g,d,t,os⟩:=s;exact PySem.W.make_core (PySem.W.makes_of X hm) (PySem.W.looks_findIn X hi) (λ self=>PySem.W.bind_fn X self hf) (.inl rfl) h
end
def bH (f:Str)(v:V):List (Str × V)->List (Str × V)
 | []=>[(f,v)]
 | (g,x)::r=>if g=f then(g,v)::r else(g,x)::bH f v r
theorem fD (f g:Str)(v:V):∀ fs:List (Str × V),(bH f v fs).lookup g=if g=f then some v else fs.lookup g
 | []=>by
  show List.lookup g [(f,v)]=_;by_cases h:g=f
  ·have hb:(g==f)=true:=beq_iff_eq.mpr h;simp only [List.lookup,hb,if_pos h]
  ·have hb:(g==f)=false:=beq_eq_false_iff_ne.mpr h;simp only [List.lookup,hb,if_neg h]
 | (k,x)::r=>by
  have ih:=fD f g v r;rw [show bH f v ((k,x)::r)=(if k=f then(k,v)::r else(k,x)::bH f v r) from rfl]
  by_cases hk:k=f
  ·rw [if_pos hk];by_cases h:g=k
   ·have hb:(g==k)=true:=beq_iff_eq.mpr h;simp only [List.lookup,hb,if_pos (h.trans hk)]
   ·have hb:(g==k)=false:=beq_eq_false_iff_ne.mpr h;simp only [List.lookup,hb,if_neg (λ e:g=f=>h (e.trans hk.symm))]
  ·rw [if_neg hk];by_cases h:g=k
   ·have hb:(g==k)=true:=beq_iff_eq.mpr h;simp only [List.lookup,hb,if_neg (λ e:g=f=>hk (h.symm.trans e))]
   ·have hb:(g==k)=false:=beq_eq_false_iff_ne.mpr h;simp only [List.lookup,hb];exact ih
theorem gB (f:Str)(v:V):∀ fs:List (Str × V),f∈(bH f v fs).map (·.1)/\∀ g,g∈fs.map (·.1)->g∈(bH f v fs).map (·.1)
 | []=>⟨by simp [bH],λ g h=>by simp at h⟩
 | (k,x)::r=>by
  obtain⟨i1,i2⟩:=gB f v r;rw [show bH f v ((k,x)::r)=(if k=f then(k,v)::r else(k,x)::bH f v r) from rfl]
  by_cases hk:k=f
  ·rw [if_pos hk];subst hk;exact⟨by simp,λ g h=>by simpa using h⟩
  ·rw [if_neg hk];refine⟨?_,λ g h=>?_⟩
   ·rw [List.map_cons];exact List.mem_cons_of_mem _ i1
   ·rw [List.map_cons] at h ⊢;rcases List.mem_cons.mp h with e | e
    ·exact List.mem_cons.mpr (.inl e)
    ·exact List.mem_cons_of_mem _ (i2 g e)
theorem gO (f:Str)(v:V):∀ fs:List (Str × V),(bH f v fs).length<=fs.length+1
 | []=>by simp [bH]
 | (k,x)::r=>by
  have ih:=gO f v r;rw [show bH f v ((k,x)::r)=(if k=f then(k,v)::r else(k,x)::bH f v r) from rfl]
  by_cases hk:k=f
  ·rw [if_pos hk,List.length_cons,List.length_cons];omega
  ·rw [if_neg hk,List.length_cons,List.length_cons];omega
theorem RelO.some_of {v:V}{o:Option Value}(r:RelO (some v) o):∃ u,o=some u/\RelV v u:=by
 cases o with
 | none=>exact(show False from r).elim
 | some u=>exact⟨u,rfl,r⟩
theorem RelO.none_of {o:Option Value}(r:RelO none o):o=none:=by
 cases o with
 | none=>rfl
 | some u=>exact(show False from r).elim
theorem pb {v:V}{u:Value}(r:RelV v u):PySem.W.handedIn u=true:=by
 cases v with
 | non=>cases (show u=Value.none from r);rfl
 | bl b=>cases (show u=Value.bool b from r);rfl
 | int i=>obtain⟨t,e⟩:=(show ∃ t,u=Value.int i t from r);cases e;rfl
 | str x=>obtain⟨t,e⟩:=(show ∃ t,u=Value.str x t from r);cases e;rfl
 | byt b=>obtain⟨t,e⟩:=(show ∃ t,u=Value.bytes b t from r);cases e;rfl
 | flt b=>obtain⟨t,e⟩:=(show ∃ t,u=Value.float b t from r);cases e;rfl
 | ref a=>cases (show u=Value.ref a from r);rfl
 | ty n=>cases (show u=Value.type n from r);rfl
section
variable {P:Program}{w:World}{H H':Hp}{h h':Heap}{a C dx:Addr}{fs fs':List (Str × V)}
theorem gh (hok:HOk P w H h)(e:H a=some (.ins C dx fs)):∃ mA,ObjM h a dx C mA/\(∀ f,RelO (fs.lookup f) (mA f))/\PySem.Within mA (fs.map (·.1))/\fs.length<=1000/\H dx=some (.own a):=by
 obtain⟨d,z,ne,ob,mA,n,r,q⟩:=(show ObjOk P w H h a (.ins C dx fs) from hok a _ e);exact⟨mA,⟨ob,n,ne⟩,r,q,z,d⟩
end
structure Cls (K:PySem.W.Frag)(C:Addr):Prop where
 pg:PySem.W.plainGet K C Str.empty=true
 hd:PySem.W.hasDictIn K C=true
 po:PySem.W.plainOver K C=true
 sa:PySem.W.findIn K (.ref C) "__setattr__" = some (some (.builtin "object.__setattr__"))
theorem Cls.get {K:PySem.W.Frag}{C:Addr}(c:Cls K C)(f:Str):PySem.W.plainGet K C f=true:=c.pg
def NoAttr (K:PySem.W.Frag)(C:Addr)(f:Str):Prop:=PySem.W.findIn K (.ref C) f=some none
theorem NoAttr.taker {K:PySem.W.Frag}{C:Addr}{f:Str}(n:NoAttr K C f):PySem.W.takerIn K C f=some none:=by
 unfold PySem.W.takerIn;rw [show PySem.W.findIn K (.ref C) f=some none from n];rfl
structure C8 (K:PySem.W.Frag)(C:Addr)(m:Str)(f:Addr):Prop where
 at_:PySem.W.findIn K (.ref C) m=some (some (.ref f))
 fn:PySem.W.isFn K (.ref f)=true
 kp:PySem.W.keepIn K (.ref f)=true
section
variable {X:Cx}{pins:List (Addr × Obj)}{σ:St}{H:Hp}{s:Shared}{a C dx:Addr}{fs:List (Str × V)}{f:Str}{v:V}{A:Around}{E:Value->Shared->Prop}
theorem mq {b:Bool}{Q:Value->Shared->Prop}(I:Inv X pins σ H s)(e:H a=some (.ins C dx fs))(c:Cls X.K C)(n:NoAttr X.K C f)(l:fs.lookup f=some v)
  (h:∀ u s',Inv X pins σ H s'->RelV v u->Q u s'):wpAny (model X.prog X.w) A (getAttr (.ref a) f b) Q E s:=by
 obtain⟨mA,O,r,_,_,_⟩:=gh I.hok e;obtain⟨u,hu,ru⟩:=RelO.some_of (v:=v) (o:=mA f) (by rw [<- l];exact r f)
 exact tF I.kIn O (c.get f) c.hd n hu (pb ru) (h u _ (I.tok _) ru)
theorem im {m:Str}{g:Addr}{pl:Sem Bool}{Q:Value × List Value->Shared->Prop}(I:Inv X pins σ H s)(e:H a=some (.ins C dx fs))(c:Cls X.K C)(k:C8 X.K C m g)(l:fs.lookup m=none)
  (h:Q (.ref g,[.ref a]) s):wpAny (model X.prog X.w) A (getMethod (.ref a) m pl) Q E s:=by
 obtain⟨mA,O,r,_,_,_⟩:=gh I.hok e;have hn:mA m=none:=RelO.none_of (by rw [<- l];exact r m)
 exact rA I.kIn O (c.get m) k.at_ k.fn hn h
theorem mk {y:V}{u:Value}{Q:Unit->Shared->Prop}(I:Inv X pins σ H s)(e:H a=some (.ins C dx fs))(c:Cls X.K C)(n:NoAttr X.K C f)(hl:fs.length<1000)(ry:RelV y u)
  (h:∀ s',Inv X pins σ (ae H a (.ins C dx (bH f y fs))) s'->Q () s'):wpAny (model X.prog X.w) A (setAttr (.ref a) f u) Q E s:=by
 obtain⟨mA,O,r,wi,_,ho⟩:=gh I.hok e;have hz:(fs.map (·.1)).length<=sizeLine:=by rw [List.length_map,sizeLine_eq];omega
 refine uL I.kIn O c.sa c.po n.taker c.hd wi hz λ h' O' sb=>h _ ?_;have hd:∃ o,h'.get? dx=some o:=let ⟨o,_,_,e',_⟩:=O'.ns;⟨o,e'⟩
 refine I.write (x:=a) (e:=dx) (by rw [e];exact True.intro) (.inr ho) (λ b q hb z=>(sb.2 b hb).trans z) hd ?_
 refine⟨by rw [ag O.ne];exact ho,?_,O.ne,O'.obj,_,O'.ns,λ g=>?_,λ g hg=>?_⟩
 ·have:=gO f y fs;omega
 ·show RelO ((bH f y fs).lookup g) (if g=f then some u else mA g)
  rw [fD];by_cases q:g=f
  ·rw [if_pos q,if_pos q];exact ry
  ·rw [if_neg q,if_neg q];exact r g
 ·by_cases q:g=f
  ·rw [q];exact(gB f y fs).1
  ·refine(gB f y fs).2 g (wi g λ z=>hg ?_);show(if g=f then some u else mA g)=none
   rw [if_neg q];exact z
theorem Inv.made (I:Inv X pins σ H s):Inv X pins σ (ae (ae H s.heap.objs.size (.own (s.heap.objs.size+1))) (s.heap.objs.size+1) (.ins C s.heap.objs.size []))
  { s with heap:=(s.heap.push PySem.W.emptyDict).push (PySem.W.instObj C s.heap.objs.size) }:=by
 have e1:(s.heap.push PySem.W.emptyDict).get? s.heap.objs.size=some PySem.W.emptyDict:=Heap.get?_push_size s.heap rfl;have e2:((s.heap.push PySem.W.emptyDict).push (PySem.W.instObj C s.heap.objs.size)).get? (s.heap.objs.size+1)=some (PySem.W.instObj C s.heap.objs.size):=by
  have:=Heap.get?_push_size (s.heap.push PySem.W.emptyDict) (o:=PySem.W.instObj C s.heap.objs.size) rfl
  rwa [Heap.size_push] at this
 have e3:(s.heap.push PySem.W.emptyDict).Ns s.heap.objs.size (λ _=>none):=⟨PySem.W.emptyDict,#[],_,e1,rfl,(λ e he=>absurd he (by simp)),λ _=>rfl⟩
 have I1:=I.laid (a:=s.heap.objs.size) (o:=.own (s.heap.objs.size+1)) (h':=s.heap.push PySem.W.emptyDict) (t':=s.toks) (λ b u q=>Heap.get?_push_of_some _ q) (Nat.le_refl _) ⟨_,e1⟩;refine I1.laid (a:=s.heap.objs.size+1) (o:=.ins C s.heap.objs.size []) (t':=s.toks) (λ b u q=>Heap.get?_push_of_some _ q) (Nat.le_of_eq (Heap.size_push _ _)) ?_;have ne:s.heap.objs.size≠s.heap.objs.size+1:=Nat.ne_of_lt (Nat.lt_succ_self _);refine⟨by rw [ag ne,aR],Nat.zero_le _,ne,e2,λ _=>none,(Heap.Ns1.of_empty e3).at λ o q=>Heap.get?_push_of_some _ q,λ _=>True.intro,λ y hy=>absurd rfl hy⟩
theorem uK {prog:Program}{w:World}{env:Env}{e:Expr}{f:Str}{pos:Pos}{s:Shared}{Q:Value->Shared->Prop}(hb:attributeBase e f env (eval e env)=eval e env)
  (h:wpAny (model prog w) A (eval e env) (λ o s₁=>wpAny (model prog w) A (getAttr o f true) Q E s₁) E s):wpAny (model prog w) A (eval (.Attribute e f pos) env) Q E s :=
 Attribute_any_ h (by rw [arm_eval_Attribute,hb])
end
def Bu (K:PySem.W.Frag)(ta:TE)(f:Str):TE:=λ σ H Q=>ta σ H λ x H1=>∃ a C dx fs v,x=.ref a/\H1 a=some (.ins C dx fs)/\Cls K C/\NoAttr K C f/\fs.lookup f=some v/\Q v H1
def BK (K:PySem.W.Frag)(ta tv:TE)(f:Str):TS:=λ D σ H=>tv σ H λ y H1=>ta σ H1 λ x H2=>∃ a C dx fs,x=.ref a/\H2 a=some (.ins C dx fs)/\Cls K C/\NoAttr K C f/\fs.length<1000 /\
 D.nx σ (ae H2 a (.ins C dx (bH f y fs)))
section
variable {X:Cx}{o e value:Expr}{f:Str}{pos pos' tpos:Pos}{ta tv:TE}
theorem vQ (he:PE X e ta)(hb:attributeBase e f X.env (eval e X.env)=eval e X.env):PE X (.Attribute e f pos) (Bu X.K ta f):=by
 intro pins s σ H Q I h;refine uK hb (aK (he pins s σ H _ I h) λ u s1 ⟨x,H1,I1,rx,a,C,dx,fs,v,ex,ea,c,n,l,q⟩=>?_);subst ex;obtain rfl:u=Value.ref a:=rx;exact mq I1 ea c n l λ u' s2 I2 ru=>⟨v,H1,I2,ru,q⟩
theorem dC (ha:PE X o ta)(hv:PE X value tv)(hs:swapsWith value (some (.Attribute o f pos')) pos.line X.env=pure false):PS X (.Assign [.Attribute o f pos'] value pos) (BK X.K ta tv f):=by
 intro pins s σ H D I h;refine plainObj_wpAny_Assign_Attribute (aK (hv pins s σ H _ I h) λ u s1 ⟨y,H1,I1,ry,q⟩=>aK (ha pins s1 σ H1 _ I1 q) λ ov s2 ⟨x,H2,I2,rx,a,C,dx,fs,ex,ea,c,n,l,q2⟩=>?_) hs;subst ex;obtain rfl:ov=Value.ref a:=rx;exact mk I2 ea c n l ry λ s3 I3=>⟨σ,_,I3,q2⟩
variable {pins:List (Addr × Obj)}{σ:St}{H:Hp}{s:Shared}{A:Around}{E:Value->Shared->Prop}{Q:Value->Shared->Prop}{c:Value}{b:Bool}
inductive TyOf (K:PySem.W.Frag)(H:Hp):V->Value->Prop where
 | non:TyOf K H .non (.type "NoneType")
 | bl (x:Bool):TyOf K H (.bl x) (.type "bool")
 | int (i:Int):TyOf K H (.int i) (.type "int")
 | str (x:Str):TyOf K H (.str x) (.type "str")
 | flt (x:UInt64):TyOf K H (.flt x) (.type "float")
 | lst {a:Addr}{xs:List V}(e:H a=some (.lst xs)):TyOf K H (.ref a) (.type "list")
 | frz {a:Addr}{o:Obj}{xs:List V}(e:H a=some (.frz o (.lst xs))):TyOf K H (.ref a) (.type "list")
 | tup {a:Addr}{xs:List V}(e:H a=some (.tup xs)):TyOf K H (.ref a) (.type "tuple")
 | dK {a:Addr}{kvs:List (Key × V)}(e:H a=some (.dK kvs)):TyOf K H (.ref a) (.type "dict")
 | dT {a:Addr}{kvs:List (List Key × V)}(e:H a=some (.dT kvs)):TyOf K H (.ref a) (.type "dict")
 | ins {a C dx:Addr}{fs:List (Str × V)}(e:H a=some (.ins C dx fs))(cl:Cls K C)(ha:PySem.W.findIn K (.ref C) "__class__" = some (some (.builtin "object.__class__")))
   (hn:PySem.W.specialIn K (.builtin "object.__class__") "__get__" = some (some (.builtin "getset_descriptor.__get__")))(htk:PySem.W.takesIn K (.builtin "object.__class__")=some true)
   (hm:PySem.W.mroIn K C (.type "object")=some true):TyOf K H (.ref a) (.ref C)
theorem iX {x:V}{u t:Value}(I:Inv X pins σ H s)(rx:RelV x u)(ty:TyOf X.K H x t)(e:PySem.W.kitOne X.K t c=some b)(h:∀ tk,Q (.bool b) { s with toks:=tk }) :
  wpAny (model X.prog X.w) A (call (.builtin "isinstance") [u,c]) Q E s:=by
 cases ty with
 | non=>cases (show u=Value.none from rx);exact PySem.W.kia_one PySem.W.kitx_none I.kIn True.intro e (λ z=>nomatch z) h
 | bl y=>cases (show u=Value.bool y from rx);exact PySem.W.kia_one PySem.W.kitx_bool I.kIn True.intro e (λ z=>nomatch z) h
 | int i=>obtain⟨t,q⟩:=(show ∃ t,u=Value.int i t from rx);cases q;exact PySem.W.kia_one PySem.W.kitx_int I.kIn True.intro e (λ z=>nomatch z) h
 | str y=>obtain⟨t,q⟩:=(show ∃ t,u=Value.str y t from rx);cases q;exact PySem.W.kia_one PySem.W.kitx_str I.kIn True.intro e (λ z=>nomatch z) h
 | flt y=>obtain⟨t,q⟩:=(show ∃ t,u=Value.float y t from rx);cases q;exact PySem.W.kia_one PySem.W.kitx_float I.kIn True.intro e (λ z=>nomatch z) h
 | @lst a xs ea =>
  cases (show u=Value.ref a from rx);obtain⟨_,_,n,_,h1⟩:=(show ObjOk X.prog X.w H s.heap a (.lst xs) from I.hok a _ ea);exact PySem.W.kia_one PySem.W.kitx_list I.kIn ⟨_,h1,rfl⟩ e (λ z=>nomatch z) h
 | @frz a ob xs ea =>
  cases (show u=Value.ref a from rx);obtain⟨_,_,_,n,_,h1⟩:=(show ObjOk X.prog X.w H s.heap a (.frz ob (.lst xs)) from I.hok a _ ea);exact PySem.W.kia_one PySem.W.kitx_list I.kIn ⟨_,h1,rfl⟩ e (λ z=>nomatch z) h
 | @tup a xs ea =>
  cases (show u=Value.ref a from rx);obtain⟨_,_,_,p⟩:=(show ObjOk X.prog X.w H s.heap a (.tup xs) from I.hok a _ ea);obtain⟨o,h1,h2,_⟩:=p;exact PySem.W.kia_one PySem.W.kitx_tuple I.kIn ⟨o,h1,h2⟩ e (λ z=>nomatch z) h
 | @dK a kvs ea =>
  cases (show u=Value.ref a from rx);obtain⟨_,_,vs,_,p⟩:=(show ObjOk X.prog X.w H s.heap a (.dK kvs) from I.hok a _ ea);obtain⟨o,es,ep,h1,h2,_⟩:=p;exact PySem.W.kia_one PySem.W.kitx_dict I.kIn ⟨o,h1,h2.1⟩ e (λ z=>nomatch z) h
 | @dT a kvs ea =>
  cases (show u=Value.ref a from rx);obtain⟨_,_,xs,_,o,es,ep,h1,h2,_⟩:=(show ObjOk X.prog X.w H s.heap a (.dT kvs) from I.hok a _ ea);exact PySem.W.kia_one PySem.W.kitx_dict I.kIn ⟨o,h1,h2.1⟩ e (λ z=>nomatch z) h
 | @ins a C dx fs ea cl ha hn htk hm =>
  cases (show u=Value.ref a from rx);obtain⟨mA,O,_⟩:=gh I.hok ea;obtain⟨od,J,_⟩:=O.look;exact PySem.W.kia_one (PySem.W.kitx_own (cl.get _) cl.hd ha hn htk hm) I.kIn J e (λ z=>nomatch z) h
end
structure Room (k:Nat)(A:Around):Prop where
 hd:A.handled=none
 dp:A.depth+3*k+5<recursionLimit
 un:A.units+16*k+200<cLine
 gd:A.guards=some []
theorem Room.mono {j k:Nat}{A:Around}(r:Room k A)(h:j<=k):Room j A:=⟨r.hd,by have:=r.dp;omega,by have:=r.un;omega,r.gd⟩
theorem Room.deeper {k:Nat}{A:Around}(r:Room (k+1) A)(env:Env):Room k (A.deeper env) :=
 ⟨r.hd,by have:=r.dp;show A.depth+1+3*k+5<_;omega,by have:=r.un;show A.units+3+16*k+200<_;omega,r.gd⟩
theorem md {A:Around}{C:Addr}{us:List Value}{kw:List (Str × Value)}:(A.under (.builtin "type.__call__" ⟨.ref C::us,kw⟩)).depth=A.depth+1:=by
 first | rfl | simp [Around.under,Code.weight,Code.isCreation,Code.isGuard,Code.isCaller,Code.frames,Code.isFrame,guardIds]
theorem nu {A:Around}{C:Addr}{us:List Value}{kw:List (Str × Value)}:(A.under (.builtin "type.__call__" ⟨.ref C::us,kw⟩)).units=A.units+1:=by
 first | rfl | simp [Around.under,Code.cUnits,Code.frames,Code.isFrame]
theorem Room.make {k:Nat}{A:Around}(r:Room (k+1) A)(C:Addr)(us:List Value)(kw:List (Str × Value)):Room k (A.under (.builtin "type.__call__" ⟨.ref C::us,kw⟩)) :=
 ⟨r.hd,by have:=r.dp;rw [md];omega,by have:=r.un;rw [nu];omega,by have h:=r.gd;first | (simp only [Around.under];rw [h];rfl) | simp [Around.under,h,pushGuards,Code.guards,Code.isGuard,guardIds]⟩
theorem Room.depth {k:Nat}{A:Around}(r:Room k A):A.depth<recursionLimit:=by have:=r.dp;omega
theorem Room.units {k:Nat}{A:Around}(r:Room k A):A.units+64<cLine:=by have:=r.un;omega
theorem Room.units0 {k:Nat}{A:Around}(r:Room k A):A.units<cLine:=by have:=r.un;omega
def aL:TA:=λ _ H Q=>Q [] H
def am (ta:TE)(tr:TA):TA:=λ σ H Q=>ta σ H λ x H1=>tr σ H1 λ xs H2=>Q (x::xs) H2
section
variable {X:Cx}{e:Expr}{es:List Expr}{te:TE}{t:TA}{pos:Pos}
theorem ao:PA X [] aL:=λ _ _ _ _ H Q I h=>Calls.spliced_nil ⟨[],H,I,.nil,h⟩
theorem ac (ha:PE X e te)(hr:PA X es t)(hs:starEach (e::es) X.env=(false,eval e X.env)::starEach es X.env:=by rfl):PA X (e::es) (am te t):=by
 intro pos pins s σ H Q I h;rw [hs];show wpAny _ _ (spliced ((false,eval e X.env)::backTo pos (starEach es X.env))) _ _ s;refine Calls.spliced_cons (aK (ha pins s σ H _ I h) λ u s1 ⟨x,H1,I1,r1,q1⟩=>?_);exact aK (hr pos pins s1 σ H1 _ I1 q1) λ us s2 ⟨xs,H2,I2,r2,q2⟩=>⟨x::xs,H2,I2,.cons r1 r2,q2⟩
def iD (t:TA):TE:=λ σ H Q=>t σ H λ xs H1=>xs.length<=sizeLine/\∀ p,H1 p=none->Q (.ref p) (ae H1 p (.tup xs))
def cL (t:TA):TE:=λ σ H Q=>t σ H λ xs H1=>xs.length<=sizeLine/\∀ p,H1 p=none->Q (.ref p) (ae H1 p (.lst xs))
theorem bJ {x1}(h:PA X es t):PE X (.Tuple es x1 pos) (iD t):=by
 intro pins s σ H Q I hq;refine wpAny_Tuple_spliced (aK (h pos pins s σ H _ I hq) λ us s1 ⟨xs,H1,I1,r,z,q⟩=>⟨by rw [<- r.length];exact z,?_⟩)
 have hf:H1 s1.heap.objs.size=none:=I1.hok.fresh (Nat.le_refl _);refine⟨.ref s1.heap.objs.size,ae H1 s1.heap.objs.size (.tup xs),I1.laid (t':=s1.toks) (λ b u e=>Heap.get?_push_of_some _ e) (Nat.le_refl _) ?_,rfl,q _ hf⟩;exact⟨z,us,r,⟨_,Heap.get?_push_size _ rfl,rfl,_,rfl⟩⟩
theorem dh (h:PA X es t):PE X (.List es pos) (cL t):=by
 intro pins s σ H Q I hq;refine wpAny_List_spliced (aK (h pos pins s σ H _ I hq) λ us s1 ⟨xs,H1,I1,r,z,q⟩=>⟨by rw [<- r.length];exact z,?_⟩)
 have hf:H1 s1.heap.objs.size=none:=I1.hok.fresh (Nat.le_refl _);refine⟨.ref s1.heap.objs.size,ae H1 s1.heap.objs.size (.lst xs),I1.laid (t':=s1.toks) (λ b u e=>Heap.get?_push_of_some _ e) (Nat.le_refl _) ?_,rfl,q _ hf⟩;exact⟨z,us,0,r,Heap.get?_push_size _ rfl⟩
end
abbrev Sp:=List V->Hp->VK->XK->Prop
abbrev kr:=List Env->Hp->Shared->XK->Value->Shared->Prop
structure Env0 (P:Program)(w:World)(K:PySem.W.Frag)(mg:Str->Option Value)(base:Heap)(A:Around)(outer:List Env)(s:Shared)(H:Hp):Prop where
 frames:A.frames=some outer
 mod:Mod K mg base
 bs:∀ b o,base.get? b=some o->s.heap.get? b=some o/\H b=none
 bsz:base.objs.size<=s.heap.objs.size
 funs:s.heap.FunFrames base outer
 frf:∀ b∈iW outer,H b=none
 hok:HOk P w H s.heap
 bare:AllBare s.gens
def CE (outer:List Env)(P:Program)(w:World)(H:Hp)(s:Shared)(Q:VK)(u:Value)(s':Shared):Prop :=
 ∃ v H',s'.os=s.os/\AllBare s'.gens/\Un (iW outer) [] H H' s.heap s'.heap/\HOk P w H' s'.heap/\RelV v u/\Q v H'
def CR (CX:kr)(outer:List Env)(P:Program)(w:World)(H:Hp)(s:Shared)(Q:VK)(E:XK)(r:Result)(s':Shared):Prop :=
 match r with
 | .ok (.ret u)=>CE outer P w H s Q u s'
 | .ok _=>False
 | .error e=>CX outer H s E e s'
structure FnOk (P:Program)(w:World)(K:PySem.W.Frag)(mg:Str->Option Value)(base:Heap)(CX:kr)(k:Nat)(f:Addr)(fd:FuncData)(ps:List Str)(sp:Sp):Prop where
 len:∀ vs H Q E,sp vs H Q E->vs.length=ps.length
 run:∀(A:Around)(outer:List Env)(s:Shared)(H:Hp)(args:Args)(us:List Value)(vs:List V)(Q:VK)(E:XK),Room k A->Env0 P w K mg base A outer s H->BindsTo s fd args (ps.zip us)->Vals vs us->sp vs H Q E ->
  codeAny (model P w) A (.call (.ref f) args) (CR CX outer P w H s Q E) s
theorem FnOk.mono {P:Program}{w:World}{K:PySem.W.Frag}{mg:Str->Option Value}{base:Heap}{CX:kr}{j k:Nat}{f:Addr}{fd:FuncData}{ps:List Str}{sp:Sp}(F:FnOk P w K mg base CX j f fd ps sp)(h:j<=k) :
  FnOk P w K mg base CX k f fd ps sp:=⟨F.len,λ A outer s H args us vs Q E hr=>F.run A outer s H args us vs Q E (hr.mono h)⟩
theorem FnOk.imp {P:Program}{w:World}{K:PySem.W.Frag}{mg:Str->Option Value}{base:Heap}{CX:kr}{k:Nat}{f:Addr}{fd:FuncData}{ps:List Str}{sp sp':Sp}(F:FnOk P w K mg base CX k f fd ps sp)
  (h:∀ vs H Q E,sp' vs H Q E->sp vs H Q E):FnOk P w K mg base CX k f fd ps sp' :=
 ⟨λ vs H Q E q=>F.len vs H Q E (h _ _ _ _ q),λ A outer s H args us vs Q E hr he hb hv hs=>F.run A outer s H args us vs Q E hr he hb hv (h _ _ _ _ hs)⟩
theorem Env0.make {P:Program}{w:World}{K:PySem.W.Frag}{mg:Str->Option Value}{base:Heap}{A:Around}{outer:List Env}{s:Shared}{H:Hp}(e:Env0 P w K mg base A outer s H)(C:Addr)(us:List Value)(kw:List (Str × Value)) :
  Env0 P w K mg base (A.under (.builtin "type.__call__" ⟨.ref C::us,kw⟩)) outer s H:=⟨by first | exact e.frames | (simpa [Around.under,Code.envs,Code.isFrame,pushEnvs] using e.frames),e.mod,e.bs,e.bsz,e.funs,e.frf,e.hok,e.bare⟩
section
variable {X:Cx}{pins:List (Addr × Obj)}{σ:St}{H:Hp}{s s':Shared}
theorem Inv.env0 (I:Inv X pins σ H s):Env0 X.prog X.w X.K X.mg X.base X.A X.stack s H :=
 ⟨I.ok.frames,I.ok.mod,I.bs,Nat.le_trans I.ok.bsz I.sz,I.stack,I.stkFree,I.hok,I.bare⟩
theorem Inv.after {Q:VK}{u:Value}(I:Inv X pins σ H s)(h:CE X.stack X.prog X.w H s Q u s'):EP X pins σ Q u s':=by
 obtain⟨v,H',os,bare,un,hok,r,q⟩:=h;obtain⟨hh,g,d,t,os'⟩:=s';obtain rfl:os'=s.os:=os;exact⟨v,H',I.call (h':=hh) (g':=g) (d':=d) (t':=t) (ch:=[]) un hok bare (λ b z=>absurd z (by simp)),r,q⟩
end
def fY (sp:Sp)(dvs:List V)(E:XK)(t:TA):TE:=λ σ H Q=>t σ H λ vs H1=>sp (vs++dvs) H1 Q E
def dM (C:Addr)(sp:Sp)(dvs:List V)(E:XK)(t:TA):TE:=λ σ H Q=>t σ H λ vs H1=>∀ x dx,H1 x=none->H1 dx=none->dx≠x ->
 sp (.ref x::(vs++dvs)) (ae (ae H1 dx (.own x)) x (.ins C dx [])) (λ v H2=>v=.non/\Q (.ref x) H2) E
def Binds (K:PySem.W.Frag)(fd:FuncData)(ps:List Str)(ds:List Value):Prop :=
 ∀(s:Shared)(us:List Value),K.In s.heap->(us++ds).length=ps.length->BindsTo s fd ⟨us,[]⟩ (ps.zip (us++ds))
theorem Binds.all {K:PySem.W.Frag}{fd:FuncData}{ps:List Str}(h:∀ us:List Value,us.length=ps.length->bindArgs fd ⟨us,[]⟩=pure (ps.zip us)):Binds K fd ps []:=λ s us _ hl=>by
 rw [List.append_nil] at hl ⊢;exact .of_eq (h us hl)
def dm (CX:kr)(X:Cx)(E:XK):Prop:=∀(pins:List (Addr × Obj))(σ:St)(H:Hp)(s:Shared)(e:Value)(s':Shared),Inv X pins σ H s->CX X.stack H s E e s'->X.xe e s'
section
variable {X:Cx}{CX:kr}{k:Nat}{f C:Addr}{fd:FuncData}{ps:List Str}{sp:Sp}{dvs:List V}{ds:List Value}{E:XK}{x m:Str}{p pos apos:Pos}{e o:Expr}{es:List Expr}{ta:TE}{t:TA}
theorem jO {pins:List (Addr × Obj)}{σ:St}{H:Hp}{s:Shared}{Q:VK}{us:List Value}{vs:List V}(F:FnOk X.prog X.w X.K X.mg X.base CX k f fd ps sp)(hr:Room k X.A)(hb:Binds X.K fd ps ds)(hd:Vals dvs ds)(hx:dm CX X E)
  (I:Inv X pins σ H s)(r:Vals vs us)(h:sp (vs++dvs) H Q E):wpAny (model X.prog X.w) X.A (call (.ref f) us) (EP X pins σ Q) X.xe s:=by
 have r2:Vals (vs++dvs) (us++ds):=r.append hd;have hl:(us++ds).length=ps.length:=by rw [<- r2.length];exact F.len _ _ _ _ h
 refine wpAny_call (codeAny_mono (F.run X.A X.stack s H ⟨us,[]⟩ (us++ds) (vs++dvs) Q E hr I.env0 (hb s us I.kIn hl) r2 h) λ r s' hq=>?_);cases r with
 | error e=>exact hx pins σ H s e s' I hq
 | ok fl =>
  cases fl with
  | ret u=>exact I.after hq
  | next=>exact False.elim hq
  | brk=>exact False.elim hq
  | cont=>exact False.elim hq
theorem bK (F:FnOk X.prog X.w X.K X.mg X.base CX k f fd ps sp)(hr:Room k X.A)(hg:Gl X x)(hm:X.mg x=some (.ref f))(hk:PySem.W.keepIn X.K (.ref f)=true)(hb:Binds X.K fd ps ds)(hd:Vals dvs ds)(hx:dm CX X E)
  (ha:PA X (e::es) t)(hdb:(x==("__debug__" : Str))=false:=by decide)(he:starEach (e::es) X.env=(false,eval e X.env)::starEach es X.env:=by rfl)(hpl:(backTo pos (starEach es X.env)).any (·.1)=false:=by rfl) :
  PE X (.Call (.Name x p) (e::es) [] pos) (fY sp dvs E t):=by
 intro pins s σ H Q I h;refine wpAny_Call_Name_kw (eD I hg hm ?_ hdb);refine PySem.W.callWith_K (h₀:=X.base) I.ok.mod.kin hk (aK (ha pos pins s σ H _ I h) λ us s1 ⟨vs,H1,I1,r,q⟩=>⟨I1.kIn,?_⟩) he hpl;exact jO F hr hb hd hx I1 r q
structure Mk (K:PySem.W.Frag)(C f:Addr):Prop where
 makes:PySem.W.makesIn K C=true
 init:PySem.W.findIn K (.ref C) "__init__" = some (some (.ref f))
 fn:PySem.W.isFn K (.ref f)=true
 kp:PySem.W.keepIn K (.ref C)=true
theorem lG {pins:List (Addr × Obj)}{σ:St}{H:Hp}{s:Shared}{Q:VK}{us:List Value}{vs:List V}(M:Mk X.K C f)(F:FnOk X.prog X.w X.K X.mg X.base CX k f fd ps sp)(hr:Room (k+1) X.A)(hb:Binds X.K fd ps ds)(hd:Vals dvs ds)
  (hx:dm CX X E)(I:Inv X pins σ H s)(r:Vals vs us)
  (h:∀ x dx,H x=none->H dx=none->dx≠x->sp (.ref x::(vs++dvs)) (ae (ae H dx (.own x)) x (.ins C dx [])) (λ v H2=>v=.non/\Q (.ref x) H2) E) :
  wpAny (model X.prog X.w) X.A (call (.ref C) us) (EP X pins σ Q) X.xe s:=by
 have hq:=h (s.heap.objs.size+1) s.heap.objs.size (I.hok.fresh (Nat.le_succ _)) (I.hok.fresh (Nat.le_refl _)) (Nat.ne_of_lt (Nat.lt_succ_self _));have I2:=Inv.made (C:=C) I;have r2:Vals (V.ref (s.heap.objs.size+1)::(vs++dvs)) (Value.ref (s.heap.objs.size+1)::(us++ds)):=.cons rfl (r.append hd);have hl:(Value.ref (s.heap.objs.size+1)::us++ds).length=ps.length:=by
  have e:=r2.length;rw [F.len _ _ _ _ hq] at e;exact e.symm
 refine wpAny_call (pO (f:=f) I.kIn M.makes M.init (beq_iff_eq.mp M.fn) (codeAny_mono (F.run _ X.stack _ _ ⟨Value.ref (s.heap.objs.size+1)::us,[]⟩ (Value.ref (s.heap.objs.size+1)::(us++ds)) _ _ E (hr.make C us [])
  (I2.env0.make C us []) (hb _ (Value.ref (s.heap.objs.size+1)::us) I2.kIn hl) r2 hq) λ r s' hq'=>?_))
 cases r with
 | error e=>exact hx pins σ _ _ e s' I2 hq'
 | ok fl =>
  cases fl with
  | ret u =>
   obtain⟨v,H',I3,rv,ev,q3⟩:=I2.after hq';subst ev;exact⟨rv,⟨V.ref (s.heap.objs.size+1),H',I3,rfl,q3⟩⟩
  | next=>exact False.elim hq'
  | brk=>exact False.elim hq'
  | cont=>exact False.elim hq'
theorem gm (M:Mk X.K C f)(F:FnOk X.prog X.w X.K X.mg X.base CX k f fd ps sp)(hr:Room (k+1) X.A)(hg:Gl X x)(hm:X.mg x=some (.ref C))(hb:Binds X.K fd ps ds)(hd:Vals dvs ds)(hx:dm CX X E)
  (ha:PA X (e::es) t)(hdb:(x==("__debug__" : Str))=false:=by decide)(he:starEach (e::es) X.env=(false,eval e X.env)::starEach es X.env:=by rfl)(hpl:(backTo pos (starEach es X.env)).any (·.1)=false:=by rfl) :
  PE X (.Call (.Name x p) (e::es) [] pos) (dM C sp dvs E t):=by
 intro pins s σ H Q I h;refine wpAny_Call_Name_kw (eD I hg hm ?_ hdb);refine PySem.W.callWith_K (h₀:=X.base) I.ok.mod.kin M.kp (aK (ha pos pins s σ H _ I h) λ us s1 ⟨vs,H1,I1,r,q⟩=>⟨I1.kIn,?_⟩) he hpl;exact lG M F hr hb hd hx I1 r q
theorem fZ (M:Mk X.K C f)(F:FnOk X.prog X.w X.K X.mg X.base CX k f fd ps sp)(hr:Room (k+1) X.A)(hg:Gl X x)(hm:X.mg x=some (.ref C))(hb:Binds X.K fd ps ds)(hd:Vals dvs ds)(hx:dm CX X E)
  (hdb:(x==("__debug__" : Str))=false:=by decide):PE X (.Call (.Name x p) [] [] pos) (dM C sp dvs E aL):=by
 intro pins s σ H Q I h;refine wpAny_Call_Name_kw (eD I hg hm ?_ hdb);exact PySem.W.callWith_K0 I.kIn M.kp (lG (us:=[]) M F hr hb hd hx I .nil h)
end
structure ad (N P:List Str)(sc:Scope):Prop where
 kind:sc.kind=.function
 co:sc.isCoroutine=false
 gen:sc.isGenerator=false
 nd:N.Nodup
 pre:N.take P.length=P
 par:∀ x∈P,sc.names.lookup x=some .local\/sc.names.lookup x=some .cell
 nofree:∀ y∈sc.names,y.2 ≠ .free
theorem aJ {N P:List Str}{sc:Scope}(a:sc.kind=.function:=by rfl)(b:sc.isCoroutine=false:=by rfl)(c:sc.isGenerator=false:=by rfl)(d:N.Nodup:=by decide +kernel)(e:N.take P.length=P:=by rfl)(f:∀ x∈P,sc.names.lookup x=some .local\/sc.names.lookup x=some .cell:=by decide +kernel)(g:∀ y∈sc.names,y.2 ≠ .free:=by decide +kernel):ad N P sc:=⟨a,b,c,d,e,f,g⟩
theorem jw {kindOf:Str->Option NameKind}{x:Str}:∀{binds:List (Str × Value)}{m:Str->Option Value},(∀ v,(x,v) ∉ binds)->bindL kindOf binds m x=m x
 | [],_,_=>rfl
 | (n,v)::r,m,h=>by
  unfold bindL;rw [jw λ w hw=>h w (List.mem_cons_of_mem _ hw)];split
  ·have:x≠n:=by rintro rfl;exact h v List.mem_cons_self
   simp [this]
  ·rfl
theorem jh {kindOf:Str->Option NameKind}{x:Str}:∀{binds:List (Str × Value)}{m:Str->Option Value},(∀ v,(x,v) ∉ binds)->bindC kindOf binds m x=m x
 | [],_,_=>rfl
 | (n,v)::r,m,h=>by
  unfold bindC;rw [jh λ w hw=>h w (List.mem_cons_of_mem _ hw)];split
  ·rfl
  ·have:x≠n:=by rintro rfl;exact h v List.mem_cons_self
   simp [this]
theorem jy {kindOf:Str->Option NameKind}{x:Str}{v:Value}:∀{P:List Str}{vs:List Value}{i:Nat}{m:Str->Option Value},P.Nodup->P[i]?=some x->vs[i]?=some v->kindOf x=some .local ->
  bindL kindOf (P.zip vs) m x=some v
 | [],_,_,_,_,h,_,_=>by simp at h
 | _::_,[],_,_,_,_,h,_=>by simp at h
 | p::P,w::vs,0,m,nd,h1,h2,hk=>by
  simp at h1 h2;subst h1;subst h2;show bindL kindOf ((p,w)::P.zip vs) m p=_;unfold bindL;rw [jw λ v hv=>(List.nodup_cons.mp nd).1 (List.of_mem_zip hv).1,if_pos hk];simp
 | p::P,w::vs,i+1,m,nd,h1,h2,hk=>by
  show bindL kindOf ((p,w)::P.zip vs) m x=_;unfold bindL;exact jy (i:=i) (List.nodup_cons.mp nd).2 (by simpa using h1) (by simpa using h2) hk
theorem jg {kindOf:Str->Option NameKind}{x:Str}{v:Value}:∀{P:List Str}{vs:List Value}{i:Nat}{m:Str->Option Value},P.Nodup->P[i]?=some x->vs[i]?=some v->kindOf x≠some .local ->
  bindC kindOf (P.zip vs) m x=some v
 | [],_,_,_,_,h,_,_=>by simp at h
 | _::_,[],_,_,_,_,h,_=>by simp at h
 | p::P,w::vs,0,m,nd,h1,h2,hk=>by
  simp at h1 h2;subst h1;subst h2;show bindC kindOf ((p,w)::P.zip vs) m p=_;unfold bindC;rw [jh λ v hv=>(List.nodup_cons.mp nd).1 (List.of_mem_zip hv).1,if_neg hk];simp
 | p::P,w::vs,i+1,m,nd,h1,h2,hk=>by
  show bindC kindOf ((p,w)::P.zip vs) m x=_;unfold bindC;exact jg (i:=i) (List.nodup_cons.mp nd).2 (by simpa using h1) (by simpa using h2) hk
def fX (N:List Str)(vs:List V):St:=vs.map some++List.replicate (N.length-vs.length) none
def aH (CX:kr)(P:Program)(w:World)(K:PySem.W.Frag)(mg:Str->Option Value)(base:Heap)(N:List Str)(qual:Str)(scope:Scope)(f:Addr)(cd:Value)(A:Around)(outer:List Env)(s:Shared)(H:Hp)(E:XK):Cx where
 prog:=P
 w:=w
 K:=K
 mg:=mg
 base:=base
 A:=A.deeper (envOfC qual scope s.heap.objs.size f cd)
 N:=N
 s₀:=s
 H₀:=H
 env:=envOfC qual scope s.heap.objs.size f cd
 outer:=outer
 stack:=envOfC qual scope s.heap.objs.size f cd::outer
 ex:=[]
 calm:=true
 fn:=λ _=>true
 pn:=[]
 xe:=λ e s'=>wpAny (model P w) (A.deeper (envOfC qual scope s.heap.objs.size f cd)) (leaving (envOfC qual scope s.heap.objs.size f cd) e) (λ _ s''=>CX outer H s E e s'') (λ e' s''=>CX outer H s E e' s'') s'
theorem kL {sc:Scope}{n:Nat}{x:Str}(h:sc.names.lookup x=some .cell):∃ c,(cellsFrom n sc.names []).lookup x=some c:=by
 have q:=PySem.W.cellsFrom_some sc.names n [] (.inl h);exact Option.isSome_iff_exists.mp q
theorem oW {CX:kr}{P:Program}{w:World}{K:PySem.W.Frag}{mg:Str->Option Value}{base:Heap}{N ps:List Str}{qual:Str}{scope:Scope}{f:Addr}{cd:Value}{A:Around}{outer:List Env}{s s1:Shared}{H:Hp}{E:XK}{us:List Value}{vs:List V}
  (S:ad N ps scope)(hd:A.handled=none)(e0:Env0 P w K mg base A outer s H)(hl:vs.length=ps.length)(r:Vals vs us)
  (x:InCallC s s.heap.objs.size (bindL (envOfC qual scope s.heap.objs.size f cd).kindOf (ps.zip us) λ _=>none) (cellsFrom (s.heap.objs.size+1) scope.names []) (bindC (envOfC qual scope s.heap.objs.size f cd).kindOf (ps.zip us) λ _=>none) s1) :
  Inv (aH CX P w K mg base N qual scope f cd A outer s H E) [] (fX N vs) H s1:=by
 have hpl:ps.length<=N.length:=by have:=congrArg List.length S.pre;rw [List.length_take] at this;omega
 obtain⟨h1,tk,rfl,hk⟩:=x.done;have noA:∀ b:Addr,b ∉ (aH CX P w K mg base N qual scope f cd A outer s H E).ex:=λ b z=>absurd (show b∈([]:List Addr) from z) (by simp)
 refine⟨⟨e0.mod,S.kind,rfl,rfl,Nat.le_refl _,λ y z c h1 h2=>?_,λ y hy=>?_,λ y c _ h=>?_,λ _=>hd,Around.frames_deeper e0.frames,.inr ⟨rfl,rfl⟩,λ b z=>absurd z (noA b),e0.bs,e0.bsz,λ b _ _=>noA b,λ b z=>absurd z (noA b),e0.funs,e0.frf⟩,
  rfl,e0.bare,Un.kept hk,⟨_,x.toInCall.ns,λ i y v h1 h2 h3=>?_⟩,λ y c h=>⟨_,x.cell y c h⟩,e0.hok.fresh (Nat.le_refl _),λ y c h=>?_,λ p hp=>absurd (show p∈([]:List (Addr × Obj)) from hp) (by simp),e0.hok.kept hk,?_⟩
 ·exact name_of_addr x.apart (PySem.mem_of_lookup h1) (PySem.mem_of_lookup h2)
 ·have hy:scope.names.lookup y=some .cell\/scope.names.lookup y=some .free:=hy;rcases hy with hy | hy
  ·exact kL hy
  ·exact absurd rfl (S.nofree _ (PySem.mem_of_lookup hy))
 ·exact Nat.le_of_lt (x.above y c (PySem.mem_of_lookup h))
 ·have hi:i<vs.length:=by
   unfold fX at h2;by_cases hi:i<vs.length
   ·exact hi
   ·rw [List.getElem?_append_right (by simpa using hi)] at h2
    rw [List.getElem?_replicate] at h2;split at h2 <;> cases h2
  have ha:vs[i]?=some v:=by
   unfold fX at h2;rw [List.getElem?_append_left (by simpa using hi),List.getElem?_map] at h2
   cases e:vs[i]? with
   | none=>rw [e] at h2;cases h2
   | some a=>rw [e] at h2;cases h2;rfl
  obtain⟨u,hu,rv⟩:=r.get ha;have hp:ps[i]?=some y:=by
   rw [<- S.pre,List.getElem?_take_of_lt (by omega)];exact h1
  have ndP:ps.Nodup:=by rw [<- S.pre];exact S.nd.sublist (List.take_sublist _ _)
  refine⟨u,rv,?_⟩;rcases S.par y (List.mem_of_getElem? hp) with k | k
  ·exact .inl ⟨k,jy ndP hp hu k⟩
  ·obtain⟨c,e⟩:=kL (n:=s.heap.objs.size+1) k;refine .inr ⟨.inl k,c,e,?_⟩;have q:=x.cell y c e;rw [jg ndP hp hu (by show scope.names.lookup y≠_;rw [k];decide)] at q
   exact q
 ·exact e0.hok.fresh (Nat.le_of_lt (x.above y c (PySem.mem_of_lookup h)))
 ·unfold fX;show _=N.length;rw [List.length_append,List.length_map,List.length_replicate];omega
theorem vV {CX:kr}{P:Program}{w:World}{K:PySem.W.Frag}{mg:Str->Option Value}{base:Heap}{k:Nat}{f:Addr}{name qual:Str}{params:Arguments}{body:List Stmt}{scope:Scope}{dV kV doc pm cdv ct oc:Value}{an od:Option Addr}
  {osl:Array (Option Value)}{N ps:List Str}{sp:Sp}(lk:K.lookup f=some ⟨oc,od,.func (PySem.W.fnOf name qual params body scope dV kV doc pm an cdv ct),osl⟩)(hcd:PySem.W.codeIn K cdv qual=true)(S:ad N ps scope)
  (len:∀ vs H Q E,sp vs H Q E->vs.length=ps.length)
  (hbody:∀(A:Around)(outer:List Env)(s:Shared)(H:Hp)(vs:List V)(Q:VK)(E:XK),Room k (A.deeper (envOfC qual scope s.heap.objs.size f cdv))->sp vs H Q E ->
   ∃ t,PSs (aH CX P w K mg base N qual scope f cdv A outer s H E) body t/\t { nx:=λ _ H'=>Q .non H',rt:=Q } (fX N vs) H) :
  FnOk P w K mg base CX (k+1) f (PySem.W.fnOf name qual params body scope dV kV doc pm an cdv ct) ps sp:=by
 refine⟨len,λ A outer s H args us vs Q E hr e0 hb r hsp=>?_⟩;have hl:=len _ _ _ _ hsp;have KX:K.In s.heap:=e0.mod.kin.keeps λ b o e=>(e0.bs b o e).1;have lim:s.heap.NoLimit:=e0.mod.nolimit.keeps λ b o e=>(e0.bs b o e).1;have hkind:∀ y∈ps.zip us,scope.names.lookup y.1=some .local\/(scope.names.lookup y.1=some .cell/\((cellsFrom (s.heap.objs.size+1) scope.names []).lookup y.1).isSome=true):=λ ⟨n,v⟩ hy=>by
  rcases S.par n (List.of_mem_zip hy).1 with q | q
  ·exact .inl q
  ·exact .inr ⟨q,PySem.W.cellsFrom_some _ _ _ (.inl q)⟩
 refine codeAny_call_function hr.depth (KX _ _ lk) rfl S.co S.gen rfl (PySem.W.codeRec_of KX hcd) (hb _ _ _ _ ?_);refine wpAny_newFunctionEnv_cells S.kind hkind λ env he s1 x=>?_;subst he;refine⟨lim.keeps x.toInCall.keep,codeAny_func ?_⟩;obtain⟨t,ht,hq⟩:=hbody A outer s H vs Q E (hr.deeper _) hsp;have I:Inv (aH CX P w K mg base N qual scope f cdv A outer s H E) [] (fX N vs) H s1:=oW S hr.hd e0 hl r x;refine wpAny_mono (ht [] s1 (fX N vs) H _ I hq) (λ fl s' hs=>?_) λ e s' hs=>hs;have fin:∀{σ':St}{H':Hp}{v:V}{u:Value},Inv (aH CX P w K mg base N qual scope f cdv A outer s H E) [] σ' H' s'->RelV v u->Q v H'->CE outer P w H s Q u s' :=
  λ {σ' H' v u} J rv q=>⟨v,H',J.os,J.bare,J.base,J.hok,rv,q⟩
 cases fl with
 | ret u =>
  obtain⟨v,σ',H',J,rv,q⟩:=hs;exact fin J rv q
 | next =>
  obtain⟨σ',H',J,q⟩:=hs;exact fin (v:=V.non) (u:=Value.none) J rfl q
 | brk =>
  obtain⟨_,_,_,q⟩:=hs;exact False.elim q
 | cont =>
  obtain⟨_,_,_,q⟩:=hs;exact False.elim q
section
variable {X:Cx}{x:Str}{p pos:Pos}{e:Expr}{es:List Expr}{t:TA}{id T:String}{r:List V->Hp->VK->Prop}
def gU (r:List V->Hp->VK->Prop)(t:TA):TE:=λ σ H Q=>t σ H λ vs H1=>r vs H1 Q
theorem ai (hc:cG X (.builtin id) r)(hg:Gl X x)(hm:X.mg x=none)(hv:bootBuiltins x=some (.builtin id))(ha:PA X (e::es) t)(hn:x ≠ "__name__" := by decide)(hdb:(x==("__debug__" : Str))=false:=by decide)
  (he:starEach (e::es) X.env=(false,eval e X.env)::starEach es X.env:=by rfl)(hpl:(backTo pos (starEach es X.env)).any (·.1)=false:=by rfl):PE X (.Call (.Name x p) (e::es) [] pos) (gU r t):=by
 intro pins s σ H Q I h;refine wpAny_Call_Name_kw (fw I hg hm hv ?_ hn hdb);exact PyProof.Rows.callWith_builtin1 (aK (ha pos pins s σ H _ I h) λ us s1 ⟨vs,H1,I1,r1,q1⟩=>hc pins s1 σ H1 vs us Q I1 r1 q1) he hpl
theorem aM (hc:cG X (.type T) r)(hg:Gl X x)(hm:X.mg x=none)(hv:bootBuiltins x=some (.type T))(ha:PA X (e::es) t)(hn:x ≠ "__name__" := by decide)(hdb:(x==("__debug__" : Str))=false:=by decide)
  (he:starEach (e::es) X.env=(false,eval e X.env)::starEach es X.env:=by rfl)(hpl:(backTo pos (starEach es X.env)).any (·.1)=false:=by rfl):PE X (.Call (.Name x p) (e::es) [] pos) (gU r t):=by
 intro pins s σ H Q I h;refine wpAny_Call_Name_kw (fw I hg hm hv ?_ hn hdb);exact PyProof.Rows.callWith_type1 (aK (ha pos pins s σ H _ I h) λ us s1 ⟨vs,H1,I1,r1,q1⟩=>hc pins s1 σ H1 vs us Q I1 r1 q1) he hpl
end
abbrev TO:=St->Hp->(Option Int->Hp->Prop)->Prop
theorem ii {ns:List Int}:∀{us:List Value},Vals (ns.map V.int) us->IntsAre us ns:=by
 induction ns with
 | nil=>intro us r;rw [List.map_nil] at r;cases r;exact .nil
 | cons n ns ih =>
  intro us r;rw [List.map_cons] at r;cases r with
  | cons r1 r2 =>
   obtain⟨t,e⟩:=r1;subst e;exact .cons n t (ih r2)
def vk (n:Nat)(i:Int):Option Nat:=if 0<=i then(if i<n then some i.toNat else none) else if -(n:Int)<=i then some (i+n).toNat else none
def vu {α:Type}(xs:List α)(i:Int):Option α:=(vk xs.length i).bind λ j=>xs[j]?
theorem nH {n:Nat}{i:Int}{j:Nat}(h:vk n i=some j):seqIndex? i n=some j/\j<n/\-(n:Int)<=i/\i<n:=by
 unfold vk at h;by_cases h0:0<=i
 ·rw [if_pos h0] at h;by_cases h1:i<n
  ·rw [if_pos h1] at h;have e:i.toNat=j:=Option.some.inj h;exact⟨by rw [seqIndex_of h0 h1,e],by omega,by omega,h1⟩
  ·rw [if_neg h1] at h;cases h
 ·rw [if_neg h0] at h;by_cases h1:-(n:Int)<=i
  ·rw [if_pos h1] at h;have e:(i+n).toNat=j:=Option.some.inj h;exact⟨by rw [seqIndex_neg (by omega) h1,e],by omega,h1,by omega⟩
  ·rw [if_neg h1] at h;cases h
theorem oq {α:Type}{xs:List α}{i:Int}{v:α}(h:vu xs i=some v):∃ j,seqIndex? i xs.length=some j/\xs[j]?=some v/\j<xs.length/\-(xs.length:Int)<=i/\i<xs.length:=by
 unfold vu at h;cases e:vk xs.length i with
 | none=>rw [e] at h;cases h
 | some j =>
  rw [e] at h;obtain⟨h1,h2,h3,h4⟩:=nH e;exact⟨j,h1,h,h2,h3,h4⟩
theorem dL {α:Type}{xs:List α}{j:Nat}{v:α}(h:xs[j]?=some v):vu xs (j:Int)=some v:=by
 have hj:j<xs.length:=(List.getElem?_eq_some_iff.mp h).1;have e:vk xs.length (j:Int)=some j:=by
  unfold vk;rw [if_pos (by omega),if_pos (by omega)];simp
 unfold vu;rw [e];exact h
def kc (b:Expr):Prop:=∀ o i,subscripted b false o i=operate [o,i] (getItem o i)
def BR (X:Cx)(r:R2):Prop :=
 ∀(value slice:Expr)(pins:List (Addr × Obj))(s:Shared)(σ:St)(H:Hp)(x y:V)(v u:Value)(Q:VK),Inv X pins σ H s->RelV x v->RelV y u->r x y H Q ->
  subscripted slice false v u=operate [v,u] (getItem v u)->wpAny (model X.prog X.w) X.A (subscriptTail value slice v u) (EP X pins σ Q) X.xe s
def Fk (X:Cx)(id:String)(r:V->List V->Hp->VK->Prop):Prop :=
 ∀(pins:List (Addr × Obj))(s:Shared)(σ:St)(H:Hp)(x:V)(xs:List V)(v:Value)(us:List Value)(Q:VK),Inv X pins σ H s->RelV x v->Vals xs us->r x xs H Q ->
  wpAny (model X.prog X.w) X.A (call (.builtin id) (v::us)) (EP X pins σ Q) X.xe s
section
variable {X:Cx}{a b:Expr}{ta tb:TE}{pos:Pos}
theorem BA {r:R2}(hr:BR X r)(ha:PE X a ta)(hb:PE X b tb)(hs:kc b):PE X (.Subscript a b pos) (aB r ta tb):=by
 intro pins s σ H Q I h;exact Subscript_ (zZ ha hb I h λ v u s2 x y H2 I2 rx ry q=>hr a b pins s2 σ H2 x y v u Q I2 rx ry q (hs _ _))
theorem c8 {r:R2}(hr:BR X r)(ha:PE X a ta)(hb:PE X b tb)(hs:kc b:=by exact λ _ _=>rfl):PE X (.Subscript a b pos) (aB r ta tb):=BA hr ha hb hs
def cE (K:PySem.W.Frag):R2:=λ x y H Q=>∃ p xs i v,x=.ref p/\y=.int i/\SqL K H p xs/\vu xs i=some v/\Q v H
def sG (K:PySem.W.Frag):R2:=λ x y H Q=>∃ p xs i v,x=.ref p/\y=.int i/\SqT K H p xs/\vu xs i=some v/\Q v H
theorem fU:BR X (cE X.K):=by
 intro value slice pins s σ H x y v u Q I rx ry h hs;obtain⟨p,xs,i,z,rfl,rfl,hq,he,q⟩:=h;cases rx;obtain⟨t,rfl⟩:=ry;obtain⟨its,r,pl,hz⟩:=I.list hq;obtain⟨j,h1,h2,h3,h4,h5⟩:=oq he;obtain⟨w,ew,rw'⟩:=r.get h2;have hl:=r.length;have hn:=il;have fin:EP X pins σ Q w s:=⟨z,H,I,rw',q⟩;by_cases h0:0<=i
 ·have hj:i.toNat=j:=by
   rw [seqIndex_of h0 h5] at h1;exact Option.some.inj h1
  exact item_listR pl.isList h0 (by omega) (by rw [hj];simpa using ew) fin hs
 ·have hj:(i+(its.toArray.size:Int)).toNat=j:=by
   rw [seqIndex_neg (by omega) h4] at h1
   rw [List.size_toArray,<- hl];exact Option.some.inj h1
  exact subscriptTail_builtinR (x:=w) pl.isList.typeIs slot_list_getitem.lookup
   (wpAny_getItem_list_neg (Q:=λ r s'=>r=w/\EP X pins σ Q r s') pl.isList (by omega) (by rw [List.size_toArray] <;> omega) (by omega) (by rw [hj];simpa using ew) ⟨rfl,fin⟩) hs
theorem kD:BR X (sG X.K):=by
 intro value slice pins s σ H x y v u Q I rx ry h hs;obtain⟨p,xs,i,z,rfl,rfl,hq,he,q⟩:=h;cases rx;obtain⟨t,rfl⟩:=ry;obtain⟨its,r,pl,hz⟩:=I.tuple hq;obtain⟨j,h1,h2,h3,h4,h5⟩:=oq he;obtain⟨w,ew,rw'⟩:=r.get h2;have hl:=r.length;have hn:=il;have fin:EP X pins σ Q w s:=⟨z,H,I,rw',q⟩;exact subscriptTail_builtinR (x:=w) pl.typeIs slot_tuple_getitem.lookup
  (getItem_tuple (j:=j) (Q:=λ r s'=>r=w/\EP X pins σ Q r s') pl (by omega) (by omega) (by rw [List.size_toArray,<- hl];exact h1) (by simpa using ew) ⟨rfl,fin⟩) hs
theorem nh (its:List Value)(n j:Nat)(u:Value):Obj.mapSeq (·.setIfInBounds j u) { cls:=.type "list",data:=.seq its.toArray n }={ cls:=.type "list",data:=.seq (its.set j u).toArray n }:=by
 simp [Obj.mapSeq]
theorem Inv.lst {pins:List (Addr × Obj)}{σ:St}{H:Hp}{s:Shared}{p:Addr}{xs:List V}(I:Inv X pins σ H s)(h:H p=some (.lst xs)) :
  ∃(its:List Value)(n:Nat),Vals xs its/\s.heap.get? p=some { cls:=.type "list",data:=.seq its.toArray n }/\xs.length<=sizeLine:=by
 obtain⟨z,its,n,r,e⟩:=I.hok p _ h;exact⟨its,n,r,e,z⟩
theorem Inv.lstUpd {pins:List (Addr × Obj)}{σ:St}{H:Hp}{s:Shared}{p:Addr}{xs ys:List V}{its its':List Value}{n n':Nat}{f:Obj->Obj}(I:Inv X pins σ H s)(h:H p=some (.lst xs))
  (ho:s.heap.get? p=some { cls:=.type "list",data:=.seq its.toArray n })(hf:f { cls:=.type "list",data:=.seq its.toArray n }={ cls:=.type "list",data:=.seq its'.toArray n' })(r:Vals ys its')(hz:ys.length<=sizeLine)(t:Nat) :
  Inv X pins σ (ae H p (.lst ys)) { s with heap:=s.heap.update p f,toks:=t }:=by
 have e:(s.heap.update p f).get? p=some { cls:=.type "list",data:=.seq its'.toArray n' }:=by
  rw [Heap.get?_update_self f ho (by rw [hf] <;> rfl),hf]
 refine I.write (x:=p) (e:=p) (by rw [h];trivial) (.inl rfl) (λ b u hb q=>(Heap.get?_update_other _ _ (Ne.symm hb)).trans q) ⟨_,e⟩ ?_
 exact⟨hz,its',n',r,e⟩
def qG:V->V->V->Hp->(Hp->Prop)->Prop:=λ o i v H Q=>∃ p xs k j,o=.ref p/\i=.int k/\H p=some (.lst xs)/\vk xs.length k=some j/\Q (ae H p (.lst (xs.set j v)))
theorem fA:zD X qG:=by
 intro pins s σ H o i v ov iv u Q I ro ri rv h;obtain⟨p,xs,k,j,rfl,rfl,hp,hj,q⟩:=h;cases ro;obtain⟨t,rfl⟩:=ri;obtain⟨its,n,r,ho,hz⟩:=I.lst hp;obtain⟨h1,h2,h3,h4⟩:=nH hj;have hl:=r.length;have hn:=il;have I':Inv X pins σ (ae H p (.lst (xs.set j v))) { s with heap:=s.heap.update p (Obj.mapSeq (·.setIfInBounds j u)) } :=
  I.lstUpd hp ho (nh its n j u) (r.set rv j) (by rw [List.length_set];exact hz) s.toks
 by_cases h0:0<=k
 ·have hk:k.toNat=j:=by
   rw [seqIndex_of h0 h4] at h1;exact Option.some.inj h1
  exact PySem.W.ki_setAt ho h0 (by omega) (by rw [List.size_toArray,<- hl];exact h4) (by rw [hk];exact⟨_,I',q⟩)
 ·have hk:(k+(its.toArray.size:Int)).toNat=j:=by
   rw [seqIndex_neg (by omega) h3] at h1
   rw [List.size_toArray,<- hl];exact Option.some.inj h1
  exact PySem.W.ki_setBack ho (by omega) (by rw [List.size_toArray,<- hl];exact h3) (by omega) (by rw [hk];exact⟨_,I',q⟩)
def fN:V->Bool
 | .non=>true
 | .bl _=>true
 | .int _=>true
 | .str _=>true
 | _=>false
def nN:V->V->Bool
 | .non,.non=>true
 | .bl a,.bl b=>a==b
 | .bl a,.int b=>(if a then 1 else 0)==b
 | .int a,.bl b=>a==(if b then 1 else 0)
 | .int a,.int b=>a==b
 | .str a,.str b=>a==b
 | _,_=>false
theorem pR {A:Around}{s:Shared}{y x:V}{u v:Value}(ry:RelV y u)(rx:RelV x v)(fy:fN y=true)(fx:fN x=true):SeqAt.EqAt A s u v (nN y x):=by
 cases y with
 | non =>
  cases ry;cases x with
  | non=>cases rx;exact SeqAt.EqAt.same _
  | bl b=>cases rx;exact SeqAt.EqAt.none_bool b
  | int b=>obtain⟨t,rfl⟩:=rx;exact SeqAt.EqAt.none_int b t
  | str b=>obtain⟨t,rfl⟩:=rx;exact SeqAt.EqAt.none_str b t
  | _=>exact absurd (show false=true from fx) Bool.false_ne_true
 | bl a =>
  cases ry;cases x with
  | non=>cases rx;exact SeqAt.EqAt.bool_none a
  | bl b=>cases rx;exact SeqAt.EqAt.bool_bool a b
  | int b=>obtain⟨t,rfl⟩:=rx;exact SeqAt.EqAt.bool_int a b t
  | str b=>obtain⟨t,rfl⟩:=rx;exact SeqAt.EqAt.bool_str a b t
  | _=>exact absurd (show false=true from fx) Bool.false_ne_true
 | int a =>
  obtain⟨t',rfl⟩:=ry;cases x with
  | non=>cases rx;exact SeqAt.EqAt.int_none a t'
  | bl b=>cases rx;exact SeqAt.EqAt.int_bool a t' b
  | int b=>obtain⟨t,rfl⟩:=rx;exact SeqAt.EqAt.int_int a t' b t
  | str b=>obtain⟨t,rfl⟩:=rx;exact SeqAt.EqAt.int_str a t' b t
  | _=>exact absurd (show false=true from fx) Bool.false_ne_true
 | str a =>
  obtain⟨t',rfl⟩:=ry;cases x with
  | non=>cases rx;exact SeqAt.EqAt.str_none a t'
  | bl b=>cases rx;exact SeqAt.EqAt.str_bool a t' b
  | int b=>obtain⟨t,rfl⟩:=rx;exact SeqAt.EqAt.str_int a t' b t
  | str b=>obtain⟨t,rfl⟩:=rx;exact SeqAt.EqAt.str_str a t' b t
  | _=>exact absurd (show false=true from fx) Bool.false_ne_true
 | _=>exact absurd (show false=true from fy) Bool.false_ne_true
def sK (x:V)(u:Value):Bool:=match u with
 | .none=>nN .non x
 | .bool b=>nN (.bl b) x
 | .int i _=>nN (.int i) x
 | .str z _=>nN (.str z) x
 | _=>false
theorem pN {x y:V}{u:Value}(r:RelV y u)(f:fN y=true):sK x u=nN y x:=by
 cases y with
 | non=>cases r;rfl
 | bl b=>cases r;rfl
 | int i=>obtain⟨t,rfl⟩:=r;rfl
 | str z=>obtain⟨t,rfl⟩:=r;rfl
 | _=>exact absurd (show false=true from f) Bool.false_ne_true
theorem jH {x:V}:∀{xs:List V}{us:List Value},Vals xs us->xs.all fN=true->us.any (sK x)=xs.any λ y=>nN y x
 | _,_,.nil,_=>rfl
 | y::xs,u::us,.cons r t,f=>by
  rw [List.all_cons,Bool.and_eq_true] at f;rw [List.any_cons,List.any_cons,pN r f.1,jH t f.2]
theorem iE {A:Around}{s:Shared}{x:V}{v:Value}(rx:RelV x v)(fx:fN x=true):∀{xs:List V}{us:List Value},Vals xs us->xs.all fN=true->∀ u∈us,SeqAt.EqAt A s u v (sK x u)
 | _,_,.nil,_=>λ u hu=>by cases hu
 | y::xs,u::us,.cons r t,f=>λ u' hu=>by
  rw [List.all_cons,Bool.and_eq_true] at f;rcases List.mem_cons.mp hu with rfl | hu
  ·rw [pN r f.1];exact pR r rx f.1 fx
  ·exact iE rx fx t f.2 u' hu
def vC (x:V)(xs:List V):Bool:=xs.any λ y=>nN y x
def FX (K:PySem.W.Frag)(neg:Bool):R2:=λ x y H Q=>∃ p xs,y=.ref p/\(SqL K H p xs\/SqT K H p xs)/\fN x=true/\xs.all fN=true/\Q (.bl (if neg then !vC x xs else vC x xs)) H
theorem j5:gL X (compareOp .NotIn) (FX X.K true):=by
 intro pins s σ H x y v u Q I rx ry h;obtain⟨p,xs,rfl,hq,fx,fs,q⟩:=h;cases ry;rcases hq with hq | hq
 ·obtain⟨its,r,pl,hz⟩:=I.list hq;refine SeqAt.notIn_listAt (sK x) pl.isList (λ w hw=>iE rx fx r fs w (by simpa using hw)) ⟨.bl _,H,I,rfl,?_⟩
  rw [show its.toArray.any (sK x)=its.any (sK x) by simp,jH r fs]
  exact q
 ·obtain⟨its,r,pl,hz⟩:=I.tuple hq;refine SeqAt.notIn_tupleAt (sK x) pl (λ w hw=>iE rx fx r fs w (by simpa using hw)) ⟨.bl _,H,I,rfl,?_⟩
  rw [show its.toArray.any (sK x)=its.any (sK x) by simp,jH r fs]
  exact q
theorem ar:cG X (.builtin "len") (λ xs H Q=>∃ p ys,xs=[.ref p]/\(SqL X.K H p ys\/SqT X.K H p ys)/\Q (.int ys.length) H):=by
 intro pins s σ H xs us Q I r h;obtain⟨p,ys,rfl,hq,q⟩:=h;obtain⟨u,rfl,rx⟩:=dA r;cases rx;have hn:=il;rcases hq with hq | hq
 ·obtain⟨its,r',pl,hz⟩:=I.list hq;have hlen:=r'.length;exact Calls.call_len_list pl.isList (by simp only [List.size_toArray] <;> omega) ⟨.int ys.length,H,I.tok _,⟨s.toks+1,by rw [List.size_toArray,hlen]⟩,q⟩
 ·obtain⟨its,r',pl,hz⟩:=I.tuple hq;have hlen:=r'.length;exact len_tuple pl (by simp only [List.size_toArray] <;> omega) ⟨.int ys.length,H,I.tok _,⟨s.toks+1,by rw [List.size_toArray,hlen]⟩,q⟩
theorem jT:cG X (.type "list") (λ xs H Q=>∃ p ys,xs=[.ref p]/\(SqL X.K H p ys\/SqT X.K H p ys)/\∀ l,H l=none->Q (.ref l) (ae H l (.lst ys))):=by
 intro pins s σ H xs us Q I r h;obtain⟨p,ys,rfl,hq,q⟩:=h;obtain⟨u,rfl,rx⟩:=dA r;cases rx;have fin:∀(its:List Value),Vals ys its->ys.length<=sizeLine->∀(h':Heap)(c':Nat),(∀ b o',s.heap.get? b=some o'->h'.get? b=some o') ->
   h'.get? s.heap.objs.size=some { cls:=.type "list",dict:=none,data:=.seq its.toArray c',slots:=#[] }->EP X pins σ Q (.ref s.heap.objs.size) { s with heap:=h' }:=λ its r' hz h' c' kp e =>
  ⟨.ref s.heap.objs.size,_,I.laid (t':=s.toks) kp (Nat.le_refl _) (show ObjOk X.prog X.w _ h' _ (.lst ys) from⟨hz,its,c',r',e⟩),rfl,q _ (I.hok.fresh (Nat.le_refl _))⟩
 rcases hq with hq | hq
 ·obtain⟨its,r',pl,hz⟩:=I.list hq;have hlen:=r'.length;obtain⟨o,ho,hc,n,hd⟩:=pl.isList;exact call_list_seq p (.inl rfl) ho hc hd (λ h' c' kp e=>fin its r' hz h' c' kp e) (by simp only [List.size_toArray] <;> omega)
 ·obtain⟨its,r',pl,hz⟩:=I.tuple hq;have hlen:=r'.length;obtain⟨o,ho,hc,n,hd⟩:=pl;exact call_list_seq p (.inr rfl) ho hc hd (λ h' c' kp e=>fin its r' hz h' c' kp e) (by simp only [List.size_toArray] <;> omega)
theorem bX:cG X (.type "tuple") (λ xs H Q=>∃ p ys,xs=[.ref p]/\((SqL X.K H p ys/\∀ l,H l=none->Q (.ref l) (ae H l (.tup ys)))\/(SqT X.K H p ys/\Q (.ref p) H))):=by
 intro pins s σ H xs us Q I r h;obtain⟨p,ys,rfl,h⟩:=h;obtain⟨u,rfl,rx⟩:=dA r;cases rx;rcases h with⟨hq,q⟩ | ⟨hq,q⟩
 ·obtain⟨its,r',pl,hz⟩:=I.list hq;have hlen:=r'.length;refine call_tuple_list pl.isList (λ h' kp=>?_) (by simp only [List.size_toArray] <;> omega)
  have I1:Inv X pins σ H { s with heap:=h' }:=I.kept (t':=s.toks) kp
  have I2:Inv X pins σ (ae H h'.objs.size (.tup ys)) { s with heap:=h'.push { cls:=.type "tuple",data:=.seq its.toArray } } :=
   I1.laid (t':=s.toks) (λ b o e=>Heap.get?_push_of_some _ e) (Nat.le_refl _) (show ObjOk X.prog X.w _ _ _ (.tup ys) from⟨hz,its,r',IsTup.new _ _⟩)
  exact⟨.ref h'.objs.size,_,I2,rfl,q _ (I1.hok.fresh (Nat.le_refl _))⟩
 ·obtain⟨its,r',pl,hz⟩:=I.tuple hq;exact call_tuple_same pl ⟨.ref p,H,I,rfl,q⟩
def FK (K:PySem.W.Frag)(T:String)(x:V)(H:Hp):Prop:=match x with
 | .str _=>T = "str"
 | .int _=>T = "int"
 | .ref p=>(T = "list" /\ ∃ xs,SqL K H p xs)\/(T = "tuple" /\ ∃ o,K.lookup p=some o/\o.cls=.type "tuple" /\ o.dict=none) \/
   (T = "dict" /\ ((∃ kvs,H p=some (.dK kvs))\/∃ kvs,H p=some (.dT kvs)))\/(T = "set" /\ ∃ S n,H p=some (.set S n))
 | _=>False
theorem xP {pins:List (Addr × Obj)}{σ:St}{H:Hp}{s:Shared}{T:String}{x:V}{v:Value}(I:Inv X pins σ H s)(r:RelV x v)(ty:FK X.K T x H) :
  s.TypeIs v T/\∀ a,v=.ref a->∃ ob,s.heap.get? a=some ob/\ob.dict=none:=by
 cases x with
 | str z =>
  obtain⟨t,rfl⟩:=r;cases (show T = "str" from ty);exact⟨typeIs_str s z t,λ _ e=>nomatch e⟩
 | int i =>
  obtain⟨t,rfl⟩:=r;cases (show T = "int" from ty);exact⟨typeIs_int s i t,λ _ e=>nomatch e⟩
 | ref p =>
  cases r;rcases ty with⟨rfl,xs,hq⟩ | ⟨rfl,o,hk,hc,hd⟩ | ⟨rfl,hk⟩ | ⟨rfl,S,n,hk⟩
  ·obtain⟨its,_,pl,_⟩:=I.list hq;refine⟨pl.isList.typeIs,λ a e=>?_⟩;cases e;obtain⟨o,n,e,c,hd,_⟩:=pl;exact⟨o,e,hd⟩
  ·refine⟨⟨o,I.kIn p o hk,hc⟩,λ a e=>?_⟩;cases e;exact⟨o,I.kIn _ o hk,hd⟩
  ·have z:∃ o,s.heap.get? p=some o/\o.ExactDict:=by
    rcases hk with⟨kvs,hk⟩ | ⟨kvs,hk⟩
    ·obtain⟨_,_,_,_,o,_,_,e,ex,_⟩:=I.hok p _ hk;exact⟨o,e,ex⟩
    ·obtain⟨_,_,_,_,o,_,_,e,ex,_⟩:=I.hok p _ hk;exact⟨o,e,ex⟩
   obtain⟨o,e,ex⟩:=z;refine⟨⟨o,e,ex.1⟩,λ a e2=>?_⟩;cases e2;exact⟨o,e,ex.2.1⟩
  ·obtain⟨o,_,_,_,e,ex,_⟩:=I.hok p _ hk;refine⟨⟨o,e,ex.1⟩,λ a e2=>?_⟩;cases e2;exact⟨o,e,ex.2.1⟩
 | _=>exact False.elim ty
def Aj (K:PySem.W.Frag)(T:String)(r:V->List V->Hp->VK->Prop)(to:TE)(t:TA):TE:=λ σ H Q=>to σ H λ x H1=>FK K T x H1/\t σ H1 λ xs H2=>r x xs H2 Q
variable {o e:Expr}{es:List Expr}{to:TE}{t:TA}{name:Str}{apos cpos:Pos}{T id:String}{r:V->List V->Hp->VK->Prop}
theorem jf (pa:PlainAttrs T)(slot:Slot T name id)(hty:typeOf (.builtin id)=pure (.type "method_descriptor"))(hm:Fk X id r)(ho:PE X o to)(ha:PA X (e::es) t)
  (hbase:attributeBase o name X.env (eval o X.env)=eval o X.env:=by rfl)
  (hfew:((backTo cpos (starEach (e::es) X.env)).all (λ x=>!x.1)&&(backToKw cpos (keywordEach [] X.env)).all (λ x=>x.1.isSome)
   && decide ((e::es).length+([]:List Keyword).length+(if([]:List Keyword).isEmpty then 0 else 1)<30))=true:=by rfl)
  (hline:(apos.endLine==cpos.line)=true:=by rfl)(hs:starEach (e::es) X.env=(false,eval e X.env)::starEach es X.env:=by rfl)(hplain:(backTo cpos (starEach es X.env)).any (·.1)=false:=by rfl) :
  PE X (.Call (.Attribute o name apos) (e::es) [] cpos) (Aj X.K T r to t):=by
 intro pins s σ H Q I h;refine wpAny_Call_method_late hbase hfew hline rfl (aK (ho pins s σ H _ I h) λ v s1 ⟨x,H1,I1,r1,ty,q1⟩=>?_);obtain⟨h1,h2⟩:=xP I1 r1 ty;refine⟨T,id,pa,slot,hty,h1,h2,?_⟩;have hA:=ha cpos pins s1 σ H1 _ I1 q1;rw [hs] at hA ⊢;refine Calls.callWith_builtin (by show(false||(backTo cpos (starEach es X.env)).any (·.1))=false;rw [hplain] <;> rfl) (Calls.evalArgs_plain ?_)
 exact aK hA λ us s2 ⟨vs,H2,I2,r2,q2⟩=>hm pins s2 σ H2 x vs v us Q I2 r1 r2 q2
end
def Gw (X:Cx)(id:String)(r:V->List V->Hp->VK->Prop):Prop :=
 ∀(pins:List (Addr × Obj))(s:Shared)(σ:St)(H:Hp)(x:V)(xs:List V)(v:Value)(us:List Value)(Q:VK),Inv X pins σ H s->RelV x v->Vals xs us->r x xs H Q ->
  wpAny (model X.prog X.w) X.A (call (.builtin id) (v::us)) (EP X pins σ Q) X.xe s
theorem Vals.one:∀{x:V}{us:List Value},Vals [x] us->∃ u,us=[u]/\RelV x u
 | _,_,.cons r .nil=>⟨_,rfl,r⟩
section
variable {X:Cx}{pins:List (Addr × Obj)}{σ:St}{H:Hp}{s:Shared}{l b:Addr}{xs ys zs:List V}
theorem Inv.lset {its its':List Value}{n:Nat}{f:Array Value->Array Value}{t':Nat}(I:Inv X pins σ H s)(hH:H l=some (.lst xs))
  (e:s.heap.get? l=some { cls:=.type "list",data:=.seq its.toArray n })(hf:f its.toArray=its'.toArray)(hv:Vals ys its')(hz:ys.length<=sizeLine) :
  Inv X pins σ (ae H l (.lst ys)) { s with heap:=s.heap.update l (Obj.mapSeq f),toks:=t' }:=by
 have q:=PySem.IsL.update e f;rw [hf] at q;refine I.write (x:=l) (e:=l) (by rw [hH];exact trivial) (.inl rfl) (λ b' u hb hu=>(Heap.get?_update_other s.heap (Obj.mapSeq f) (Ne.symm hb)).trans hu) ⟨_,q⟩ ?_
 exact⟨hz,its',_,hv,q⟩
theorem Inv.lnew {its:List Value}{t':Nat}(I:Inv X pins σ H s)(hv:Vals ys its)(hz:ys.length<=sizeLine) :
  Inv X pins σ (ae H s.heap.objs.size (.lst ys)) { s with heap:=s.heap.push { cls:=.type "list",data:=.seq its.toArray },toks:=t' } :=
 I.laid (λ _ _ q=>Heap.get?_push_of_some _ q) (Nat.le_refl _) ⟨hz,its,0,hv,Heap.get?_push_size _ rfl⟩
theorem Inv.fresh (I:Inv X pins σ H s):H s.heap.objs.size=none:=I.hok.fresh (Nat.le_refl _)
theorem Inv.lstM (I:Inv X pins σ H s)(hH:H l=some (.lst xs)):xs.length<=sizeLine/\∃(its:List Value)(n:Nat),Vals xs its/\xs.length=its.length/\s.heap.get? l=some { cls:=.type "list",data:=.seq its.toArray n }:=by
 obtain⟨z,its,n,r,e⟩:=I.hok l _ hH;exact⟨z,its,n,r,r.length,e⟩
def jD:V->List V->Hp->VK->Prop:=λ x vs H Q=>∃ l xs y,x=.ref l/\vs=[y]/\H l=some (.lst xs)/\xs.length<sizeLine/\Q .non (ae H l (.lst (xs ++ [y])))
theorem cn:Gw X "list.append" jD:=by
 intro pins s σ H x vs v us Q I rx rv h;obtain⟨l,xs,y,rfl,rfl,hH,hz,q⟩:=h;cases rx;obtain⟨u,rfl,ru⟩:=rv.one;obtain⟨z,its,n,r,hl,e⟩:=I.lstM hH;refine call_meets F.slot_list_append ⟨_,e,rfl⟩ F.entry_list_append (F.args_list_append_2 _ _) (PySem.list_append l its.toArray n u (by rw [List.size_toArray];omega)) ⟨e,?_⟩
 refine⟨.non,_,I.lset (its':=its ++ [u]) hH e (by simp) (r.append (.cons ru .nil)) ?_,rfl,q⟩
 rw [List.length_append,List.length_singleton];omega
def zN:R2:=λ x y H Q=>∃ l b xs zs,x=.ref l/\y=.ref b/\H l=some (.lst xs)/\H b=some (.lst zs)/\xs.length+zs.length<=sizeLine/\∀ p,H p=none->Q (.ref p) (ae H p (.lst (xs++zs)))
theorem xz:gL X (binaryOp .Add) zN:=by
 intro pins s σ H x y v u Q I rx ry h;obtain⟨l,b,xs,zs,rfl,rfl,hH,hB,hz,q⟩:=h;cases rx;cases ry;obtain⟨z,its,n,r,hl,e⟩:=I.lstM hH;obtain⟨z2,its2,n2,r2,hl2,e2⟩:=I.lstM hB;refine PySem.P.add_list e e2 ?_ (by rw [List.size_toArray,List.size_toArray];omega)
 have ea:its.toArray++its2.toArray=(its++its2).toArray:=by simp
 rw [ea];exact⟨.ref _,_,I.lnew (t':=s.toks) (r.append r2) (by rw [List.length_append];omega),rfl,q _ I.fresh⟩
end
section
variable {κ:Type} [DecidableEq κ]
def dI (kvs:List (κ × V))(k:κ):Option V:=(kvs.find? λ kv=>decide (kv.1=k)).map (·.2)
def ir (kvs:List (κ × V))(k:κ)(v:V):List (κ × V) :=
 if(kvs.any λ kv=>decide (kv.1=k))=true then kvs.map (λ kv=>if kv.1=k then(kv.1,v) else kv) else kvs ++ [(k,v)]
theorem bQ {p:κ × V}{r:List (κ × V)}{k:κ}(e:p.1=k):dI (p::r) k=some p.2:=by simp [dI,List.find?_cons,e]
theorem bP {p:κ × V}{r:List (κ × V)}{k:κ}(e:¬ p.1=k):dI (p::r) k=dI r k:=by simp [dI,List.find?_cons,e]
theorem ip (k:κ):∀ kvs:List (κ × V),(kvs.any λ kv=>decide (kv.1=k))=(dI kvs k).isSome
 | []=>rfl
 | p::r=>by
  rw [List.any_cons];by_cases e:p.1=k
  ·simp only [bQ e,decide_eq_true e,Bool.true_or,Option.isSome_some]
  ·rw [bP e,decide_eq_false e,Bool.false_or];exact ip k r
theorem kS (k j:κ)(y:V):∀ kvs:List (κ × V),dI (kvs.map λ kv=>if kv.1=k then(kv.1,y) else kv) j=(dI kvs j).map λ x=>if j=k then y else x
 | []=>rfl
 | p::r=>by
  have ih:=kS k j y r;rw [List.map_cons];by_cases h:p.1=k
  ·rw [if_pos h];by_cases e:p.1=j
   ·rw [bQ (p:=(p.1,y)) e,bQ e,Option.map_some,if_pos (e.symm.trans h)]
   ·rw [bP (p:=(p.1,y)) e,bP e,ih]
  ·rw [if_neg h];by_cases e:p.1=j
   ·rw [bQ (p:=p) e,bQ e,Option.map_some,if_neg (λ z=>h (e.trans z))]
   ·rw [bP (p:=p) e,bP e,ih]
theorem i5 (k j:κ)(y:V):∀ kvs:List (κ × V),dI kvs k=none->dI (kvs ++ [(k,y)]) j=if j=k then some y else dI kvs j
 | [],_=>by
  by_cases e:k=j
  ·rw [if_pos e.symm];exact bQ (p:=(k,y)) e
  ·rw [if_neg (λ z=>e z.symm)];exact bP (p:=(k,y)) e
 | p::r,hn=>by
  rw [List.cons_append];have hk:¬ p.1=k:=λ z=>by rw [bQ z] at hn;cases hn
  rw [bP hk] at hn;have ih:=i5 k j y r hn;by_cases e:p.1=j
  ·rw [bQ e,bQ e,if_neg (λ z=>hk (e.trans z))]
  ·rw [bP e,bP e,ih]
theorem qj (kvs:List (κ × V))(k j:κ)(y:V):dI (ir kvs k y) j=if j=k then some y else dI kvs j:=by
 unfold ir;by_cases a:(kvs.any λ kv=>decide (kv.1=k))=true
 ·rw [if_pos a,kS];rw [ip] at a;by_cases e:j=k
  ·obtain⟨x,hx⟩:=Option.isSome_iff_exists.mp a;rw [if_pos e,e,hx,Option.map_some,if_pos rfl]
  ·rw [if_neg e];cases dI kvs j with
   | none=>rfl
   | some x=>rw [Option.map_some,if_neg e]
 ·rw [if_neg a];refine i5 k j y kvs ?_;rw [ip] at a;cases q:dI kvs k with
  | none=>rfl
  | some x=>rw [q] at a;exact(a rfl).elim
theorem gN (kvs:List (κ × V))(k:κ)(v:V):(ir kvs k v).length<=kvs.length+1:=by
 unfold ir;split
 ·rw [List.length_map];omega
 ·rw [List.length_append,List.length_cons,List.length_nil];omega
theorem KV.val {kvs:List (κ × V)}{vs:List (κ × Value)}(r:KV kvs vs)(k:κ):RelO (dI kvs k) (valueAt vs k):=by
 unfold KV at r
 induction r with
 | nil=>exact True.intro
 | @cons p q ps qs h t ih =>
  obtain⟨h1,h2⟩:=h;by_cases e:p.1=k
  ·have e':q.1=k:=h1.symm.trans e;have b:valueAt (q::qs) k=some q.2:=by simp [valueAt,List.find?_cons,e']
   rw [bQ e,b];exact h2
  ·have e':¬ q.1=k:=λ z=>e (h1.trans z);have b:valueAt (q::qs) k=valueAt qs k:=by simp [valueAt,List.find?_cons,e']
   rw [bP e,b];exact ih
theorem KV.any {kvs:List (κ × V)}{vs:List (κ × Value)}(r:KV kvs vs)(k:κ):(kvs.any λ kv=>decide (kv.1=k))=vs.any λ kv=>decide (kv.1=k):=by
 unfold KV at r
 induction r with
 | nil=>rfl
 | cons h t ih=>rw [List.any_cons,List.any_cons,ih,h.1]
theorem KV.repl {kvs:List (κ × V)}{vs:List (κ × Value)}(r:KV kvs vs)(k:κ){y:V}{u:Value}(ry:RelV y u) :
  KV (kvs.map λ kv=>if kv.1=k then(kv.1,y) else kv) (vs.map λ kv=>if kv.1=k then(kv.1,u) else kv):=by
 unfold KV at r ⊢
 induction r with
 | nil=>exact .nil
 | @cons p q ps qs h t ih =>
  rw [List.map_cons,List.map_cons];refine .cons ?_ ih;obtain⟨h1,h2⟩:=h;by_cases e:p.1=k
  ·rw [if_pos e,if_pos (h1.symm.trans e)];exact⟨h1,ry⟩
  ·rw [if_neg e,if_neg (λ z=>e (h1.trans z))];exact⟨h1,h2⟩
theorem KV.put {kvs:List (κ × V)}{vs:List (κ × Value)}(r:KV kvs vs)(k:κ){y:V}{u:Value}(ry:RelV y u):KV (ir kvs k y) (stored vs k u):=by
 unfold ir stored;rw [r.any k];by_cases e:(vs.any λ kv=>decide (kv.1=k))=true
 ·rw [if_pos e,if_pos e];exact r.repl k ry
 ·rw [if_neg e,if_neg e];exact Paired.snoc r ⟨rfl,ry⟩
theorem KV.length {kvs:List (κ × V)}{vs:List (κ × Value)}(r:KV kvs vs):kvs.length=vs.length:=Paired.length r
end
theorem rL {P:Program}{w:World}{k:Key}{u:Value}(r:RelV (kV k) u):(bu P w).is k u=true:=by
 cases k with
 | inl i=>obtain⟨t,e⟩:=(show ∃ t,u=Value.int i t from r);subst e;exact k8 P w i t
 | inr x=>obtain⟨t,e⟩:=(show ∃ t,u=Value.str x t from r);subst e;exact kK P w x t
 | non=>cases (show u=Value.none from r);rfl
theorem jj {P:Program}{w:World}:∀{ks:List Key}{us:List Value},Vals (ks.map kV) us->ItemsAre (bu P w) ks us
 | [],_,r=>by rw [List.map_nil] at r;cases r;exact .nil
 | k::ks,_,r=>by
  rw [List.map_cons] at r;cases r with
  | cons h t=>exact .cons (rL h) (jj t)
abbrev KT (H:Hp):List (List Key × V)->List (List Key × Addr × Value)->Prop:=Paired λ p q=>p.1=q.1/\H q.2.1=some (.tup (p.1.map kV))/\RelV p.2 q.2.2
theorem KT.val {H:Hp}{kvs:List (List Key × V)}{xs:List (List Key × Addr × Value)}(r:KT H kvs xs)(k:List Key):RelO (dI kvs k) ((atKey xs k).map (·.2)):=by
 induction r with
 | nil=>exact True.intro
 | @cons p q ps qs h t ih =>
  obtain⟨h1,_,h2⟩:=h;by_cases e:p.1=k
  ·have e':q.1=k:=h1.symm.trans e;have b:atKey (q::qs) k=some q.2:=by simp [atKey,List.find?_cons,e']
   rw [bQ e,b];exact h2
  ·have e':¬ q.1=k:=λ z=>e (h1.trans z);have b:atKey (q::qs) k=atKey qs k:=by simp [atKey,List.find?_cons,e']
   rw [bP e,b];exact ih
section
variable {P:Program}{w:World}{H:Hp}{h:Heap}{a:Addr}
theorem vA {u:HO}(ok:HOk P w H h)(e:Rd H a u):ObjOk P w H h a u:=e.ok ok
theorem ql {kvs:List (Key × V)}(ok:HOk P w H h)(e:Rd H a (.dK kvs)):kvs.length<=sizeLine/\(a==sysModules)=false/\∃ vs,KV kvs vs/\h.DictOf (bu P w) a vs :=
 show ObjOk P w H h a (.dK kvs) from vA ok e
theorem Cu {kvs:List (Key × V)}(ok:HOk P w H h)(e:H a=some (.dK kvs)):kvs.length<=sizeLine/\(a==sysModules)=false/\∃ vs,KV kvs vs/\h.DictOf (bu P w) a vs:=ql ok (.inl e)
theorem rO {ks:List Key}(ok:HOk P w H h)(e:H a=some (.tup (ks.map kV))):(tupleKind (bu P w)).is h ks a:=by
 obtain⟨_,its,r,o,h1,h2,n,h3⟩:=(show ObjOk P w H h a (.tup (ks.map kV)) from ok a _ e);exact⟨o,its.toArray,n,h1,h2,h3,by simpa using jj r⟩
theorem vK {kvs:List (List Key × V)}(ok:HOk P w H h)(e:Rd H a (.dT kvs)):kvs.length<=sizeLine/\(a==sysModules)=false /\
  ∃ xs,KT H kvs xs/\h.DictOfH (tupleKind (bu P w)) a xs:=by
 obtain⟨z,y,xs,r,o,es,ep,h1,h2,h3,h4,h5⟩:=(show ObjOk P w H h a (.dT kvs) from vA ok e);refine⟨z,y,xs,r,o,es,ep,h1,h2,h3,h4,λ x hx=>?_,h5⟩;have all:∀{l:List (List Key × V)}{m:List (List Key × Addr × Value)},KT H l m->∀ x∈m,(tupleKind (bu P w)).is h x.1 x.2.1:=by
  intro l m q
  induction q with
  | nil=>intro x hx;exact nomatch hx
  | @cons p q ps qs hq t ih =>
   intro x hx;rcases List.mem_cons.mp hx with e | hx
   ·subst e;exact rO ok (by rw [<- hq.1];exact hq.2.1)
   ·exact ih x hx
 exact all r x hx
end
def DGet (H:Hp)(a:Addr)(y:V)(r:Option V):Prop :=
 (∃ kvs k,Rd H a (.dK kvs)/\y=kV k/\r=dI kvs k)\/∃ kvs k b,Rd H a (.dT kvs)/\y=.ref b/\H b=some (.tup (k.map kV))/\r=dI kvs k
theorem DGet.k {H:Hp}{a:Addr}{kvs:List (Key × V)}{k:Key}(e:H a=some (.dK kvs)):DGet H a (kV k) (dI kvs k):=.inl ⟨kvs,k,.inl e,rfl,rfl⟩
section
variable {X:Cx}{pins:List (Addr × Obj)}{σ:St}{H:Hp}{s:Shared}{a:Addr}{y v:V}{u r:Value}{o:Option V}{A:Around}{E:Value->Shared->Prop}
theorem Inv.big (I:Inv X pins σ H s):sysModules<s.heap.objs.size:=by
 have h:mainGlobals<s.heap.objs.size:=(I.mod.glob.keeps I.bk).lt;exact Nat.lt_trans (by decide) h
theorem oV {Q:Value->Shared->Prop}(hu:A.units+1<cLine)(I:Inv X pins σ H s)(g:DGet H a y (some v))(ry:RelV y u)(h:∀ w' s',Inv X pins σ H s'->RelV v w'->Q w' s') :
  wpAny (model X.prog X.w) A (getItem (.ref a) u) Q E s:=by
 rcases g with⟨kvs,k,e,ey,l⟩ | ⟨kvs,k,b,e,ey,eb,l⟩
 ·subst ey;obtain⟨z,hd,vs,rel,dd⟩:=ql I.hok e;obtain⟨w',hw,rw'⟩:=RelO.some_of (v:=v) (o:=valueAt vs k) (by rw [l];exact rel.val k)
  exact wpAny_getItem_of (rL ry) dd.mapOf hw (h w' _ (I.tok _) rw')
 ·subst ey;cases (show u=Value.ref b from ry);obtain⟨z,hd,xs,rel,dd⟩:=vK I.hok e;obtain⟨w',hw,rw'⟩:=RelO.some_of (v:=v) (o:=(atKey xs k).map (·.2)) (by rw [l];exact rel.val k)
  obtain⟨p,hp,hp2⟩:=Option.map_eq_some_iff.mp hw;refine wpAny_getItem_heap (tupleKind_room_in1 hu) (rO I.hok eb) dd hp ?_;rw [hp2];exact h w' _ (I.tok _) rw'
theorem uV {h':Heap}{t':Nat}{ob:HO}(I:Inv X pins σ H s)(mu:Cc (H a))(hs:Heap.SameBut a s.heap h')(he:∃ q,h'.get? a=some q)(new:ObjOk X.prog X.w (ae H a ob) h' a ob) :
  Inv X pins σ (ae H a ob) { s with heap:=h',toks:=t' } :=
 I.write (x:=a) (e:=a) mu (.inl rfl) (λ b q hb z=>(hs.2 b hb).trans z) he new
theorem Aa {P:Program}{w:World}{H':Hp}{h':Heap}{kvs:List (Key × V)}{vs:List (Key × Value)}(z:kvs.length<=sizeLine)(hd:(a==sysModules)=false)(rel:KV kvs vs)(dd:h'.DictOf (bu P w) a vs) :
  ObjOk P w H' h' a (.dK kvs):=⟨z,hd,vs,rel,dd⟩
end
def Dr (i:Expr):Prop:=∀ ov iv,subscripted i false ov iv=operate [ov,iv] (getItem ov iv)
theorem uf {prog:Program}{w:World}{A:Around}{E:Value->Shared->Prop}{s:Shared}{env:Env}{value slice:Expr}{pos:Pos}{T id:String}{Q:Value->Shared->Prop}
  (hl:typeLookup (.type T) "__getitem__" = pure (some (.builtin id)))(hs:Dr slice)
  (h:wpAny (model prog w) A (eval value env) (λ o s₁=>wpAny (model prog w) A (eval slice env) (λ i s₂=>s₂.TypeIs o T/\wpAny (model prog w) A (getItem o i) Q E s₂) E s₁) E s) :
  wpAny (model prog w) A (eval (.Subscript value slice pos) env) Q E s:=by
 refine Subscript_ (wpAny_mono h (λ o s₁ h₁=>wpAny_mono h₁ (λ i s₂ h₂=>?_) λ _ _ x=>x) λ _ _ x=>x);obtain⟨hT,h₂⟩:=h₂;unfold subscriptTail;refine wpAny_bind ?_;rw [getitemInPython_of_ne hT.not_modules];refine wpAny_bind (wpAny_specialOf hT hl ?_);have fin:wpAny (model prog w) A (subscripted slice false o i) (λ r s₃=>wpAny (model prog w) A (letTemporaryGo value o r >>= λ _=>pure r) Q E s₃) E s₂:=by
  rw [hs o i];exact wpAny_operating (wpAny_mono h₂ (λ r s₃ h₃=>wpAny_bind (wpAny_letTemporaryGo (wpAny_pure h₃))) λ _ _ x=>x)
 first
  | exact wpAny_pure (wpAny_bind fin)
  | exact wpAny_bind (wpAny_pure (wpAny_bind fin))
  | exact wpAny_bind fin
theorem kM {X:Cx}{pins:List (Addr × Obj)}{σ:St}{H:Hp}{s:Shared}{a:Addr}{y:V}{o:Option V}(I:Inv X pins σ H s)(g:DGet H a y o):s.TypeIs (.ref a) "dict" := by
 rcases g with⟨kvs,k,e,_,_⟩ | ⟨kvs,k,b,e,_,_,_⟩
 ·obtain⟨_,_,vs,_,dd⟩:=ql I.hok e;exact dd.typeIs
 ·obtain⟨_,_,xs,_,dd⟩:=vK I.hok e;exact dd.typeIs
def vR (td ty:TE):TE:=λ σ H Q=>td σ H λ x H1=>ty σ H1 λ y H2=>∃ a v,x=.ref a/\DGet H2 a y (some v)/\Q v H2
section
variable {X:Cx}{o i e value:Expr}{pos pos' tpos:Pos}{td ty tv:TE}
theorem sM (hu:X.A.units+1<cLine)(ho:PE X o td)(hi:PE X i ty)(hs:Dr i:=by exact λ _ _=>rfl):PE X (.Subscript o i pos) (vR td ty):=by
 intro pins s σ H Q I h;refine uf PySem.F.slot_dict_getitem.lookup hs (aK (ho pins s σ H _ I h) λ u s1 ⟨x,H1,I1,rx,q1⟩=>aK (hi pins s1 σ H1 _ I1 q1) λ iv s2 ⟨y,H2,I2,ry,a,v,ex,g,q2⟩=>?_);subst ex;obtain rfl:u=Value.ref a:=rx;exact⟨kM I2 g,oV hu I2 g ry λ w' s3 I3 rw'=>⟨v,H2,I3,rw',q2⟩⟩
end
theorem qZ {P:Program}{w:World}{H:Hp}(h:Heap)(hb:sysModules<h.objs.size):ObjOk P w H (h.push { cls:=.type "dict",data:=.dict #[] }) h.objs.size (.dK []) :=
 ⟨Nat.zero_le _,beq_eq_false_iff_ne.mpr (Ne.symm (Nat.ne_of_lt hb)),[],.nil,Heap.DictOf.new h⟩
structure M1 (X:Cx)(o:Expr)(m:Str)(apos:Pos)(e:Expr)(cpos:Pos):Prop where
 base:attributeBase o m X.env (eval o X.env)=eval o X.env
 few:((backTo cpos (starEach [e] X.env)).all (λ x=>!x.1)&&(backToKw cpos (keywordEach [] X.env)).all (λ x=>x.1.isSome)
  && decide (([e]:List Expr).length+([]:List Keyword).length+(if([]:List Keyword).isEmpty then 0 else 1)<30))=true
 line:(apos.endLine==cpos.line)=true
 trees:backTo cpos (starEach [e] X.env)=[(false,eval e X.env)]
structure M2 (X:Cx)(o:Expr)(m:Str)(apos:Pos)(e f:Expr)(cpos:Pos):Prop where
 base:attributeBase o m X.env (eval o X.env)=eval o X.env
 few:((backTo cpos (starEach [e,f] X.env)).all (λ x=>!x.1)&&(backToKw cpos (keywordEach [] X.env)).all (λ x=>x.1.isSome)
  && decide (([e,f]:List Expr).length+([]:List Keyword).length+(if([]:List Keyword).isEmpty then 0 else 1)<30))=true
 line:(apos.endLine==cpos.line)=true
 trees:backTo cpos (starEach [e,f] X.env)=[(false,eval e X.env),(false,eval f X.env)]
end L2
namespace Att
open PySem PySem.W PySem.Calls PyProof.Rows
theorem gV {P:Params}{h:Heap}:∀(ns:List Int)(vs:List Value),WellAll P h vs (ns.map WData.int)->IntsAre vs ns:=by
 intro ns
 induction ns with
 | nil =>
  intro vs w;rw [List.map_nil] at w;cases w;exact .nil
 | cons n ns ih =>
  intro vs w;rw [List.map_cons] at w;cases w with
  | cons a b =>
   cases a;exact .cons _ _ (ih _ b)
theorem pC {l:OpenLaw}{n:Nat}(hn:l.most=some n){P:Params}{h:Heap}{args:List WData}{vals:List Value}
  (hpre:l.row.toRowW.claim.pre args=true)(hwl:WellAll P h vals args) :
  ∃ a vs ns,vals=[Value.ref a]/\args=[WData.list (ns.map WData.int)]/\h.get? a=some { cls:=.type "list",data:=.seq vs.toArray }/\IntsAre vs ns/\ns.length<=n:=by
 have hsh:WShape.hasAll [] args [.list .int]=true:=(pre_splitW hpre).1;have hc:l.pre.holds [] { args:=args }=true:=(pre_splitW hpre).2;obtain⟨d,r,rfl,h1,h2⟩:=hasAllW_cons hsh;obtain rfl:=hasAllW_nil h2;obtain⟨xs,rfl,h3⟩:=hasW_list h1;obtain⟨ns,rfl⟩:=items_int h3;have hlen:ns.length<=n:=by
  unfold OpenLaw.pre at hc;have h4:(WTm.not (.lt (.lit (.int (n:Int))) (.len (.arg 0)))).holds [] { args:=[.list (ns.map .int)] }=true:=by
   have h4:=(holds_andW hc).1;rw [hn] at h4;exact h4
  have h5:=condW_of h4 (w_not (w_lt w_lit (w_len_list (w_arg rfl))));rw [List.length_map] at h5;refine Nat.le_of_not_lt λ q=>?_;have q':(n:Int)<((ns.length:Nat):Int):=by omega
  first
   | (rw [decide_eq_true q'] at h5;exact absurd h5 (by decide))
   | (simp at h5;omega)
 cases hwl with
 | cons w1 w2 =>
  cases w2;cases w1 with
  | list ho hall=>exact⟨_,_,ns,rfl,rfl,ho,gV ns _ hall,hlen⟩
theorem pD (l:OpenLaw)(args:List WData):l.row.toRowW.claim.post args (.bool true) args=true :=
 postW_of (r:=l.row.toRowW) (X:=(true==true))
  (show WShape.has [] (.bool true) .bool=true by first | rfl | decide | simp [WShape.has,WShape.arms,WShape.armsAll])
  (show(WTm.eq .res (.lit (.bool true))).value [] { args:=args,res:=some (.bool true),after:=args }=some (.bool (true==true)) from w_eq_bool (w_res rfl) w_lit) rfl
end Att
namespace L2
open PySem PySem.Spec PyProof.Rows
theorem gw:∀{vs:List Value}{ns:List Int},IntsAre vs ns->Vals (ns.map V.int) vs
 | _,_,.nil=>.nil
 | _,_,.cons n t h=>.cons ⟨t,rfl⟩ (gw h)
def yO (H:Hp):Prop:=∀ b,H b=none\/∃ o xs,H b=some (.frz o (.lst xs))
def ay (s:Stmt)(j:Nat):Stmt:=match s with
 | .ClassDef _ _ _ body _ _ _ _ _ _ _=>body.getD j (.Pass ⟨0,0,0,0⟩)
 | _=>.Pass ⟨0,0,0,0⟩
def br (s:Stmt):Arguments:=match s with
 | .FunctionDef _ a _ _ _ _ _ _ _ _=>a
 | _=>{ posonlyargs:=[],args:=[],vararg:=none,kwonlyargs:=[],kw_defaults:=[],kwarg:=none,defaults:=[] }
def ax (s:Stmt):List Stmt:=match s with
 | .FunctionDef _ _ b _ _ _ _ _ _ _=>b
 | _=>[]
def aa (s:Stmt):Scope:=match s with
 | .FunctionDef _ _ _ _ _ _ sc _ _ _=>sc
 | _=>{ kind:=.function,names:=[],isGenerator:=false,isCoroutine:=false }
abbrev aq:kr:=λ _ _ _ _ _ _=>False
abbrev E0:XK:=λ _ _ _=>False
theorem ah {X:Cx}:dm aq X E0:=λ _ _ _ _ _ _ _ h=>h.elim
structure Fun (K:PySem.W.Frag)(x qual:Str)(st:Stmt)(f:Addr)(fd:FuncData):Prop where
 ex:∃(oc:Value)(od:Option Addr)(kV doc pm:Value)(an:Option Addr)(cdv ct:Value)(osl:Array (Option Value)),
  fd=PySem.W.fnOf x qual (br st) (ax st) (aa st) .none kV doc pm an cdv ct/\K.lookup f=some ⟨oc,od,.func fd,osl⟩/\PySem.W.codeIn K cdv qual=true
 kp:PySem.W.keepIn K (.ref f)=true
section
variable {P:Program}{w:World}{K:PySem.W.Frag}{mg:Str->Option Value}{base:Heap}
theorem Fun.ok {x qual:Str}{st:Stmt}{f:Addr}{fd:FuncData}{N ps:List Str}{k:Nat}{sp:Sp}(F:Fun K x qual st f fd)(S:ad N ps (aa st))(len:∀ vs H Q E,sp vs H Q E->vs.length=ps.length)
  (hbody:∀(cdv:Value)(A:Around)(outer:List Env)(s:Shared)(H:Hp)(vs:List V)(Q:VK)(E:XK),Room k (A.deeper (envOfC qual (aa st) s.heap.objs.size f cdv))->sp vs H Q E ->
   ∃ t,PSs (aH aq P w K mg base N qual (aa st) f cdv A outer s H E).nox (ax st) t/\t { nx:=λ _ H'=>Q .non H',rt:=Q } (fX N vs) H):FnOk P w K mg base aq (k+1) f fd ps sp:=by
 obtain⟨oc,od,kV,doc,pm,an,cdv,ct,osl,rfl,lk,hcd⟩:=F.ex;refine vV lk hcd S len λ A outer s H vs Q E hr hsp=>?_;obtain⟨t,h,q⟩:=hbody cdv A outer s H vs Q E hr hsp;exact⟨t,h.nox,q⟩
theorem Fun.binds {x qual:Str}{st:Stmt}{f:Addr}{fd:FuncData}{ps:List Str}(F:Fun K x qual st f fd)
  (h:∀(kV doc pm:Value)(an:Option Addr)(cdv ct:Value)(us:List Value),us.length=ps.length->bindArgs (PySem.W.fnOf x qual (br st) (ax st) (aa st) .none kV doc pm an cdv ct) ⟨us,[]⟩=pure (ps.zip us)):Binds K fd ps []:=by
 obtain⟨oc,od,kV,doc,pm,an,cdv,ct,osl,rfl,lk,hcd⟩:=F.ex;exact .all (h kV doc pm an cdv ct)
theorem dF {x qual:Str}{st:Stmt}{f:Addr}{oc:Value}{od an:Option Addr}{osl:Array (Option Value)}{kV doc pm cdv ct:Value}(l:K.lookup f=some ⟨oc,od,.func (PySem.W.fnOf x qual (br st) (ax st) (aa st) .none kV doc pm an cdv ct),osl⟩)
  (c:PySem.W.codeIn K cdv qual=true)(k:PySem.W.keepIn K (.ref f)=true):Fun K x qual st f (PySem.W.fnOf x qual (br st) (ax st) (aa st) .none kV doc pm an cdv ct):=⟨⟨oc,od,kV,doc,pm,an,cdv,ct,osl,rfl,l,c⟩,k⟩
variable {X:Cx}
theorem pv (i:Nat){x:Str}{pos:Pos}(hN:X.N[i]?=some x:=by rfl)(hv:vn X.env.scope x:=by first | exact Or.inl rfl | exact Or.inr (Or.inl rfl) | exact Or.inr (Or.inr rfl))(hd:(x==("__debug__" : Str))=false:=by decide)
  (hcd:(x==("__classdict__" : Str))=false:=by decide):PE X (.Name x pos) (af i):=zR hN hv hd hcd
end
theorem nq {c A B:Prop} [Decidable c] (h1:c->A)(h2:¬ c->B):if c then A else B:=by
 by_cases h:c
 ·rw [if_pos h];exact h1 h
 ·rw [if_neg h];exact h2 h
end L2
set_option maxHeartbeats 4000000
namespace Att
open PySem PySem.W PySem.Calls PyProof.Rows
theorem mO {R:WRecords}{cl:Str->Option Addr}{h:Heap}{a:Addr}{ds:List WData}{as:List Addr}(r:ReadsAllW R cl h [.ref a] [.list ds] as):a∈as:=by
 cases r with
 | cons r1 r2 =>
  cases r1 with
  | list=>simp
theorem attach_callS {l:OpenLaw}{n:Nat}{q:Program}{loose:List Str}{XP:(Str->Option Value)->Heap->Prop}{YP:World->Heap->Prop}{d:DefRec}
  (hn:l.most=some n)(hdf:d.params.defaults=[])
  (call:∀(w:World)(s₀ s₁:Shared)(mg mb:Str->Option Value)(fa:Addr)(o:Obj)(pm cd doc:Value)(a:Addr)(vs:List Value)(ns:List Int),
   Ground q loose [] XP w s₀ mg mb s₁.heap->YP w s₁.heap ->
   s₁.heap.get? fa=some o->o.data=.func (docDef d.name d.params d.body d.scope pm cd doc)->s₁.heap.CodeRec cd d.name->mg d.name=some (.ref fa) ->
   s₁.heap.get? a=some { cls:=.type "list",data:=.seq vs.toArray }->IntsAre vs ns->ns.length<=n->s₁.gens = #[]->a≠sysModules ->
   codeAny (model l.prog w) callerA (.call (.ref fa) ⟨[.ref a],[]⟩) (λ r s'=>r=.ok (.ret (.bool true))/\OldK s₁.heap s'.heap/\s'.os=s₁.os/\AllBare s'.gens) s₁) :
  WalkO q loose XP YP l.row.toRowW d [] (λ f vs=>PySem.call f vs):=by
 intro w s₀ s₁ mg mb G Y fa o pm cd doc dV kV ho hd hcd hD hmg hg args vals as hpre hlay hrd hwl hlo;obtain rfl:dV=.none:=Dflts.none hD hdf;obtain rfl:kV=.none:=Dflts.noKw hD;obtain⟨a,vs,ns,rfl,rfl,hobj,hints,hlen⟩:=pC hn hpre hwl;have low:a≠sysModules:=beq_eq_false_iff_ne.mp (hlo a (mO hrd));refine enter_call (codeAny_mono (call w s₀ s₁ mg mb fa o pm cd doc a vs ns G Y ho (fd_plain hd) hcd hmg hobj hints hlen hg low) λ r s' hq=>?_);obtain⟨rfl,h2,h3,h4⟩:=hq;exact⟨.inl ⟨.bool true,.bool true,[],rfl,λ _=>rfl,.bool true,pD l _,λ _=>⟨List.Pairwise.nil,λ _ hm=>(nomatch hm)⟩⟩,h2,h3,h4⟩
end Att
namespace L2
open PySem PySem.Spec PyProof.Rows
theorem oZ {P:Program}{w:World}{K:PySem.W.Frag}{mg mb:Str->Option Value}{CX:kr}{k:Nat}{fa a:Addr}{fd:FuncData}{x:Str}{sp:Sp}{s₁:Shared}{vs:List Value}{ns:List Int}
  (KX:K.In s₁.heap)(hns:s₁.heap.Ns mainGlobals mg)(hb:s₁.heap.Ns builtinsNs mb)(hbb:∀ x:Str,x ≠ "__name__" -> mb x=bootBuiltins x)(hlim:s₁.heap.NoLimit)(hg:s₁.gens = #[])
  (ha:s₁.heap.get? a=some { cls:=.type "list",data:=.seq vs.toArray })(hi:IntsAre vs ns)(hl:ns.length<=sizeLine)(hr:Room k callerA)(low:a≠sysModules)
  (F:∀ base:Heap,K.In base->base.Ns mainGlobals mg->FnOk P w K mg base CX k fa fd [x] sp)(hbind:∀(s:Shared)(u:Value),BindsTo s fd ⟨[u],[]⟩ [(x,u)])
  (hsp:∀ H:Hp,yO H->SqL K H a (ns.map V.int)->H sysModules=none->sp [.ref a] H (λ v _=>v=.bl true) λ _ _ _=>False)
  (hCX:∀ H e s',CX [] H s₁ (λ _ _ _=>False) e s'->False) :
  codeAny (model P w) callerA (.call (.ref fa) ⟨[.ref a],[]⟩) (λ r s'=>r=.ok (.ret (.bool true))/\OldK s₁.heap s'.heap/\s'.os=s₁.os/\AllBare s'.gens) s₁:=by
 have rv:=gw hi;have lenV:=hi.length;have core:∀ H:Hp,yO H->SqL K H a (ns.map V.int)->HOk P w H s₁.heap->(∀ b,H b≠none->b=a)->(H a≠none->K.lookup a=none) ->
   codeAny (model P w) callerA (.call (.ref fa) ⟨[.ref a],[]⟩) (λ r s'=>r=.ok (.ret (.bool true))/\OldK s₁.heap s'.heap/\s'.os=s₁.os/\AllBare s'.gens) s₁:=by
  intro H hO hS hok hA hK;have hz:H sysModules=none:=by
   cases q:H sysModules with
   | none=>rfl
   | some u=>exact absurd (hA _ (by rw [q];simp)).symm low
  have base_of:∀{b:Addr}{o:Obj},s₁.heap.get? b=some o->H b=none->(jW s₁.heap H).get? b=some o:=λ e n=>qC e n;have noA:∀{b:Addr}{o:Obj}{es:Array DictEntry}{ep:Nat},s₁.heap.get? b=some o->o.data=.dict es ep->H b=none:=λ {b o es ep} e d=>by
   cases q:H b with
   | none=>rfl
   | some u =>
    have e':b=a:=hA b (by rw [q];simp)
    subst e';rw [ha] at e;cases e;have d':Data.seq vs.toArray _=Data.dict es ep:=d;cases d'
  have nsK:∀{b:Addr}{m:Str->Option Value},s₁.heap.Ns b m->(jW s₁.heap H).Ns b m:=λ {b m} ⟨o,es,ep,e,d,r⟩=>⟨o,es,ep,base_of e (noA e d),d,r⟩;have hKb:K.In (jW s₁.heap H):=λ b o e=>base_of (KX b o e) (by
   cases q:H b with
   | none=>rfl
   | some u =>
    have e':b=a:=hA b (by rw [q];simp)
    subst e';rw [hK (by rw [q];simp)] at e;cases e)
  have hM:Mod K mg (jW s₁.heap H):=⟨hKb,nsK hns,⟨mb,nsK hb,hbb⟩,let ⟨mc,h1,h2⟩:=hlim;⟨mc,nsK h1,h2⟩⟩
  have e0:Env0 P w K mg (jW s₁.heap H) callerA [] s₁ H:=⟨rfl,hM,λ b o e=>uC e,Nat.le_of_eq (oI _ _),trivial,λ b hb=>absurd (show b∈([]:List Addr) from hb) (by simp),hok,.of_eq hg⟩
  refine codeAny_mono ((F _ hKb (nsK hns)).run callerA [] s₁ H ⟨[.ref a],[]⟩ [.ref a] [.ref a] _ _ hr e0 (hbind s₁ (.ref a)) (.cons rfl .nil) (hsp H hO hS hz)) λ r s' h=>?_;cases r with
  | error e=>exact(hCX H e s' h).elim
  | ok fl =>
   cases fl with
   | next=>exact False.elim h
   | brk=>exact False.elim h
   | cont=>exact False.elim h
   | ret u =>
    obtain⟨v,H',os,bare,un,hok',r',q⟩:=h;have q':v=.bl true:=q;subst q';obtain rfl:u=Value.bool true:=r';refine⟨rfl,OldK.of_keep λ b o e=>?_,os,bare⟩;cases q:H b with
    | none=>exact un.keep b o e q (by intro z;exact absurd (show b∈([]:List Addr) from z) (by simp)) (by simp)
    | some u =>
     rcases hO b with z | ⟨ob,xs,z⟩
     ·rw [q] at z;cases z
     ·have z2:=un.frzs b ob _ z;obtain⟨e1,_⟩:=hok b _ z;obtain⟨e2,_⟩:=hok' b _ z2;rw [e] at e1;cases e1;exact e2
 cases hk:K.lookup a with
 | some o =>
  have e:=KX a o hk;rw [ha] at e;cases e;refine core (λ _=>none) (λ _=>.inl rfl) (.inr ⟨_,vs.toArray,_,hk,rfl,rfl,rfl,by rw [List.size_toArray,lenV];exact hl,by simpa using rv⟩) (λ b u z=>by have z':(none:Option HO)=some u:=z;cases z') (λ b z=>absurd rfl z) λ z=>absurd rfl z
 | none =>
  refine core (λ b=>if b=a then some (.frz { cls:=.type "list",data:=.seq vs.toArray } (.lst (ns.map V.int))) else none) (λ b=>?_) (.inl (.inr ⟨{ cls:=.type "list",data:=.seq vs.toArray },if_pos rfl⟩)) (λ b u z=>?_) (λ b z=>?_) λ _=>hk
  ·by_cases hb:b=a
   ·exact .inr ⟨_,_,if_pos hb⟩
   ·exact .inl (if_neg hb)
  ·by_cases hb:b=a
   ·have z':=(if_pos hb).symm.trans z;cases z';subst hb;exact⟨ha,by rw [List.length_map];exact hl,vs,_,rv,ha⟩
   ·have z':=(if_neg hb).symm.trans z;cases z'
  ·by_cases hb:b=a
   ·exact hb
   ·exact absurd (if_neg hb) z
theorem walk_ofS {l:PySem.W.OpenLaw}{n k:Nat}{q:Program}{loose:List Str}{XP:(Str->Option Value)->Heap->Prop}{YP:World->Heap->Prop}{d:DefRec}{K:Params->PySem.W.Frag}{CX:World->kr}{sp:World->Sp}{x:Str}
  (hn:l.most=some n)(hn2:n<=sizeLine)(hdf:d.params.defaults=[])(hr:Room k callerA)
  (hY:∀(w:World)(h:Heap),YP w h->(K w.params).In h)
  (F:∀(w:World)(mg:Str->Option Value)(fa:Addr)(h:Heap),(K w.params).In h->h.Ns mainGlobals mg->mg d.name=some (.ref fa) ->
   ∃ fd:FuncData,(∀(s:Shared)(u:Value),BindsTo s fd ⟨[u],[]⟩ [(x,u)]) /\
    ∀ base:Heap,(K w.params).In base->base.Ns mainGlobals mg->FnOk l.prog w (K w.params) mg base (CX w) k fa fd [x] (sp w))
  (hsp:∀(w:World)(H:Hp)(a:Addr)(ns:List Int),ns.length<=n->yO H->SqL (K w.params) H a (ns.map V.int)->H sysModules=none->sp w [.ref a] H (λ v _=>v=.bl true) λ _ _ _=>False)
  (hCX:∀(w:World)(H:Hp)(s:Shared)(e:Value)(s':Shared),CX w [] H s (λ _ _ _=>False) e s'->False) :
  PySem.W.WalkO q loose XP YP l.row.toRowW d [] (λ f vs=>PySem.call f vs):=by
 refine Att.attach_callS hn hdf λ w s₀ s₁ mg mb fa o pm cd doc a vs ns G Y ho hd hcd hmg hobj hints hlen hg low=>?_;have KX:=hY w _ Y;obtain⟨fd,hb,hF⟩:=F w mg fa _ KX G.T.g hmg;exact oZ KX G.T.g G.T.b G.T.builtins G.T.nolimit hg hobj hints (Nat.le_trans hlen hn2) hr low hF hb (λ H hO hS hz=>hsp w H a ns hlen hO hS hz) λ H e s'=>hCX w H s₁ e s'
end L2
namespace My
open PySem L2
def bR (i:Nat):Stmt:=PySem.Challenge.pw_trialdeal_k17_whole_wins_between_hands.main.body.getD i (.Pass ⟨0,0,0,0⟩)
end My
namespace My
open PySem
section
variable {prog:Program}{w:World}{A:Around}{h:Heap}{g:Array GenState}{d:Drawn}{tk:Nat}{os:OsState}{C N e t0:Addr}
variable {nm q:Str}{bs bm bmB:List Value}{hdct ab:Bool}{sn:List Str}{sub:List Value}{col:Option Bool}{dd:Option Addr}
variable {k0 k1 k2 k3 k5:Option Value}{B newId initId:String}
abbrev dU (C t:Addr):Obj:={ cls:=.ref C,data:=.fields #[.ref t,.none,.none,.none,.bool false,.none] }
theorem yg {R:Result->Shared->Prop}{v:Value}(F:ExcBaseFacts B newId initId bmB)(T:OwnTail h bmB bm)
  (hC:h.get? C=some (excClassObj nm q C N bs bm hdct sn sub ab col dd k0 k1 k2 k3 k5 newId))(he:h.get? e=some (dU C t0))
  (hR:∀ h',h'.get? e=some (dU C h.objs.size)->(∀ b o,b≠e->h.get? b=some o->h'.get? b=some o)->R (.ok (.ret .none)) ⟨h',g,d,tk,os⟩) :
  codeAny (model prog w) A (.call (.builtin initId) ⟨[.ref e,v],[]⟩) R ⟨h,g,d,tk,os⟩:=by
 refine codeAny_call_builtin F.init.plain F.initEntry (wpAny_check_init_subT F T hC he rfl ?_)
 wp_walk
 refine hR _ ?_ λ b o hb eb=>?_
 ·exact Heap.get?_update_self _ (Heap.get?_push_of_some _ he) rfl
 ·exact(Heap.get?_update_ne _ _ _ _ hb).trans (Heap.get?_push_of_some _ eb)
end
end My
namespace My
open PySem PySem.W Builtin Builtin.ObjectAttr
section
variable {prog:Program}{w:World}{A:Around}{s:Shared}{K:Frag}{C x:Addr}
theorem vd {R:Result->Shared->Prop}{ox:Obj}{od:Option Obj}{name:Str}{tk:Tok}{v:Value}{cd:ClassData}(X:K.In s.heap)(I:InstAt s.heap x ox C od)
  (hc:clsIn K C=some cd)(hp:refuseLoop (.ref x) "__setattr__" cd.mro=pure ())(hm0:mroIn K C (.type "object")=some true)(ht:takerIn K C name=some none)
  (h:∀ b,wpAny (model prog w) A.in1 (storeInOwnDict (.ref x) (.ref C) (.str name tk) name v b)
   (λ fin s'=>match fin with | .done f=>R (.ok f) s' | .again c'=>c'.quiet=true/\codeAny (model prog w) A c' R s') (λ e s'=>R (.error e) s') s) :
  codeAny (model prog w) A (.call (.builtin "object.__setattr__") ⟨[.ref x,.str name tk,v],[]⟩) R s:=by
 have SF:=PySem.F.store_object;have sub:Looks (model prog w) s.heap (isInstance (.ref x) (.type "object")) true:=I.type.andThen (looks_mroIn X hm0);refine codeAny_call_builtin SF.slot.plain SF.entry (@check_slot (model prog w) _ _ s "object.__setattr__" "object" "__setattr__" (.ref x) [.str name tk,v] [] _ SF.kind SF.split sub (SF.args _ _ _) ?_);obtain⟨attr,ha,hr⟩:=Option.bind_eq_some_iff.mp ht;have hm:Looks (model prog w) s.heap (mroOf (.ref C)) cd.mro:=(looks_clsIn X hc).andThen .now;have L3:Looks (model prog w) s.heap (storeTaker? attr) none:=by
  cases attr with
  | none=>exact .now
  | some a =>
   obtain⟨b,hb,e⟩:=Option.map_eq_some_iff.mp hr;refine(looks_takesIn X hb).andThen ?_;cases b
   ·exact .now
   ·cases e
 rw [osa_eq,refuse_eq];refine wpAny_bind (wpAny_bind (I.type.here (wpAny_bind (hm.here ?_))));rw [hp];refine wpAny_pure (wpAny_bind (I.type.here (wpAny_bind ((looks_findIn X ha).here (wpAny_bind (L3.here ?_))))));exact h _
variable {E:Value->Shared->Prop}
theorem vY {fs:Array Value}{sl:Array (Option Value)}{name:Str}{v:Value}{cd:ClassData}{Q:Unit->Shared->Prop}(X:K.In s.heap)(hx:s.heap.get? x=some ⟨.ref C,none,.fields fs,sl⟩)
  (hs:findIn K (.ref C) "__setattr__" = some (some (.builtin "object.__setattr__")))(hc:clsIn K C=some cd)(hd:cd.hasDict=true)
  (hp:refuseLoop (.ref x) "__setattr__" cd.mro=pure ())(hm0:mroIn K C (.type "object")=some true)(ht:takerIn K C name=some none)
  (h:∀ h' tk,h'.get? x=some ⟨.ref C,some s.heap.objs.size,.fields fs,sl⟩->h'.Ns1 s.heap.objs.size (λ y=>if y=name then some v else none) ->
   (∀ b o,b≠x->s.heap.get? b=some o->h'.get? b=some o)->Q () { s with heap:=h',toks:=tk }):wpAny (model prog w) A (setAttr (.ref x) name v) Q E s:=by
 have J:InstAt s.heap x ⟨.ref C,none,.fields fs,sl⟩ C none:=⟨hx,rfl,rfl,True.intro⟩;refine set_plain X J hs (vd (s:={ s with toks:=s.toks+1 }) X J hc hp hm0 ht λ b=>?_)
 refine wpAny_bind (wpAny_pure (wpAny_bind (wpAny_bind (wpAny_loadPart hx (wpAny_bind (Looks.here (s:={ s with toks:=s.toks+1 }) (looks_clsIn X hc) ?_))))))
 rw [hd];have hx1:(s.heap.push { cls:=.type "dict",data:=.dict #[] }).get? x=some ⟨.ref C,none,.fields fs,sl⟩:=Heap.get?_push_of_some _ hx;have hxs:x≠s.heap.objs.size:=Nat.ne_of_lt (Heap.lt_size hx);refine wpAny_bind (wpAny_alloc' ?_);refine wpAny_bind (wpAny_update' hx1 ?_);refine wpAny_pure ?_;generalize eU:((s.heap.push { cls:=.type "dict",data:=.dict #[] }).update x λ o=>{ cls:=o.cls,dict:=some s.heap.objs.size,data:=o.data,slots:=o.slots }:Heap)=hU;have gd:hU.get? s.heap.objs.size=some { cls:=.type "dict",data:=.dict #[] }:=by
  rw [<- eU];exact(Heap.get?_update_ne _ _ _ _ hxs.symm).trans (Heap.get?_push_at rfl rfl)
 have gx:hU.get? x=some ⟨.ref C,some s.heap.objs.size,.fields fs,sl⟩:=by
  rw [<- eU];exact Heap.get?_update_self _ hx1 rfl
 have nd:hU.Ns s.heap.objs.size (λ _=>none):=⟨_,#[],_,gd,rfl,λ e he=>absurd he (by simp),λ _=>rfl⟩
 show wpAny _ _ (storeInDict s.heap.objs.size (.str name _) name v) _ _ _;unfold storeInDict newKeyGuard;refine wpAny_bind (wpAny_pure (wpAny_bind (wpAny_nsSet1 (Heap.Ns1.of_empty nd) λ h' hn' hsb=>?_)));obtain⟨oD,esD,epD,hoD,hdD,hcD⟩:=hn'.count (Within.cons name v Within.nil);refine wpAny_bind (wpAny_lookBehind hoD (by
  rw [hdD];exact pastItsLine_dict (Nat.le_trans hcD (by rw [List.length_cons,List.length_nil,sizeLine_eq];omega))) ?_)
 refine wpAny_pure ?_;refine h h' _ ((hsb.2 x hxs).trans gx) hn' λ b o hb e=>?_;refine(hsb.2 b (Nat.ne_of_lt (Heap.lt_size e))).trans ?_;rw [<- eU];exact(Heap.get?_update_ne _ _ _ _ hb).trans (Heap.get?_push_of_some _ e)
variable {dx:Addr}
abbrev vq:String:="BaseException.__getattribute__"
end
end My
namespace My
open PySem PySem.W
section
variable {prog:Program}{w:World}{A:Around}{E:Value->Shared->Prop}{h:Heap}{g:Array GenState}
variable {d:Drawn}{t:Nat}{os:OsState}{nm q:Str}{C N:Addr}{bs bm bmB:List Value}{hdct ab:Bool}
variable {sn:List Str}{sub:List Value}{col:Option Bool}{dd:Option Addr}
variable {k0 k1 k2 k3 k5:Option Value}{B newId initId:String}{K:Frag}
abbrev gG (vs:List Value):Obj:={ cls:=.type "tuple",data:=.seq vs.toArray }
theorem wy (X:K.In h)(F:ExcBaseFacts B newId initId bmB)(T:OwnTail h bmB bm){rest:List Value}
  {fI:Addr}{Q:Fin->Shared->Prop}
  (hC:h.get? C=some (excClassObj nm q C N bs bm hdct sn sub ab col dd k0 k1 k2 k3 k5 newId))
  (hi:findIn K (.ref C) "__init__" = some (some (.ref fI)))(hfI:typeIn K (.ref fI)=some (.type "function"))
  (hq:wpAny (model prog w) A (call (.ref fI) (.ref (h.objs.size+1)::rest))
   (λ r s'=>r=.none/\Q (.done (.ret (.ref (h.objs.size+1)))) s') E ⟨(h.push (gG rest)).push (dU C h.objs.size),g,d,t,os⟩)
  (hrest:rest.length<=sizeLine) :
  wpAny (model prog w) A (Builtin.«type.__call__» ⟨.ref C::rest,[]⟩) Q E ⟨h,g,d,t,os⟩:=by
 repeat (first
  | with_reducible refine wpAny_loadPart_at hC ?_
  | with_reducible refine wpAny_madeBy_exc hC ?_
  | wp_step)
 refine codeAny_call_builtin_code (Code.quiet_builtin _ F.quiet) (wpAny_check_new_subT F T hC ?_);refine codeAny_exc_new_subT F T hC ?_ hrest;show wpAny _ _ _ _ _ _;have up:∀ b o,h.get? b=some o->((h.push (gG rest)).push (dU C h.objs.size)).get? b=some o :=
  λ b o e=>Heap.get?_push_of_some _ (Heap.get?_push_of_some _ e)
 have hC1:=up _ _ hC;have X1:K.In ((h.push (gG rest)).push (dU C h.objs.size)):=X.keeps up;have hg1:((h.push (gG rest)).push (dU C h.objs.size)).get? (h.objs.size+1)=some (dU C h.objs.size):=by heap_get
 have hcC:(Value.ref C::bm).contains (.ref C)=true:=by simp
 unfold isInstance
 repeat (first
  | with_reducible refine wpAny_loadPart_at hg1 ?_
  | (with_reducible refine wpAny_isSubtype_exc hC1 ?_;rw [hcC])
  | wp_step)
 show wpAny _ _ (typeLookup (.ref C) _) _ _ _;refine Looks.here (s:=⟨(h.push (gG rest)).push (dU C h.objs.size),g,d,t,os⟩) (looks_findIn X1 hi) ?_;refine wpAny_holding (wpAny_bind ?_);unfold bindSpecial;refine wpAny_bind (Looks.here (s:=⟨(h.push (gG rest)).push (dU C h.objs.size),g,d,t,os⟩) (looks_typeIn X1 hfI) ?_);rw [if_pos (by decide)]
 refine wpAny_pure (wpAny_bind (wpAny_mono hq (λ r s' hr=>?_) λ _ _ x=>x));obtain⟨rfl,hQ⟩:=hr
 wp_walk
 exact hQ
theorem CZ (X:K.In h)(F:ExcBaseFacts B newId initId bmB)(T:OwnTail h bmB bm){rest:List Value}
  {fI:Addr}{Q:Value->Shared->Prop}
  (hC:h.get? C=some (excClassObj nm q C N bs bm hdct sn sub ab col dd k0 k1 k2 k3 k5 newId))
  (hi:findIn K (.ref C) "__init__" = some (some (.ref fI)))(hfI:typeIn K (.ref fI)=some (.type "function"))
  (hq:wpAny (model prog w) (A.under (.builtin "type.__call__" ⟨.ref C::rest,[]⟩))
   (call (.ref fI) (.ref (h.objs.size+1)::rest)) (λ r s'=>r=.none/\Q (.ref (h.objs.size+1)) s') E ⟨(h.push (gG rest)).push (dU C h.objs.size),g,d,t,os⟩)
  (hrest:rest.length<=sizeLine):wpAny (model prog w) A (call (.ref C) rest) Q E ⟨h,g,d,t,os⟩:=by
 have f1:=tc_lookup;have f2:=tc_bind (.ref C);have hT:Shared.TypeIs ⟨h,g,d,t,os⟩ (.ref C) "type" :=⟨_,hC,rfl⟩;refine wpAny_call (codeAny_of_tree ?_);show wpAny _ _ (callAny (.ref C) _) _ _ _
 repeat (any_goals (first
  | assumption
  | with_reducible refine wpAny_loadPart_at hC ?_
  | wp_step))
 refine⟨rfl,?_⟩;refine codeAny_call_builtin_at (Code.quiet_builtin _ (by decide +kernel)) entry_typeCall (wpAny_check_type_call_sub hC ?_)
 exact wy X F T hC hi hfI hq hrest
variable {s:Shared}{x:Addr}{ox:Obj}{od:Option Obj}
theorem rf {a g:Value}{name:Str}(hc:(clsIn K C).isSome=true)(ha:findIn K (.ref C) name=some (some a))(hg:specialIn K a "__get__" = some (some g))(ht:takesIn K a=some true):findObj K C od name=some (.bind g a):=by
 obtain⟨cd,hc⟩:=Option.isSome_iff_exists.mp hc;unfold findObj;rw [hc,Option.bind_some,ha,Option.bind_some];simp [hg,ht]
theorem uB {R:Result->Shared->Prop}{name:Str}{tk:Tok}{a g:Value}(X:K.In s.heap)(I:InstAt s.heap x ox C od)
  (hm0:mroIn K C (.type "BaseException")=some true)(hf:findObj K C od name=some (.bind g a))
  (h:wpAny (model prog w) A.in1 (call g [a,.ref x,.ref C]) (λ v s'=>R (.ok (.ret v)) s') (λ e s'=>R (.error e) s') s) :
  codeAny (model prog w) A (.call (.builtin vq) ⟨[.ref x,.str name tk],[]⟩) R s:=by
 have sub:Looks (model prog w) s.heap (isInstance (.ref x) (.type "BaseException")) true:=I.type.andThen (looks_mroIn X hm0);have L1:=looks_find (M:=model prog w) X I hf;refine codeAny_call_builtin PySem.F.excAttr_ValueError.ga.plain PySem.F.entry_bexc_ga (@check_slot (model prog w) _ _ s vq "BaseException" "__getattribute__" (.ref x) [.str name tk] [] _ (by decide +kernel) (by decide +kernel) sub (PySem.F.args_bexc_ga _ _) ?_)
 refine wpAny_bind (wpAny_pure (wpAny_bind (wpAny_pure (wpAny_bind (I.type.here (wpAny_bind (L1.here ?_)))))));show wpAny _ _ (holding [a] (call g [a,.ref x,.ref C])>>=ret) _ _ _;exact wpAny_bind (wpAny_holding (wpAny_mono h (λ v s' z=>wpAny_pure z) λ _ _ z=>z))
structure pE (K:Frag)(C:Addr):Prop where
 cls:(clsIn K C).isSome=true
 ga:findIn K (.ref C) "__getattribute__" = some (some (.builtin vq))
 hk:findIn K (.ref C) "__getattr__" = some none
 mb:mroIn K C (.type "BaseException")=some true
 mo:mroIn K C (.type "object")=some true
 ca:findIn K (.ref C) "__class__" = some (some (.builtin "object.__class__"))
theorem re {Q:Option Value->Shared->Prop}(T:pE K C)(hn:specialIn K (.builtin "object.__class__") "__get__" = some (some (.builtin "getset_descriptor.__get__")))(htk:takesIn K (.builtin "object.__class__")=some true)
  (X:K.In s.heap)(I:InstAt s.heap x ox C od)(h:Q (some (.ref C)) { s with toks:=s.toks+1 }):wpAny (model prog w) A (getAttr? (.ref x) "__class__") Q E s:=by
 have hf:findObj K C od "__class__" = some (.bind (.builtin "getset_descriptor.__get__") (.builtin "object.__class__")):=rf T.cls T.ca hn htk;have L0:=I.type (M:=model prog w);have L1:=looks_findIn (M:=model prog w) X T.ga;have L2:=looks_findIn (M:=model prog w) X T.hk;have f3:=PySem.F.excAttr_ValueError.ga.bind (.ref x);unfold getAttr? getAttrBy? getAttrBy;refine wpAny_bind (wpAny_mkText (wpAny_bind (wpAny_attempt (wpAny_holding (wpAny_bind (Looks.here (s:={ s with toks:=s.toks+1 }) L0 (wpAny_bind (Looks.here (s:={ s with toks:=s.toks+1 }) L1 ?_))))))))
 have hx1:(onTheHeap (Value.ref C)&&Value.builtin vq==Value.builtin "object.__getattribute__")=false:=by
  rw [show(Value.builtin vq==Value.builtin "object.__getattribute__")=false from by decide +kernel]
  rfl
 show wpAny _ _ (if(onTheHeap (Value.ref C)&&Value.builtin vq==Value.builtin "object.__getattribute__")=true then _ else _) _ _ _
 rw [if_neg (by rw [hx1];decide)]
 unfold getAttrByItsOwn;refine wpAny_bind ?_;show wpAny _ _ (typeLookup (.ref C) "__getattr__") _ _ _;refine Looks.here (s:={ s with toks:=s.toks+1 }) L2 ?_
 refine wpAny_bind (wpAny_attempt (wpAny_holding ?_));unfold callGetattribute;rw [if_neg (by decide)]
 unfold boundAndCalled;rw [f3];refine wpAny_bind (wpAny_pure ?_);refine wpAny_call (uB (s:={ s with toks:=s.toks+1 }) X I T.mb hf ?_)
 refine wpAny_call (class_get (s:={ s with toks:=s.toks+1 }) (ox:=ox) (od:=od) X I T.mo ?_)
 show wpAny _ _ (handedOut (.ref C)) _ _ _;rw [handedOut_of rfl];exact wpAny_pure (wpAny_pure h)
theorem rM (T:pE K C)(hn:specialIn K (.builtin "object.__class__") "__get__" = some (some (.builtin "getset_descriptor.__get__")))(htk:takesIn K (.builtin "object.__class__")=some true) :
  KitX K (.ref x) (.ref C) (λ h=>∃ ox od,InstAt h x ox C od) where
 ty:=λ _ _ _ ⟨_,_,I⟩=>I.type
 it:=λ _ _ X _=>by
  obtain⟨cdD,hcD⟩:=Option.isSome_iff_exists.mp T.cls;unfold clsIn at hcD;split at hcD
  ·rename_i c' d' cd' sl' ho
   intro A' Q' E' s' k q;unfold isType loadHead;exact wpAny_bind (wpAny_loadPart (k _ _ (X _ _ ho)) (wpAny_pure q))
  ·cases hcD
 ne:=λ h tp dd its n sl X htp=>by
  obtain⟨cdD,hcD⟩:=Option.isSome_iff_exists.mp T.cls;refine Bool.eq_false_iff.mpr λ q=>?_;have e:C=tp:=Value.ref.inj (beq_iff_eq.mp q);subst e;unfold clsIn at hcD;split at hcD
  ·rename_i c' d' cd' sl' ho
   have z:=(X _ _ ho).symm.trans htp;cases z
  ·cases hcD
 ca:=λ X ⟨_,_,I⟩ k=>re T hn htk X I k
end
end My
namespace My
open PySem PySem.W L2
abbrev pA:List Value:=[.type "ValueError",.type "Exception",.type "BaseException",.type "object"]
abbrev iZ (C:Addr)(d:Option Addr)(t:Addr):Obj:={ cls:=.ref C,dict:=d,data:=.fields #[.ref t,.none,.none,.none,.bool false,.none] }
def dD (x C:Addr)(d:Option Addr):HO:=.ext λ h=>∃ t,h.get? x=some (iZ C d t)
theorem jA {P:Program}{w:World}{H:Hp}{h:Heap}{x C:Addr}{d:Option Addr}{t:Addr}(e:h.get? x=some (iZ C d t)):ObjOk P w H h x (dD x C d) :=
 ⟨⟨t,e⟩,⟨_,e⟩,λ _ _ ⟨t',e'⟩ k=>⟨t',k _ e'⟩⟩
theorem gi {P:Program}{w:World}{H:Hp}{h:Heap}{x C:Addr}{d:Option Addr}(ok:HOk P w H h)(e:H x=some (dD x C d)):∃ t,h.get? x=some (iZ C d t):=(ok x _ e).1
theorem pY {H:Hp}{a:Addr}{o:HO}(h:H a=some o):ae H a o=H:=by
 funext b
 unfold ae;split
 ·rename_i e;rw [e,h]
 ·rfl
structure BaseC (K:Frag)(D:Addr):Prop where
 cls:∃ nm q N bs sn sub ab col dd k0 k1 k2 k3 k5,K.lookup D=some (excClassObj nm q D N bs pA true sn sub ab col dd k0 k1 k2 k3 k5 "ValueError.__new__") /\
    ∃ o es ep,K.lookup N=some o/\o.data=.dict es ep/\StrKeys es/\nsFind es "__init__" = none
 ga:specialIn K (.ref D) "__getattribute__" = some (some (.builtin "type.__getattribute__"))
 reads:readsIn K D (.type "type")=true
 ini:findCls K (.ref D) (.type "type") "__init__" = some (.val (.builtin "ValueError.__init__"))
 fi:findIn K (.ref D) "__init__" = some (some (.builtin "ValueError.__init__"))
 kp:keepIn K (.ref D)=true
 it:pE K D
theorem BaseC.tail {K:Frag}{D:Addr}(B:BaseC K D){h:Heap}(X:K.In h):OwnTail h pA (.ref D::pA):=by
 obtain⟨nm,q,N,bs,sn,sub,ab,col,dd,k0,k1,k2,k3,k5,l,o,es,ep,lN,hd,hs,hn⟩:=B.cls;exact .own (X _ _ l) ⟨o,es,ep,X _ _ lN,hd,hs,λ _=>rfl⟩ hn .base
structure ErrC (K:Frag)(D:Addr)(nm:Str)(C f:Addr):Prop where
 cls:∃ q N bs sn sub ab col dd k0 k1 k2 k3 k5,K.lookup C=some (excClassObj nm q C N bs (.ref D::pA) true sn sub ab col dd k0 k1 k2 k3 k5 "ValueError.__new__")
 init:findIn K (.ref C) "__init__" = some (some (.ref f))
 fn:typeIn K (.ref f)=some (.type "function")
 kp:keepIn K (.ref C)=true
 sa:findIn K (.ref C) "__setattr__" = some (some (.builtin "object.__setattr__"))
 it:pE K C
theorem ErrC.clsIn {K:Frag}{D C f:Addr}{nm:Str}(T:ErrC K D nm C f):∃ cd,PySem.W.clsIn K C=some cd/\cd.hasDict=true/\cd.mro=.ref C :: .ref D::pA:=by
 obtain⟨q,N,bs,sn,sub,ab,col,dd,k0,k1,k2,k3,k5,l⟩:=T.cls;unfold PySem.W.clsIn;rw [l];exact⟨_,rfl,rfl,rfl⟩
theorem ErrC.refuse {K:Frag}{D C f:Addr}{nm:Str}(T:ErrC K D nm C f)(x:Addr):∃ cd,PySem.W.clsIn K C=some cd/\cd.hasDict=true/\refuseLoop (.ref x) "__setattr__" cd.mro=pure ():=by
 obtain⟨cd,h1,h2,h3⟩:=T.clsIn;refine⟨cd,h1,h2,?_⟩;rw [h3,refuseLoop_ref,refuseLoop_ref];exact PySem.F.store_ValueError.passes _
section
variable {X:Cx}{pins:List (Addr × Obj)}{σ:St}{H:Hp}{s:Shared}
def lM (C:Addr)(fld:Str):Sp:=λ vs H Q _=>∃ x v,vs=[.ref x,v]/\H x=some (dD x C none)/\∀ dx,H dx=none->dx≠x->Q .non (ae (ae H dx (.xd [(fld,v)])) x (dD x C (some dx)))
def CL (C:Addr)(fld:Str)(te:TE):TE:=λ σ H Q=>te σ H λ v H1=>∀ x dx,H1 x=none->H1 dx=none->dx≠x->Q (.ref x) (ae (ae H1 dx (.xd [(fld,v)])) x (dD x C (some dx)))
theorem DZ {H:Hp}{x dx:Addr}{a b c:HO}(n:dx≠x):ae (ae (ae H x a) dx b) x c=ae (ae H dx b) x c:=by
 funext z
 unfold ae;by_cases h1:z=x
 ·rw [if_pos h1,if_pos h1]
 ·rw [if_neg h1,if_neg h1];by_cases h2:z=dx
  ·rw [if_pos h2,if_neg h1]
  ·rw [if_neg h2,if_neg h1]
theorem rC {D C f:Addr}{nm fld:Str}{k:Nat}{fd:FuncData}{ps:List Str}{u:Value}{v:V}{Q:VK}(B:BaseC X.K D)(T:ErrC X.K D nm C f)(F:FnOk X.prog X.w X.K X.mg X.base aq k f fd ps (lM C fld))(hr:Room (k+1) X.A)(hb:Binds X.K fd ps [])
  (I:Inv X pins σ H s)(r:RelV v u)(h:∀ x dx,H x=none->H dx=none->dx≠x->Q (.ref x) (ae (ae H dx (.xd [(fld,v)])) x (dD x C (some dx)))) :
  wpAny (model X.prog X.w) X.A (call (.ref C) [u]) (EP X pins σ Q) X.xe s:=by
 obtain⟨hp,g,dr,tk,os⟩:=s;obtain⟨q,N,bs,sn,sub,ab,col,dd,k0,k1,k2,k3,k5,l⟩:=T.cls;refine CZ (C:=C) I.kIn PySem.F.excBase_ValueError (B.tail I.kIn) (I.kIn _ _ l) T.init T.fn ?_ (by rw [List.length_cons,List.length_nil,sizeLine_eq];omega)
 have f0:H hp.objs.size=none:=I.fresh;have I1:Inv X pins σ H ⟨hp.push (gG [u]),g,dr,tk,os⟩:=I.kept (h':=hp.push (gG [u])) (t':=tk) λ b o e=>Heap.get?_push_of_some _ e;have sz:(hp.push (gG [u])).objs.size=hp.objs.size+1:=Heap.size_push _ _;have fx:H (hp.objs.size+1)=none:=by rw [<- sz];exact I1.fresh
 have I2:Inv X pins σ (ae H (hp.objs.size+1) (dD (hp.objs.size+1) C none)) ⟨(hp.push (gG [u])).push (dU C hp.objs.size),g,dr,tk,os⟩ :=
  I1.laid (h':=(hp.push (gG [u])).push (dU C hp.objs.size)) (t':=tk) (a:=hp.objs.size+1) (λ b o e=>Heap.get?_push_of_some _ e) (Nat.le_of_eq sz)
   (jA (t:=hp.objs.size) (Heap.get?_push_at sz.symm rfl))
 generalize (⟨(hp.push (gG [u])).push (dU C hp.objs.size),g,dr,tk,os⟩:Shared)=s2 at I2 ⊢;generalize hp.objs.size+1=x at fx I2 ⊢;have r2:Vals [V.ref x,v] [Value.ref x,u]:=.cons rfl (.cons r .nil);have hsp:lM C fld [V.ref x,v] (ae H x (dD x C none)) (λ y H2=>y=.non/\Q (.ref x) H2) E0 :=
  ⟨x,v,rfl,aR,λ dx hd nd=>⟨rfl,by
   rw [DZ nd];rw [ag nd] at hd;exact h x dx fx hd nd⟩⟩
 have hl:([Value.ref x,u] ++ []:List Value).length=ps.length:=by
  rw [List.append_nil,<- r2.length];exact F.len _ _ _ _ hsp
 have hbd:=hb s2 [Value.ref x,u] I2.kIn hl;rw [List.append_nil] at hbd;refine wpAny_call (codeAny_mono (F.run _ X.stack s2 _ ⟨[Value.ref x,u],[]⟩ [Value.ref x,u] _ _ E0 (hr.make C [u] []) (I2.env0.make C [u] []) hbd r2 hsp) λ r s' hq'=>?_);cases r with
 | error e=>exact False.elim hq'
 | ok fl =>
  cases fl with
  | ret u' =>
   obtain⟨y,H',I3,ry,ey,q3⟩:=I2.after hq';subst ey;exact⟨ry,V.ref x,H',I3,rfl,q3⟩
  | next=>exact False.elim hq'
  | brk=>exact False.elim hq'
  | cont=>exact False.elim hq'
end
def zn (h:Heap)(e:Addr)(vs:Array Value):Prop:=vs[1]?=some .none\/∃ T oT ts,vs[1]?=some (.ref T)/\T≠e/\h.get? T=some oT/\oT.data=.fields ts/\ts[3]?=some .none
structure LeftX (fr:List Addr)(e T:Addr)(oe:Obj)(h h':Heap)(r:Value):Prop where
 keep:∀ b o,b≠e->b ∉ fr->h.get? b=some o->h'.get? b=some o
 slot:∀ b o,b≠e->h.get? b=some o->∃ sl,h'.get? b=some { o with slots:=sl }
 new:h.objs.size<=T
 exc:h'.get? e=some (oe.mapFields (λ x=>x.setIfInBounds 1 (.ref T)))
 trc:∃ oT ts,h'.get? T=some oT/\oT.data=.fields ts/\ts[3]?=some r/\T≠e
theorem qd {vs:Array Value}{i:Nat}{v:Value}(h:vs[i]?=some v):vs.setIfInBounds i v=vs:=by
 obtain⟨hi,e⟩:=Array.getElem?_eq_some_iff.mp h;apply Array.ext
 ·simp
 ·intro j h1 h2;simp only [Array.size_setIfInBounds] at h1;rw [Array.getElem_setIfInBounds h1];split
  ·rename_i z;subst z;exact e.symm
  ·rfl
theorem tW {o:Obj}{vs:Array Value}(hd:o.data=.fields vs)(f:Array Value->Array Value):o.mapFields f={ o with data:=.fields (f vs) }:=by
 obtain⟨c,d,dt,sl⟩:=o;have e:dt=.fields vs:=hd;subst e;rfl
theorem jK {M:Model}{A:Around}{E:Value->Shared->Prop}{s:Shared}{c:String}{vs:List Value}{Q:Value->Shared->Prop}(hl:vs.length<=sizeLine+2)
  (q:Q (.ref s.heap.objs.size) { s with heap:=s.heap.push { cls:=.type c,data:=.fields vs.toArray } }):wpAny M A (newFields c vs) Q E s:=by
 unfold newFields newObj;refine wpAny_ite_false (decide_eq_false (by rw [List.size_toArray];omega)) ?_
 unfold newObjAsIs;exact wpAny_bind (wpAny_alloc (wpAny_pure q))
theorem oO {pl:List Value}(h:IsPlace pl):pl.length<=6:=by
 rcases h with rfl | ⟨a,b,c,d,c9,b10,_,rfl⟩
 ·decide
 ·exact Nat.le_refl _
section
variable {M:Model}{A:Around}{E:Value->Shared->Prop}{s:Shared}{base:Heap}{env:Env}{outer:List Env}{L e:Addr}{oe:Obj}{vs:Array Value}{Q:Unit->Shared->Prop}
theorem n4 {head:Value}{hn:Bool}(hA:A.frames=some (env::outer))(hF:s.heap.FunFrames base (env::outer))(hL:env.frame=some L)(he:s.heap.get? e=some oe)(hd:oe.data=.fields vs)(h1:1<vs.size)
  (q:∀ h' T,LeftX (iW (env::outer)) e T oe s.heap h' (rawInt ↑L)->Q () { s with heap:=h' }) :
  wpAny M A (do
   let a <- frameOf env
   let pl <- entryPlaceOf L hn
   let b <- EntryCells.newEntry head a .none (rawInt ↑L) .none pl
   setField (.ref e) 1 b) Q E s:=by
 have nfr:e ∉ iW (env::outer):=λ z=>by
  obtain⟨_,o,ho,hn⟩:=hF.mem z;rw [he] at ho;cases ho;exact hn vs hd
 refine wpAny_bind (wpAny_frameOf_fun hA hF hL λ h1' so=>?_);refine wpAny_bind (wpAny_entryPlaceOf λ pl hpl=>?_);refine wpAny_bind ?_;unfold EntryCells.newEntry;refine jK ?_ ?_
 ·have:=oO hpl;have b:100<=sizeLine:=by decide
  rw [List.length_append];split
  ·rw [List.length_replicate];show 5+6<=_;omega
  ·show 5+pl.length<=_;omega
 have e1:h1'.get? e=some oe:=by rw [so.2.1 e nfr];exact he
 have lt:=Heap.lt_size e1;generalize hob:({ cls:=.type "traceback",data:=.fields ([head,Value.ref L,.none,rawInt ↑L,.none]++if pl.isEmpty=true then List.replicate 6 Value.none else pl).toArray }:Obj)=ob
 have e2:(h1'.push ob).get? e=some oe:=Heap.get?_push_of_some _ e1;refine wpAny_setField e2 hd h1 ?_;refine q _ h1'.objs.size ⟨λ b o nb nf hb=>?_,λ b o nb hb=>?_,Nat.le_of_eq so.1.symm,?_,?_⟩
 ·rw [Heap.get?_update_ne _ _ _ _ nb];exact Heap.get?_push_of_some _ (by rw [so.2.1 b nf];exact hb)
 ·obtain⟨sl,z⟩:=so.2.2 b o hb;exact⟨sl,by rw [Heap.get?_update_ne _ _ _ _ nb];exact Heap.get?_push_of_some _ z⟩
 ·exact Heap.get?_update_self _ e2 (by rw [tW hd];rfl)
 ·have nT:h1'.objs.size≠e:=Ne.symm (Nat.ne_of_lt lt);refine⟨ob,_,?_,by rw [<- hob],?_,nT⟩
  ·rw [Heap.get?_update_ne _ _ _ _ nT];exact Heap.get?_push_at rfl (by rw [<- hob];rfl)
  ·rfl
theorem l7 (hA:A.frames=some (env::outer))(hF:s.heap.FunFrames base (env::outer))(hL:env.frame=some L)(he:s.heap.get? e=some oe)(hd:oe.data=.fields vs)(hv:zn s.heap e vs)
  (q:∀ h' T,LeftX (iW (env::outer)) e T oe s.heap h' (rawInt ↑L)->Q () { s with heap:=h' }):wpAny M A (noteFrame (.ref e) env) Q E s:=by
 unfold noteFrame;rw [hL];rcases hv with hv | ⟨T,oT,ts,hv,nT,hT,hTd,h3⟩
 ·have h1:1<vs.size:=(Array.getElem?_eq_some_iff.mp hv).1;refine wpAny_bind (wpAny_field he hd hv ?_);refine wpAny_ite_false rfl ?_;exact n4 hA hF hL he hd h1 q
 ·have h1:1<vs.size:=(Array.getElem?_eq_some_iff.mp hv).1;have h3':3<ts.size:=(Array.getElem?_eq_some_iff.mp h3).1;refine wpAny_bind (wpAny_field he hd hv ?_);refine wpAny_ite_true rfl ?_;refine wpAny_bind (wpAny_field hT hTd h3 ?_);refine wpAny_ite_false rfl ?_;refine wpAny_bind (wpAny_setField hT hTd h3' ?_);have g:∀ b,(s.heap.update T (Obj.mapFields λ x=>x.setIfInBounds 3 Value.none)).get? b=s.heap.get? b:=λ b=>by
   by_cases z:b=T
   ·subst z;rw [Heap.get?_update_self _ hT (by rw [tW hTd];rfl),hT,tW hTd,qd h3,<- hTd]
   ·exact Heap.get?_update_ne _ _ _ _ z
  have sz:(s.heap.update T (Obj.mapFields λ x=>x.setIfInBounds 3 Value.none)).objs.size=s.heap.objs.size:=Heap.size_update _ _ _;generalize s.heap.update T (Obj.mapFields λ x=>x.setIfInBounds 3 Value.none)=h0 at g sz;have hF0:h0.FunFrames base (env::outer):=Heap.FunFrames.of_keeps (λ b o hb _=>⟨o,by rw [g];exact hb,rfl⟩) hF
  refine n4 (s:={ s with heap:=h0 }) hA hF0 hL (by show h0.get? e=_;rw [g];exact he) hd h1 λ h' T' x=>?_
  exact q h' T' ⟨λ b o nb nf hb=>x.keep b o nb nf (by show h0.get? b=_;rw [g];exact hb),λ b o nb hb=>x.slot b o nb (by show h0.get? b=_;rw [g];exact hb),by rw [<- sz];exact x.new,x.exc,x.trc⟩
theorem LeftX.flight {fr:List Addr}{T:Addr}{h h':Heap}{r:Value}(x:LeftX fr e T oe h h' r)(hd:oe.data=.fields vs)(h1:1<vs.size)(s':Shared)(es:s'.heap=h')
  (q:∀ h2,LeftX fr e T oe h h2 .none->Q () { s' with heap:=h2 }):wpAny M A (setFlight (.ref e) none) Q E s':=by
 subst es;obtain⟨oT,ts,hT,hTd,h3,nT⟩:=x.trc;have h3':3<ts.size:=(Array.getElem?_eq_some_iff.mp h3).1;have e1:(oe.mapFields (λ x=>x.setIfInBounds 1 (.ref T))).data=.fields (vs.setIfInBounds 1 (.ref T)):=Obj.data_mapFields hd _;have e2:(vs.setIfInBounds 1 (Value.ref T))[1]?=some (.ref T):=by simp [h1]
 refine wpAny_setFlight_none x.exc e1 e2 hT hTd h3' (q _ ⟨λ b o nb nf hb=>?_,λ b o nb hb=>?_,x.new,?_,?_⟩)
 ·have z:=x.keep b o nb nf hb;rw [Heap.get?_update_ne _ _ _ _ (λ w=>?_)]
  ·exact z
  ·rw [w] at hb;exact absurd (Nat.lt_of_lt_of_le (Heap.lt_size hb) x.new) (Nat.lt_irrefl _)
 ·obtain⟨sl,z⟩:=x.slot b o nb hb;refine⟨sl,?_⟩;rw [Heap.get?_update_ne _ _ _ _ (λ w=>?_)]
  ·exact z
  ·rw [w] at hb;exact absurd (Nat.lt_of_lt_of_le (Heap.lt_size hb) x.new) (Nat.lt_irrefl _)
 ·rw [Heap.get?_update_ne _ _ _ _ nT.symm];exact x.exc
 ·refine⟨_,_,Heap.get?_update_self _ hT (by rw [tW hTd];rfl),Obj.data_mapFields hTd _,?_,nT⟩
  simp [h3']
theorem kO (hA:A.frames=some (env::outer))(hF:s.heap.FunFrames base (env::outer))(hL:env.frame=some L)(he:s.heap.get? e=some oe)(hd:oe.data=.fields vs)(hv:zn s.heap e vs)
  (q:∀ h' T,LeftX (iW (env::outer)) e T oe s.heap h' .none->Q () { s with heap:=h' }):wpAny M A (leaving env (.ref e)) Q E s:=by
 have h1:1<vs.size:=by
  rcases hv with hv | ⟨T,oT,ts,hv,_⟩
  ·exact(Array.getElem?_eq_some_iff.mp hv).1
  ·exact(Array.getElem?_eq_some_iff.mp hv).1
 unfold leaving;exact wpAny_bind (l7 hA hF hL he hd hv λ h' T x=>x.flight hd h1 _ rfl λ h2 x2=>q h2 T x2)
end
def one (P:V->Hp->Prop)(vs:List V)(H:Hp):Prop:=match vs with
 | [v]=>P v H
 | _=>False
theorem w9 {P:V->Hp->Prop}{vs:List V}{H:Hp}(h:one P vs H):∃ v,vs=[v]/\P v H:=by
 cases vs with
 | nil=>exact h.elim
 | cons v r =>
  cases r with
  | nil=>exact⟨v,rfl,h⟩
  | cons _ _=>exact h.elim
def two (P:V->V->Hp->Prop)(vs:List V)(H:Hp):Prop:=match vs with
 | [v,u]=>P v u H
 | _=>False
theorem zV {P:V->V->Hp->Prop}{vs:List V}{H:Hp}(h:two P vs H):∃ v u,vs=[v,u]/\P v u H:=by
 match vs,h with
 | [v,u],h=>exact⟨v,u,rfl,h⟩
section
variable {X:Cx}{pins:List (Addr × Obj)}{σ:St}{H:Hp}{s:Shared}
theorem yz {D C f:Addr}{nm fld x:Str}{k:Nat}{fd:FuncData}{ps:List Str}{e:Expr}{te:TE}{p pos:Pos}(B:BaseC X.K D)(T:ErrC X.K D nm C f)(F:FnOk X.prog X.w X.K X.mg X.base aq k f fd ps (lM C fld))(hr:Room (k+1) X.A)(hb:Binds X.K fd ps [])
  (hg:Gl X x)(hm:X.mg x=some (.ref C))(ha:PE X e te)(hdb:(x==("__debug__" : Str))=false:=by decide)(he:starEach [e] X.env=(false,eval e X.env)::starEach [] X.env:=by rfl)(hpl:(backTo pos (starEach [] X.env)).any (·.1)=false:=by rfl) :
  PE X (.Call (.Name x p) [e] [] pos) (CL C fld te):=by
 intro pins s σ H Q I h;refine wpAny_Call_Name_kw (eD I hg hm ?_ hdb);have pa:PA X [e] (am te aL):=ac ha ao he;have h':am te aL σ H (one λ v H1=>∀ x dx,H1 x=none->H1 dx=none->dx≠x->Q (.ref x) (ae (ae H1 dx (.xd [(fld,v)])) x (dD x C (some dx)))):=h;refine PySem.W.callWith_K (h₀:=X.base) I.ok.mod.kin T.kp (aK (pa pos pins s σ H _ I h') λ us s1 ⟨vs,H1,I1,r,q⟩=>⟨I1.kIn,?_⟩) he hpl;obtain⟨v,rfl,q⟩:=w9 q;obtain⟨u,rfl,ru⟩:=dA r;exact rC B T F hr hb I1 ru q
def Gv (ts tt:TE)(C:Addr):TE:=λ σ H Q=>ts σ H λ x H1=>tt σ H1 λ v H2=>∃ a,x=.ref a/\H2 a=some (dD a C none)/\Q .non H2
theorem bC {D C f:Addr}{nm x:Str}{o e:Expr}{ts tt:TE}{p apos pos:Pos}{pl:Sem Bool}(B:BaseC X.K D)(T:ErrC X.K D nm C f)(hg:Gl X x)(hm:X.mg x=some (.ref D))(hs:PE X o ts)(ht:PE X e tt)(hdb:(x==("__debug__" : Str))=false:=by decide)
  (hst:starEach [o,e] X.env=(false,eval o X.env)::starEach [e] X.env:=by rfl)(hst2:starEach [e] X.env=(false,eval e X.env)::starEach [] X.env:=by rfl)(hpl:(backTo pos (starEach [e] X.env)).any (·.1)=false:=by rfl)
  (htr:eval (.Call (.Attribute (.Name x p) "__init__" apos) [o,e] [] pos) X.env=(do
   let ov <- eval (.Name x p) X.env
   standAt apos.atName
   let (f,first) <- holding [ov] (getMethod ov "__init__" pl)
   callWith pos f first (backTo pos (starEach [o,e] X.env)) (backToKw pos (keywordEach [] X.env))):=by rfl) :
  PE X (.Call (.Attribute (.Name x p) "__init__" apos) [o,e] [] pos) (Gv ts tt C):=by
 intro pins s σ H Q I h;refine PySem.W.methodCall_KW (pl:=pl) (eD I hg hm ?_ hdb) htr;refine method_cls I.kIn B.ga (cls_value I.kIn B.reads B.ini rfl ?_);have I0:Inv X pins σ H { s with toks:=s.toks+1 }:=I.tok _
 have pa:PA X [o,e] (am ts (am tt aL)):=ac hs (ac ht ao hst2) hst;have h':am ts (am tt aL) σ H (two λ x v H2=>∃ a,x=.ref a/\H2 a=some (dD a C none)/\Q .non H2):=h;refine PyProof.Rows.callWith_builtin1 (aK (pa pos pins _ σ H _ I0 h') λ us s1 ⟨vs,H1,I1,r,q⟩=>?_) hst hpl;obtain⟨_,v,rfl,a,rfl,ha,q⟩:=zV q;obtain⟨u,u',rfl,ru,ru'⟩:=ik r;cases (show u=Value.ref a from ru);obtain⟨t0,hx⟩:=gi I1.hok ha;obtain⟨q',N,bs,sn,sub,ab,col,dd,k0,k1,k2,k3,k5,l⟩:=T.cls;obtain⟨hp,g,dr,tk,os⟩:=s1;refine wpAny_call (yg (C:=C) PySem.F.excBase_ValueError (B.tail I1.kIn) (I1.kIn _ _ l) hx λ h' hx' hk=>?_);have I2:Inv X pins σ (ae H1 a (dD a C none)) ⟨h',g,dr,tk,os⟩:=I1.write (h':=h') (t':=tk) (x:=a) (e:=a) (by rw [ha];exact True.intro) (.inl rfl) (λ b o hb e=>hk b o hb e) ⟨_,hx'⟩ (jA hx')
 rw [pY ha] at I2;exact⟨.non,H1,I2,rfl,q⟩
def EF (K:Frag)(C:Addr)(ta tv:TE)(f:Str):TS:=λ D σ H=>tv σ H λ y H1=>ta σ H1 λ x H2=>∃ a,x=.ref a/\H2 a=some (dD a C none)/\takerIn K C f=some none/\∀ dx,H2 dx=none->dx≠a->D.nx σ (ae (ae H2 dx (.xd [(f,y)])) a (dD a C (some dx)))
theorem fE {D C fI:Addr}{nm f:Str}{o value:Expr}{ta tv:TE}{pos pos':Pos}(T:ErrC X.K D nm C fI)(ha:PE X o ta)(hv:PE X value tv)(hs:swapsWith value (some (.Attribute o f pos')) pos.line X.env=pure false) :
  PS X (.Assign [.Attribute o f pos'] value pos) (EF X.K C ta tv f):=by
 intro pins s σ H D' I h;refine plainObj_wpAny_Assign_Attribute (aK (hv pins s σ H _ I h) λ u s1 ⟨y,H1,I1,ry,q⟩=>aK (ha pins s1 σ H1 _ I1 q) λ ov s2 ⟨x,H2,I2,rx,a,ex,ea,tk,q2⟩=>?_) hs;subst ex;obtain rfl:ov=Value.ref a:=rx;obtain⟨t0,hx⟩:=gi I2.hok ea;obtain⟨cd,hc,hd,hp⟩:=T.refuse a;refine vY I2.kIn hx T.sa hc hd hp T.it.mo tk λ h' tk' hx' hn' hk=>?_;have fr:H2 s2.heap.objs.size=none:=I2.fresh;have nz:s2.heap.objs.size≠a:=λ z=>by rw [<- z,fr] at ea;cases ea
 obtain⟨oD,es,ep,hoD,rD⟩:=id hn';have nf:oD.isFreed=false:=Obj.isFreed_of_dict rD.1;have I3:Inv X pins σ (ae H2 s2.heap.objs.size (.xd [(f,y)])) { s2 with heap:=s2.heap.push oD,toks:=s2.toks }:=by
  refine I2.laid (h':=s2.heap.push oD) (t':=s2.toks) (a:=s2.heap.objs.size) (λ b o e=>Heap.get?_push_of_some _ e) (Nat.le_refl _) ⟨_,⟨oD,es,ep,Heap.get?_push_at rfl nf,rD⟩,λ g=>?_⟩;by_cases e:g=f
  ·subst e;rw [if_pos rfl,List.lookup_cons_self];exact ry
  ·rw [if_neg e,List.lookup_cons,beq_eq_false_iff_ne.mpr e];exact True.intro
 have ea3:ae H2 s2.heap.objs.size (.xd [(f,y)]) a=some (dD a C none):=by rw [ag nz.symm];exact ea
 have I4:Inv X pins σ (ae (ae H2 s2.heap.objs.size (.xd [(f,y)])) a (dD a C (some s2.heap.objs.size))) { s2 with heap:=h',toks:=tk' }:=by
  refine I3.write (h':=h') (t':=tk') (x:=a) (e:=a) (by rw [ea3];exact True.intro) (.inl rfl) (λ b o hb e=>?_) ⟨_,hx'⟩ (jA (t:=t0) hx')
  by_cases z:b=s2.heap.objs.size
  ·subst z;have e':(s2.heap.push oD).get? s2.heap.objs.size=some o:=e;rw [Heap.get?_push_at rfl nf] at e';cases e';exact hoD
  ·have e':(s2.heap.push oD).get? b=some o:=e;exact hk b o hb (by rw [<- Heap.get?_push_ne _ _ oD z];exact e')
 exact⟨σ,_,I4,q2 _ fr nz⟩
theorem lJ {P:Program}{w:World}{H:Hp}{h:Heap}{a C dx:Addr}{fs:List (Str × V)}(ok:HOk P w H h)(ea:H a=some (dD a C (some dx)))(ed:H dx=some (.xd fs)) :
  ∃(ox od:Obj),InstAt h a ox C (some od)/\∃ mA:Str->Option Value,(∀ f,RelO (fs.lookup f) (mA f))/\∀ name,lookIn name od=some (mA name):=by
 obtain⟨t,hx⟩:=gi ok ea;obtain⟨mA,hn,hr⟩:=(show ObjOk P w H h dx (.xd fs) from ok dx _ ed);obtain⟨od,hod,hl⟩:=jl hn;exact⟨_,od,⟨hx,rfl,rfl,hod⟩,mA,hr,hl⟩
structure sd (K:Frag):Prop where
 gt:specialIn K (.builtin "object.__class__") "__get__" = some (some (.builtin "getset_descriptor.__get__"))
 tk:takesIn K (.builtin "object.__class__")=some true
def ErrAt (H:Hp)(a C:Addr):Prop:=H a=some (dD a C none)\/∃ dx fs,H a=some (dD a C (some dx))/\H dx=some (.xd fs)
theorem ErrAt.inst {P:Program}{w:World}{H:Hp}{h:Heap}{a C:Addr}(E:ErrAt H a C)(ok:HOk P w H h):∃ ox od,InstAt h a ox C od:=by
 rcases E with e | ⟨dx,fs,ea,ed⟩
 ·obtain⟨t,hx⟩:=gi ok e;exact⟨_,none,⟨hx,rfl,rfl,True.intro⟩⟩
 ·obtain⟨ox,od,J,_⟩:=lJ ok ea ed;exact⟨ox,some od,J⟩
end
end My
namespace My
open PySem PySem.W L2
open PyProof.Rows (AllBare)
abbrev mV (C:Addr)(d:Option Addr)(t:Addr)(v:Value):Obj:={ cls:=.ref C,dict:=d,data:=.fields #[.ref t,v,.none,.none,.bool false,.none] }
def mU (x C:Addr)(d:Option Addr):HO:=.ext λ h=>∃ t v,h.get? x=some (mV C d t v)
theorem tE {P:Program}{w:World}{H:Hp}{h:Heap}{x C:Addr}{d:Option Addr}{t:Addr}{v:Value}(e:h.get? x=some (mV C d t v)):ObjOk P w H h x (mU x C d) :=
 ⟨⟨t,v,e⟩,⟨_,e⟩,λ _ _ ⟨t',v',e'⟩ k=>⟨t',v',k _ e'⟩⟩
def Gu (n:Nat)(H:Hp)(h:Heap)(x C:Addr)(d:Option Addr):Prop:=∃ t T oT ts,h.get? x=some (mV C d t (.ref T))/\T≠x/\n<=T/\H T=none/\h.get? T=some oT/\oT.data=.fields ts/\ts[3]?=some Value.none
def cC (P:Program)(w:World):kr:=λ outer H s E e s'=>∃ x C dx fs H',e=.ref x/\s'.os=s.os/\AllBare s'.gens/\Un (iW outer) [] H H' s.heap s'.heap/\HOk P w H' s'.heap/\H' x=some (mU x C (some dx))/\H' dx=some (.xd fs)/\Gu s.heap.objs.size H' s'.heap x C (some dx)/\E (.ref C) (some x) H'
section
variable {X:Cx}{pins:List (Addr × Obj)}{σ:St}{H:Hp}{s:Shared}
theorem Inv.left {x C:Addr}{d:Option Addr}{t T:Addr}{v r:Value}{h':Heap}{o:HO}(I:Inv X pins σ H s)(hS:X.stack=X.env::X.outer)(hx:H x=some o)(ho:(∃ φ,o=.ext φ))(he:s.heap.get? x=some (mV C d t v))
  (l:LeftX (iW (X.env::X.outer)) x T (mV C d t v) s.heap h' r):Inv X pins σ (ae H x (mU x C d)) { s with heap:=h' }:=by
 obtain⟨φ,rfl⟩:=ho;have nx:∀ b u,H b=some u->(∀ φ,u ≠ .ext φ)->b≠x:=λ b u e n z=>by
  subst z;rw [hx] at e;exact n φ (Option.some.inj e).symm
 have fr0:∀ b∈iW (X.env::X.outer),H b=none:=λ b hb=>I.stkFree b (by rw [hS];exact hb)
 have nfr:∀ b u,H b=some u->b ∉ iW (X.env::X.outer):=λ b u e z=>by rw [fr0 b z] at e;cases e
 have exc:h'.get? x=some (mV C d t (.ref T)):=l.exc;have sub:∀ b,b∈iW (X.env::X.outer)->b=X.env.locals\/b∈X.fs:=λ b hb=>List.mem_cons.mp (I.stkSub b (by rw [hS];exact hb))
 refine I.step (g':=s.gens) (d':=s.drawn) (t':=s.toks) (ch:=[]) (λ _ z=>nomatch z) (λ b o hL hf _ e n=>?_) (λ b o hL hf _ e n=>?_) (λ b o _ e n=>?_) (λ b o _ e=>?_) (λ b xs e=>?_) (λ b o u e=>?_) (λ b ps e=>⟨#[],?_⟩) (λ e=>?_) (λ m hm=>?_) (λ b u e=>?_) I.bare
 ·refine l.keep b o (λ z=>by rw [z,hx] at n;cases n) (λ z=>?_) e
  rcases sub b z with q | q
  ·exact hL q
  ·exact hf q
 ·exact l.slot b o (λ z=>by rw [z,hx] at n;cases n) e
 ·rw [ag (λ z=>by rw [z,hx] at n;cases n)];exact n
 ·by_cases z:b=x
  ·subst z;exact⟨_,exc⟩
  ·obtain⟨sl,q⟩:=l.slot b o z e;exact⟨_,q⟩
 ·rw [ag (nx b _ e λ _=>by intro z;cases z)];exact e
 ·rw [ag (nx b _ e λ _=>by intro z;cases z)];exact e
 ·rw [ag (nx b _ e λ _=>by intro z;cases z),e];simp
 ·rw [ag (λ z=>by rw [z,hx] at e;cases e)];exact e
 ·obtain⟨o,es,ep,ho,r⟩:=hm;obtain⟨sl,q⟩:=l.slot _ o (λ z=>by have:=I.free;rw [z,hx] at this;cases this) ho
  exact⟨_,es,ep,q,r⟩
 ·by_cases z:b=x
  ·subst z;rw [aR] at e;cases e;exact tE exc
  ·rw [ag z] at e;refine(I.hok b u e).stay (λ c o' hc q=>?_) (λ c q=>?_) λ c xs q=>?_
   ·rcases hc with rfl | hc
    ·exact l.keep c o' z (nfr c u e) q
    ·exact l.keep c o' (nx c _ hc λ _=>by intro w;cases w) (nfr c _ hc) q
   ·rw [ag (nx c _ q λ _=>by intro w;cases w)];exact q
   ·rw [ag (nx c _ q λ _=>by intro w;cases w)];exact q
variable {P:Program}{w:World}{K:Frag}{mg:Str->Option Value}{base:Heap}{N:List Str}{qual:Str}{scope:Scope}{f:Addr}{cd:Value}{A:Around}{outer:List Env}{s0:Shared}{H0:Hp}{E:XK}
theorem vG {x C dx:Addr}{t:Addr}{v:Value}{o:HO}{fs:List (Str × V)}(I:Inv (aH (cC P w) P w K mg base N qual scope f cd A outer s0 H0 E) pins σ H s)(hx:H x=some o)(ho:(∃ φ,o=.ext φ))(hdx:H dx=some (.xd fs))(he:s.heap.get? x=some (mV C (some dx) t v))
  (hv:zn s.heap x #[.ref t,v,.none,.none,.bool false,.none])(q:E (.ref C) (some x) (ae H x (mU x C (some dx)))):(aH (cC P w) P w K mg base N qual scope f cd A outer s0 H0 E).xe (.ref x) s:=by
 have hA:=I.ok.frames;refine kO hA I.stack rfl he rfl hv λ h' T l=>?_;have J:=Inv.left I rfl hx ho he l;have nT:H T=none:=I.hok.fresh l.new;obtain⟨oT,ts,h1,h2,h3,h4⟩:=l.trc;have nd:dx≠x:=λ z=>by
  obtain⟨φ,rfl⟩:=ho;rw [z,hx] at hdx;cases hdx
 refine⟨x,C,dx,fs,_,rfl,J.os,J.bare,J.base,J.hok,aR,by rw [ag nd];exact hdx,⟨t,T,oT,ts,l.exc,h4,Nat.le_trans I.sz l.new,?_,h1,h2,h3⟩,q⟩
 rw [ag h4];exact nT
theorem cU:dm (cC P w) (aH (cC P w) P w K mg base N qual scope f cd A outer s0 H0 E) E:=by
 intro pins σ H s e s' I h;obtain⟨x,C,dx,fs,H',rfl,os,bare,un,hok,hx,hdx,⟨t,T,oT,ts,h1,h2,_,h4,h5,h6,h7⟩,q⟩:=h;have J:=I.call' os un hok bare (λ b z=>absurd z (by simp))
 refine vG J hx ⟨_,rfl⟩ hdx h1 (.inr ⟨T,oT,ts,rfl,h2,h5,h6,h7⟩) ?_;rw [pY hx];exact q
end
end My
namespace My
open PySem PySem.W L2
open PyProof.Rows (AllBare)
section
variable {prog:Program}{w:World}{A:Around}{E:Value->Shared->Prop}{s:Shared}{env:Env}{x:Sem Value}{Q:Flow->Shared->Prop}{K:Frag}{C:Addr}
theorem pW (T:pE K C)(ht:typeIn K (.ref C)=some (.type "type"))(hA:A.handled=none)
  (hx:wpAny (model prog w) A x (λ v s1=>∃ e t d od,v=.ref e/\InstAt s1.heap e (iZ C d t) C od/\K.In s1.heap/\E (.ref e) s1) E s):wpAny (model prog w) A (raiseStmt env (some x) none) Q E s:=by
 unfold raiseStmt;refine wpAny_bind (wpAny_mono hx (λ v s1 h=>?_) (λ _ _ z=>z));obtain⟨e,t,d,od,rfl,I,KX,q⟩:=h;obtain⟨hp,g,dr,tk,os⟩:=s1;have noC:∀ c:ClassData,(iZ C d t).data≠Data.cls c:=λ c z=>by cases z
 refine wpAny_bind (wpAny_pure ?_);refine wpAny_bind ?_;show wpAny _ _ (excFromValue (.ref e) _) _ _ _;unfold excFromValue;refine wpAny_bind ?_;unfold isExcClass;refine wpAny_bind (ks_wpAny_isType_inst I.at_ noC ?_);refine wpAny_ite_false rfl (wpAny_pure ?_);refine wpAny_ite_false rfl ?_;refine wpAny_bind ?_;have sub:Looks (model prog w) hp (isInstance (.ref e) (.type "BaseException")) true:=I.type.andThen (looks_mroIn KX T.mb);refine Looks.here (s:=⟨hp,g,dr,tk,os⟩) sub ?_;refine wpAny_ite_true rfl (wpAny_pure ?_);refine wpAny_bind (ks_wpAny_isType_inst I.at_ noC ?_);refine wpAny_ite_false rfl ?_;refine wpAny_bind ?_;unfold raisedInstance;refine wpAny_bind (Looks.here (s:=⟨hp,g,dr,tk,os⟩) I.type ?_);refine wpAny_bind (Looks.here (s:=⟨hp,g,dr,tk,os⟩) (looks_typeIn KX ht) ?_);refine wpAny_ite_true rfl (wpAny_pure ?_);refine wpAny_bind ?_;unfold setFlight;refine wpAny_bind (wpAny_field I.at_ rfl rfl ?_);refine wpAny_ite_false rfl (wpAny_pure ?_);exact wpAny_raiseNew_none hA q
end
theorem ErrC.type {K:Frag}{D:Addr}{nm:Str}{C f:Addr}(T:ErrC K D nm C f):typeIn K (.ref C)=some (.type "type"):=by
 obtain⟨q,N,bs,sn,sub,ab,col,dd,k0,k1,k2,k3,k5,l⟩:=T.cls;show(K.lookup C).map (λ o=>o.cls)=_;rw [l];rfl
def qR (E:XK)(C:Addr):VK:=λ y H'=>∃ x dx fs,y=.ref x/\H' x=some (dD x C (some dx))/\H' dx=some (.xd fs)/\E (.ref C) (some x) (ae H' x (mU x C (some dx)))
def zx (E:XK)(C:Addr)(fld:Str)(te:TE):TS:=λ _ σ H=>CL C fld te σ H (qR E C)
theorem eN {H:Hp}{x:Addr}{a b:HO}:ae (ae H x a) x b=ae H x b:=by
 funext z
 unfold ae;by_cases h:z=x
 ·rw [if_pos h,if_pos h]
 ·rw [if_neg h,if_neg h,if_neg h]
section
variable {P:Program}{w:World}{K:Frag}{mg:Str->Option Value}{base:Heap}{N:List Str}{qual:Str}{scope:Scope}{f:Addr}{cd:Value}{A:Around}{outer:List Env}{s0:Shared}{H0:Hp}{E:XK}
abbrev qb (P:Program)(w:World)(K:Frag)(mg:Str->Option Value)(base:Heap)(N:List Str)(qual:Str)(scope:Scope)(f:Addr)(cd:Value)(A:Around)(outer:List Env)(s0:Shared)(H0:Hp)(E:XK):Cx:=aH (cC P w) P w K mg base N qual scope f cd A outer s0 H0 E
theorem cz {D C fI:Addr}{nm fld x:Str}{k:Nat}{fd:FuncData}{ps:List Str}{e:Expr}{te:TE}{p pos pos':Pos}(B:BaseC K D)(T:ErrC K D nm C fI)(F:FnOk P w K mg base aq k fI fd ps (lM C fld))(hr:Room (k+1) (qb P w K mg base N qual scope f cd A outer s0 H0 E).A)(hb:Binds K fd ps [])
  (hg:Gl (qb P w K mg base N qual scope f cd A outer s0 H0 E) x)(hm:mg x=some (.ref C))(ha:PE (qb P w K mg base N qual scope f cd A outer s0 H0 E) e te)
  (hdb:(x==("__debug__" : Str))=false:=by decide)(he:starEach [e] (qb P w K mg base N qual scope f cd A outer s0 H0 E).env=(false,eval e (qb P w K mg base N qual scope f cd A outer s0 H0 E).env)::starEach [] (qb P w K mg base N qual scope f cd A outer s0 H0 E).env:=by rfl)(hpl:(backTo pos (starEach [] (qb P w K mg base N qual scope f cd A outer s0 H0 E).env)).any (·.1)=false:=by rfl) :
  PS (qb P w K mg base N qual scope f cd A outer s0 H0 E) (.Raise (some (.Call (.Name x p) [e] [] pos)) none pos') (zx E C fld te):=by
 intro pins s σ H D' I h;have pe:=yz (X:=qb P w K mg base N qual scope f cd A outer s0 H0 E) (p:=p) (pos:=pos) B T F hr hb hg hm ha hdb he hpl;have hd:(qb P w K mg base N qual scope f cd A outer s0 H0 E).A.handled=none:=I.ok.hd rfl;rw [arm_exec_Raise];refine wpAny_bind (wpAny_standAt ?_);refine pW T.it T.type hd ?_;refine wpAny_bind (aK (pe pins s σ H (qR E C) I h) λ u s1 h1=>?_);obtain⟨y,H1,I1,ry,x,dx,fs,rfl,e1,e2,q⟩:=h1;refine wpAny_bind (wpAny_standAt (wpAny_pure ?_));obtain⟨t,ht⟩:=gi I1.hok e1;obtain⟨ox,od,J,_⟩:=lJ I1.hok e1 e2;have eo:ox=iZ C (some dx) t:=Option.some.inj (J.at_.symm.trans ht);subst eo;exact⟨x,t,some dx,some od,ry,J,I1.kIn,vG I1 e1 ⟨_,rfl⟩ e2 ht (.inl rfl) q⟩
theorem eR {C x dx:Addr}{fld:Str}{v:V}{H1:Hp}(nd:dx≠x)(q:E (.ref C) (some x) (ae (ae H1 dx (.xd [(fld,v)])) x (mU x C (some dx)))):qR E C (.ref x) (ae (ae H1 dx (.xd [(fld,v)])) x (dD x C (some dx))) :=
 ⟨x,dx,_,rfl,aR,by rw [ag nd,aR],by rw [eN];exact q⟩
theorem la {x qual:Str}{st:Stmt}{f:Addr}{fd:FuncData}{N ps:List Str}{k:Nat}{sp:Sp}(F:Fun K x qual st f fd)(S:ad N ps (aa st))(len:∀ vs H Q E,sp vs H Q E->vs.length=ps.length)
  (hbody:∀(cdv:Value)(A:Around)(outer:List Env)(s:Shared)(H:Hp)(vs:List V)(Q:VK)(E:XK),Room k (A.deeper (PyProof.Rows.envOfC qual (aa st) s.heap.objs.size f cdv))->sp vs H Q E ->
   ∃ t,PSs (qb P w K mg base N qual (aa st) f cdv A outer s H E) (ax st) t/\t { nx:=λ _ H'=>Q .non H',rt:=Q } (fX N vs) H):FnOk P w K mg base (cC P w) (k+1) f fd ps sp:=by
 obtain⟨oc,od,kV,doc,pm,an,cdv,ct,osl,rfl,lk,hcd⟩:=F.ex;refine vV lk hcd S len λ A outer s H vs Q E hr hsp=>?_;obtain⟨t,h,q⟩:=hbody cdv A outer s H vs Q E hr hsp;exact⟨t,h,q⟩
theorem lf {X:Cx}{st:Stmt}:PS X st (λ _ _ _=>False):=λ _ _ _ _ _ _ h=>h.elim
theorem FnOk.toE {k:Nat}{f:Addr}{fd:FuncData}{ps:List Str}{sp:Sp}(F:FnOk P w K mg base aq k f fd ps sp):FnOk P w K mg base (cC P w) k f fd ps sp :=
 ⟨F.len,λ A outer s H args us vs Q E hr he hb hv hs=>codeAny_mono (F.run A outer s H args us vs Q E hr he hb hv hs) λ r s' h=>by
  cases r with
  | error e=>exact False.elim h
  | ok fl=>cases fl <;> exact h⟩
end
end My
namespace My
open PySem PySem.W L2
open PyProof.Rows (AllBare)
section
variable {X:Cx}{pins:List (Addr × Obj)}{σ:St}{H:Hp}{s:Shared}
theorem jc:∀{cs:List Addr}{us:List Value},Vals (cs.map V.ref) us->us=cs.map Value.ref
 | [],_,.nil=>rfl
 | c::cs,_,.cons r t=>by
  rw [jc t];cases (show _=Value.ref c from r);rfl
end
end My
namespace My
open PySem PySem.W L2
open PyProof.Rows (AllBare)
abbrev TH:=Addr->Addr->TS
end My
namespace My
open PySem L2
section
variable {X:Cx}
def Bd (K:PySem.W.Frag):R2:=λ x y H Q=>∃ p q xs,x=.ref p/\y=.ref q/\SqL K H p xs/\SqL K H q []/\Q (.bl xs.isEmpty) H
theorem qK (hu:X.A.units<cLine):gL X (compareOp .Eq) (Bd X.K):=by
 intro pins s σ H x y v u Q I rx ry h;obtain⟨p,q,xs,rfl,rfl,hp,hq,k⟩:=h;cases rx;cases ry;obtain⟨its,r1,t1,_⟩:=I.list hp;obtain⟨jts,r2,t2,_⟩:=I.list hq;have l1:=r1.length;have l2:=r2.length;cases xs with
 | nil =>
  have e1:its=[]:=List.length_eq_zero_iff.mp l1.symm;have e2:jts=[]:=List.length_eq_zero_iff.mp l2.symm;subst e1 e2;exact SeqAt.eq_listAt (e:=λ _=>true) t1.isList t2.isList rfl hu (λ j h _=>absurd h (Nat.not_lt_zero _)) ⟨.bl true,H,I,rfl,k⟩
 | cons x xs =>
  have e2:jts=[]:=List.length_eq_zero_iff.mp l2.symm;subst e2;refine SeqAt.eq_list_lengthsAt t1.isList t2.isList ?_ hu ⟨.bl false,H,I,rfl,k⟩;simp [<- l1]
theorem iU {A:Around}:A.in1.units=A.units+1:=rfl
def mP (K:PySem.W.Frag):V->List V->Hp->VK->Prop:=λ x vs H Q=>∃ l xs y,x=.ref l/\vs=[y]/\SqL K H l xs/\xs.all fN=true/\fN y=true/\Q (.int (xs.countP λ z=>nN z y:Nat)) H
theorem kY:Fk X "list.count" (mP X.K):=by
 intro pins s σ H x vs v us Q I rx rv h;obtain⟨l,xs,y,rfl,rfl,hl,f1,f2,q⟩:=h;cases rx;obtain⟨u,rfl,ru⟩:=dA rv;obtain⟨its,r,t,hz0⟩:=I.list hl;obtain⟨⟨c,dd,dt,sl⟩,h1,hc,n,hd⟩:=t.isList;replace hc:c=.type "list" := hc;replace hd:dt=.seq its.toArray n:=hd;subst hc hd;refine call_meets F.slot_list_count ⟨_,h1,rfl⟩ F.entry_list_count (F.args_list_count_2 _ _) (SeqAt.list_countAt l its.toArray n dd sl u (λ z=>match zH z with | some a=>nN a y | none=>false)) ⟨h1,λ z hz=>?_,?_⟩
 ·obtain⟨i,hi,e⟩:=List.getElem_of_mem (show z∈its by simpa using hz)
  have k1:i<xs.length:=by rw [r.length];exact hi
  obtain⟨u1,e1,q1⟩:=r.get (List.getElem?_eq_getElem k1);rw [List.getElem?_eq_getElem hi,e] at e1;cases e1;rw [q1.abs];exact pR q1 ru (List.all_eq_true.mp f1 _ (List.getElem_mem k1)) f2
 ·refine⟨.int _,H,I.tok _,⟨_,rfl⟩,?_⟩;have z:its.toArray.toList.countP (λ z=>match zH z with | some a=>nN a y | none=>false)=xs.countP λ z=>nN z y:=by
   clear h1 t hl f1 q hz0
   rw [List.toList_toArray]
   induction r with
   | nil=>rfl
   | cons q1 _ ih=>rw [List.countP_cons,List.countP_cons,ih,q1.abs]
  rw [z];exact q
end
end My
namespace My
open PySem PySem.W L2
open PyProof.Rows (Call_ boot_enumerate)
section
variable {X:Cx}{pins:List (Addr × Obj)}{σ:St}{H:Hp}{s:Shared}{h':Heap}
theorem tP {t':Nat}{i1 i2:Addr}(I:Inv X pins σ H s)(k:∀ b o,b≠i1->b≠i2->s.heap.get? b=some o->h'.get? b=some o)(F1:cD X pins H i1)(F2:cD X pins H i2):Inv X pins σ H { s with heap:=h',toks:=t' }:=by
 obtain⟨n1,L1,_,a1,b1,c1⟩:=F1;obtain⟨n2,L2,_,a2,b2,c2⟩:=F2;have ni1:∀ b u,H b=some u->b≠i1:=λ b u e z=>by rw [z,n1] at e;cases e
 have ni2:∀ b u,H b=some u->b≠i2:=λ b u e z=>by rw [z,n2] at e;cases e
 refine I.step (g':=s.gens) (d':=s.drawn) (ch:=[i1,i2]) (λ b hb=>?_) (λ b o _ _ hc e _=>k b o (λ z=>hc (by simp [z])) (λ z=>hc (by simp [z])) e) (λ b o _ _ hc e _=>⟨o.slots,k b o (λ z=>hc (by simp [z])) (λ z=>hc (by simp [z])) e⟩) (λ _ _ _ _ n=>n)
  (λ b o hc e=>⟨o,k b o (λ z=>hc (by simp [z])) (λ z=>hc (by simp [z])) e⟩) (λ _ _ e=>e) (λ _ _ _ e=>e) (λ b ps e=>⟨#[],by rw [e];simp⟩) (λ q=>q) (λ m hm=>?_) (λ b u e=>?_) I.bare
 ·have e:b=i1\/b=i2:=by simpa using hb
  rcases e with rfl | rfl
  ·exact⟨a1,L1,b1,c1⟩
  ·exact⟨a2,L2,b2,c2⟩
 ·obtain⟨o,es,ep,ho,r⟩:=hm;exact⟨o,es,ep,k _ o (Ne.symm L1) (Ne.symm L2) ho,r⟩
 ·refine(I.hok b u e).stay (λ c v hc q=>k c v ?_ ?_ q) (λ _ q=>q) λ _ _ q=>q
  ·rcases hc with z | z
   ·rw [z];exact ni1 b u e
   ·exact ni1 c _ z
  ·rcases hc with z | z
   ·rw [z];exact ni2 b u e
   ·exact ni2 c _ z
end
theorem nofree {o:Obj}{vs:Array Value}(d:o.data=.fields vs):o.isFreed=false:=by
 obtain⟨c,dd,dt,sl⟩:=o;cases d;rfl
def rJ (K:Frag)(a:Addr):It :=
 ⟨λ i H=>∃ xs x,SqL K H a xs/\xs[i]?=some x,λ i H x H'=>∃ p y,x=.ref p/\H p=none/\H'=ae H p (.tup [.int i,y])/\∀ xs,SqL K H a xs->xs[i]?=some y,λ i H=>∃ xs,SqL K H a xs/\xs.length<=i⟩
theorem pz {P:Program}{w:World}{K:Frag}{elts:List Expr} {x1}{pos:Pos}(a e it:Addr)(ne:e≠it):nt P w K (.Tuple elts x1 pos) (rJ K a) [e,it] e (λ i h=>(∃ old,IsEnum h e it i old)/\h.IsListIter it a i) where
 mem:=by simp
 obj:=λ i h st b hb=>by
  obtain⟨⟨old,h1⟩,o,h2,c,d⟩:=st;have e:b=e\/b=it:=by simpa using hb
  rcases e with rfl | rfl
  ·exact⟨_,h1,λ v z=>by cases z⟩
  ·exact⟨o,h2,λ v z=>by rw [d] at z;cases z⟩
 keep:=λ i h h' st k=>⟨⟨_,k e (by simp) _ st.1.choose_spec⟩,st.2.at λ o z=>k it (by simp) o z⟩
 item:=by
  intro X hP hw hK hc i pins s σ H E I hf st hg;subst hP hw hK;obtain⟨xs,x,hq,hx⟩:=hg;obtain⟨its,rv,p,hz⟩:=I.list hq;obtain⟨u,hu,ru⟩:=rv.get hx;obtain⟨⟨old,he⟩,hi⟩:=st;have Fe:=hf e (by simp)
  have Fi:=hf it (by simp)
  refine wpAny_pyNext_enum_item he hi p.isList (x:=u) (by simpa using hu) ne λ h1 eo hi1 ht hs1 kk=>?_
  refine⟨_,rfl,wpAny_letOwnedTupleGo_enum (s:={ s with heap:=h1,toks:=s.toks+1 }) eo λ h2 he2 sb=>?_⟩
  have sb':Heap.SameBut e h1 h2:=sb;have ne2:s.heap.objs.size≠e:=Nat.ne_of_gt (Heap.lt_size he);have ht2:h2.get? s.heap.objs.size=some { cls:=.type "tuple",data:=.seq #[.int i s.toks,u] }:=(sb'.2 _ ne2).trans ht;obtain⟨oi,hoi,ci,di⟩:=hi;obtain⟨oi1,hoi1,ci1,di1⟩:=id hi1;have hoi2:h2.get? it=some oi1:=(sb'.2 _ (Ne.symm ne)).trans hoi1
  let hA:Heap:=(s.heap.update e λ _=>{ cls:=.type "enumerate",dict:=none,data:=.fields #[.none,.bool false,.ref it,rawInt ((i:Int)+1),.none,u],slots:=#[] }).update it λ _=>oi1
  have IA:Inv X pins σ H { s with heap:=hA,toks:=s.toks }:=tP I (λ b o z1 z2 q=>by
   show hA.get? b=some o;rw [Heap.get?_update_ne _ _ _ _ z2,Heap.get?_update_ne _ _ _ _ z1];exact q) Fe Fi
  have szA:hA.objs.size=s.heap.objs.size:=by
   show((s.heap.update e _).update it _).objs.size=_;rw [Heap.size_update,Heap.size_update]
  refine⟨.ref s.heap.objs.size,ae H s.heap.objs.size (.tup [.int i,x]),?_,rfl,⟨_,x,rfl,I.hok.fresh (Nat.le_refl _),rfl,λ ys hy=>by rw [I.list_inj hy hq];exact hx⟩,⟨⟨u,he2⟩,oi1,hoi2,ci1,di1⟩,λ b hb=>?_⟩
  ·refine IA.laid (t':=s.toks+1) (λ b v q=>?_) (Nat.le_of_eq szA) ?_
   ·have q':hA.get? b=some v:=q;by_cases z2:b=it
    ·subst z2;have hg:(s.heap.update e λ _=>{ cls:=.type "enumerate",dict:=none,data:=.fields #[.none,.bool false,.ref b,rawInt ((i:Int)+1),.none,u],slots:=#[] }).get? b=some oi:=by
      rw [Heap.get?_update_ne _ _ _ _ (Ne.symm ne)];exact hoi
     rw [Heap.get?_update_self _ hg (nofree di1)] at q';cases q';exact hoi2
    ·rw [Heap.get?_update_ne _ _ _ _ z2] at q';by_cases z1:b=e
     ·subst z1;rw [Heap.get?_update_self _ he rfl] at q';cases q';exact he2
     ·rw [Heap.get?_update_ne _ _ _ _ z1] at q';exact(sb'.2 b z1).trans (kk b v z1 z2 q')
   ·exact⟨by show 2<=sizeLine;decide,[.int i s.toks,u],.cons ⟨_,rfl⟩ (.cons ru .nil),⟨_,ht2,rfl,_,rfl⟩⟩
  ·have nb:b≠s.heap.objs.size:=by
    have e':b=e\/b=it:=by simpa using hb
    rcases e' with rfl | rfl
    ·exact Nat.ne_of_lt (Heap.lt_size he)
    ·exact Nat.ne_of_lt (Heap.lt_size hoi)
   rw [ag nb];exact(hf b hb).1
 done:=by
  intro X hP hw hK hc i pins s σ H E I hf st hg;subst hP hw hK;obtain⟨xs,hq,hx⟩:=hg;obtain⟨its,rv,p,hz⟩:=I.list hq;obtain⟨⟨old,he⟩,hi⟩:=st;obtain⟨f0,f1,f2,f3,f4,f5⟩:=hf it (by simp)
  have hl:=rv.length;exact wpAny_pyNext_enum_end (I.ok.hd hc) he hi p.isList (by simp;omega) λ h' eb=>⟨rfl,I.turned (t':=s.toks) (λ b o hb e=>eb b o hb e) f0 f1 f3 f4 f5⟩
 self:=λ _ _ _ _ _ st h=>wpAny_pyIter_enum st.1.choose_spec h
section
variable {X:Cx}
def p0 (K:Frag)(ta:TA):TI:=λ σ H R=>ta σ H λ vs H1=>∃ a,vs=[.ref a]/\(∃ xs,SqL K H1 a xs)/\R (rJ K a) H1
theorem gX {elts:List Expr} {x1}{pt:Pos}{a:Expr}{ta:TA}{p pos:Pos}(hg:Gl X "enumerate")(hm:X.mg "enumerate" = none)(ha:PA X [a] ta)(hs:starEach [a] X.env=[(false,eval a X.env)]:=by rfl):PI X (.Tuple elts x1 pt) (.Call (.Name "enumerate" p) [a] [] pos) (p0 X.K ta):=by
 intro pins s σ H R I h;refine Call_ (fw I hg hm boot_enumerate (PyProof.Rows.callWith_type1 (aK (ha pos pins s σ H _ I h) λ us s1 ⟨vs,H1,I1,r1,q1⟩=>?_) hs rfl));obtain⟨l,rfl,⟨xs,hq⟩,q⟩:=q1;cases r1 with
 | cons r rr =>
  cases rr;cases r;obtain⟨its,rv,p',hz⟩:=I1.list hq;refine call_enumerate_list p'.isList λ h' he hi hsz kk=>?_;refine wpAny_pyIter_enum he ?_;refine⟨s1.heap.objs.size+1,[s1.heap.objs.size+1,s1.heap.objs.size],_,_,H1,rfl,I1.kept (t':=s1.toks) kk,pz l _ _ (Nat.succ_ne_self _),⟨⟨_,he⟩,hi⟩,λ b hb=>?_,q⟩;have e:b=s1.heap.objs.size+1\/b=s1.heap.objs.size:=by simpa using hb
  have le:s1.heap.objs.size<=b:=by
   rcases e with rfl | rfl
   ·exact Nat.le_succ _
   ·exact Nat.le_refl _
  exact I1.fpOk le (I1.hok.fresh le)
end
theorem lO {K:Frag}{a:Addr}{xs:List V}{g:TG}{tb:TS}{D:cw}{σ:St}{H:Hp}(Pv:Nat->St->Hp->Prop)(h0:Pv 0 σ H)(hl:∀ i σ H,i<=xs.length->Pv i σ H->SqL K H a xs)
  (hs:∀ i x σ H p,xs[i]?=some x->Pv i σ H->H p=none->g (.ref p) σ (ae H p (.tup [.int i,x])) λ σ2 H2=>tb { D with nx:=Pv (i+1),ct:=Pv (i+1),bk:=D.nx } σ2 H2)(hd:∀ σ H,Pv xs.length σ H->D.nx σ H) :
  ∃ W:Nat->Nat->St->Hp->Prop,(∃ m,W 0 m σ H)/\∀ i m σ H,W i m σ H ->
   ((rJ K a).stop i H/\D.nx σ H)\/((rJ K a).go i H/\∃ N:St->Hp->Prop,(∀ σ' H',N σ' H'->∃ m',m'<m/\W (i+1) m' σ' H')/\∀ x H',(rJ K a).yld i H x H'->g x σ H' λ σ2 H2=>tb { D with nx:=N,ct:=N,bk:=D.nx } σ2 H2):=by
 refine⟨λ i m σ H=>m=xs.length-i/\i<=xs.length/\Pv i σ H,⟨xs.length,by simp,Nat.zero_le _,h0⟩,?_⟩
 rintro i m σ H ⟨rfl,hi,p⟩;have q:=hl i σ H hi p;by_cases hlt:i<xs.length
 ·refine .inr ⟨⟨xs,xs[i],q,List.getElem?_eq_getElem hlt⟩,Pv (i+1),λ σ' H' n=>⟨xs.length-(i+1),by omega,rfl,hlt,n⟩,?_⟩
  rintro x H' ⟨p',y,rfl,hp,rfl,hy⟩;exact hs i y σ H p' (hy xs q) p hp
 ·have e:i=xs.length:=by omega
  subst e;exact .inl ⟨⟨xs,q,Nat.le_refl _⟩,hd σ H p⟩
end My
namespace My
open PySem L2
section
variable {prog:Program}{w:World}{A:Around}{R:Result->Shared->Prop}{s:Shared}
theorem gy {elt target iter:Expr}{scope:Scope}{pos:Pos}{it acc:Value}{env:Env}(J:Nat->Shared->Prop)
  (turn:∀ n s,J n s->wpAny (model prog w) A (pyNext it) (λ r s₁=>match r with
   | none=>R (.ok .next) s₁
   | some v=>wpAny (model prog w) A (letOwnedTupleGo target it v) (λ _ s₂=>wpAny (model prog w) A (assign target env v) (λ _ s₃=>wpAny (model prog w) A (eval elt env)
     (λ x s₄=>wpAny (model prog w) A (call (.builtin "list.append") [acc,x]) (λ _ s₅=>∃ m,m<n/\J m s₅) (λ _ _=>False) s₄) (λ _ _=>False) s₃) (λ _ _=>False) s₂) (λ _ _=>False) s₁) (λ _ _=>False) s)
  (n:Nat)(h:J n s):codeAny (model prog w) A (.compLoop (.ListComp elt [⟨target,iter,[],0⟩] scope pos) 0 it acc env) R s:=by
 refine codeAny_loop rfl J (λ n s hJ=>?_) n h;show wpAny _ _ (Sem.onRaise (compTurn (.ListComp elt [⟨target,iter,[],0⟩] scope pos) 0 it acc env) (λ x=>do noteFrame x env;theTreesLotGoes x)) _ _ s
 refine wpAny_noted ?_;rw [compTurn_list1];refine wpAny_bind (wpAny_standAt (wpAny_bind (wpAny_mono (turn n s hJ) (λ r s₁ h₁=>?_) λ _ _ z=>z.elim)));cases r with
 | none=>exact wpAny_pure h₁
 | some v =>
  refine wpAny_bind (wpAny_mono h₁ (λ _ s₂ h₂=>?_) λ _ _ z=>z.elim);refine wpAny_bind (wpAny_mono h₂ (λ _ s₃ h₃=>?_) λ _ _ z=>z.elim);refine wpAny_bind (wpAny_bind (wpAny_mono h₃ (λ x s₄ h₄=>?_) λ _ _ z=>z.elim));refine wpAny_bind (wpAny_mono h₄ (λ _ s₅ h₅=>wpAny_pure (wpAny_pure ⟨rfl,h₅⟩)) λ _ _ z=>z.elim)
end
def aT (X:Cx)(sc:Scope)(cl:List (Str × Addr))(N:List Str)(s:Shared)(H:Hp)(C:Addr)(fp:List Addr):Cx where
 prog:=X.prog
 w:=X.w
 K:=X.K
 mg:=X.mg
 base:=X.base
 A:=X.A
 N:=N
 s₀:=s
 H₀:=H
 env:=compEnvC sc cl C X.env
 outer:=X.stack
 stack:=X.stack
 ex:=fp
 fn:=λ _=>false
 calm:=X.calm
 pn:=[]
 xe:=λ _ _=>False
def cu (js:List Nat)(σ:St):St:=js.map λ j=>(σ[j]?).join
section
variable {prog:Program}{w:World}{A:Around}{R:Result->Shared->Prop}{s:Shared}
theorem ic {elt target iter c:Expr}{scope:Scope}{pos:Pos}{it acc:Value}{env:Env}(J:Nat->Shared->Prop)
  (turn:∀ n s,J n s->wpAny (model prog w) A (pyNext it) (λ r s₁=>match r with
   | none=>R (.ok .next) s₁
   | some v=>wpAny (model prog w) A (letOwnedTupleGo target it v) (λ _ s₂=>wpAny (model prog w) A (assign target env v) (λ _ s₃=>wpAny (model prog w) A (isTrue c env (eval c env)) (λ k s₀ =>
     (k=false->∃ m,m<n/\J m s₀)/\(k=true->wpAny (model prog w) A (eval elt env)
     (λ x s₄=>wpAny (model prog w) A (call (.builtin "list.append") [acc,x]) (λ _ s₅=>∃ m,m<n/\J m s₅) (λ _ _=>False) s₄) (λ _ _=>False) s₀)) (λ _ _=>False) s₃) (λ _ _=>False) s₂) (λ _ _=>False) s₁) (λ _ _=>False) s)
  (n:Nat)(h:J n s):codeAny (model prog w) A (.compLoop (.ListComp elt [⟨target,iter,[c],0⟩] scope pos) 0 it acc env) R s:=by
 refine codeAny_loop rfl J (λ n s hJ=>?_) n h;show wpAny _ _ (Sem.onRaise (compTurn (.ListComp elt [⟨target,iter,[c],0⟩] scope pos) 0 it acc env) (λ x=>do noteFrame x env;theTreesLotGoes x)) _ _ s
 refine wpAny_noted ?_;rw [compTurn_list];refine wpAny_bind (wpAny_standAt (wpAny_bind (wpAny_mono (turn n s hJ) (λ r s₁ h₁=>?_) λ _ _ z=>z.elim)));cases r with
 | none=>exact wpAny_pure h₁
 | some v =>
  refine wpAny_bind (wpAny_mono h₁ (λ _ s₂ h₂=>?_) λ _ _ z=>z.elim);refine wpAny_bind (wpAny_mono h₂ (λ _ s₃ h₃=>?_) λ _ _ z=>z.elim);refine wpAny_bind (wpAny_tests_one (wpAny_mono h₃ (λ k s₀ h₀=>?_) λ _ _ z=>z.elim));cases k with
  | false=>exact wpAny_pure ⟨rfl,h₀.1 rfl⟩
  | true =>
   refine wpAny_bind (wpAny_bind (wpAny_mono (h₀.2 rfl) (λ x s₄ h₄=>?_) λ _ _ z=>z.elim));refine wpAny_bind (wpAny_mono h₄ (λ _ s₅ h₅=>wpAny_pure (wpAny_pure ⟨rfl,h₅⟩)) λ _ _ z=>z.elim)
end
structure aU (X:Cx)(sc:Scope)(cl:List (Str × Addr))(ts zs:List Str)(js:List Nat):Prop where
 clos:closureFor sc X.env=pure cl
 kind:sc.kind=.function
 noCell:∀ y∈sc.names,y.2 ≠ .cell
 names:∀ y∈sc.names,y.2=.local->sc.names.lookup y.1=some .local
 var:∀ x∈ts,sc.names.lookup x=some .local
 sub:∀ z c,cl.lookup z=some c->X.env.cells.lookup z=some c
 has:∀ z,((relabel sc X.env).names.lookup z=some .cell\/(relabel sc X.env).names.lookup z=some .free)->∃ c,cl.lookup z=some c
 nd:(ts++zs).Nodup
 cap:∀(k:Nat)(z:Str),zs[k]?=some z->∃ j:Nat,js[k]?=some j/\X.N[j]?=some z/\vn X.env.scope z/\X.env.kindOf z≠some .local /\
  ((relabel sc X.env).names.lookup z=some .cell\/(relabel sc X.env).names.lookup z=some .free)
 len:js.length=zs.length
def c7 (wi:TI)(k:Nat)(js:List Nat)(g:TG)(te:TE):TE:=λ σ H Q=>wi σ H λ J H1=>∀ D,H1 D=none->∃ W:Nat->Nat->List V->Hp->Prop,(∃ m,W 0 m [] (ae H1 D (.lst []))) /\
 ∀ i m ys H2,W i m ys H2->H2 D=some (.lst ys)/\((J.stop i H2/\Q (.ref D) H2)\/(J.go i H2/\ys.length<sizeLine /\
  ∀ x H3,J.yld i H2 x H3->∀ os:St,os.length=k->g x (os++cu js σ) H3 λ σ2 H0=>(∃ os':St,os'.length=k/\σ2=os'++cu js σ)/\te σ2 H0 λ y H4=>H4 D=some (.lst ys)/\∃ m',m'<m/\W (i+1) m' (ys ++ [y]) (ae H4 D (.lst (ys ++ [y])))))
def cO (wi:TI)(k:Nat)(js:List Nat)(g:TG)(tt:TT)(te:TE):TE:=λ σ H Q=>wi σ H λ J H1=>∀ D,H1 D=none->∃ W:Nat->Nat->List V->Hp->Prop,(∃ m,W 0 m [] (ae H1 D (.lst []))) /\
 ∀ i m ys H2,W i m ys H2->H2 D=some (.lst ys)/\((J.stop i H2/\Q (.ref D) H2)\/(J.go i H2/\ys.length<sizeLine /\
  ∀ x H3,J.yld i H2 x H3->∀ os:St,os.length=k->g x (os++cu js σ) H3 λ σ2 H0=>(∃ os':St,os'.length=k/\σ2=os'++cu js σ)/\tt σ2 H0 λ b H5=>(b=false->∃ m',m'<m/\W (i+1) m' ys H5) /\
   (b=true->te σ2 H5 λ y H4=>H4 D=some (.lst ys)/\∃ m',m'<m/\W (i+1) m' (ys ++ [y]) (ae H4 D (.lst (ys ++ [y]))))))
section
variable {X:Cx}{pins:List (Addr × Obj)}{σ:St}{H:Hp}{s:Shared}{sc:Scope}{cl:List (Str × Addr)}{ts zs:List Str}{js:List Nat}{C:Addr}{fp:List Addr}
theorem pX (I:Inv X pins σ H s)(S:aU X sc cl ts zs js)(hf:∀ b∈fp,cD X pins H b/\b<s.heap.objs.size)(hC:s.heap.objs.size<=C):(aT X sc cl (ts++zs) s H C fp).Ok:=by
 refine⟨I.ok.mod,S.kind,I.ok.glob,I.ok.blt,hC,λ y z c h1 h2=>I.ok.inj y z c (S.sub _ _ h1) (S.sub _ _ h2),λ z h=>S.has z h,(λ _ _ h=>nomatch h),I.ok.hd,I.ok.frames,.inl rfl,λ b hb=>?_,I.bs,?_,λ b o e hb=>?_,λ b hb hs=>?_,I.stack,I.stkFree⟩
 ·obtain⟨⟨_,h1,_,_,h4,_⟩,h6⟩:=hf b hb;exact⟨λ e=>absurd h6 (Nat.not_lt.mpr (by rw [show b=C from e];exact hC)),λ z c e=>h4 z c (S.sub _ _ e)⟩
 ·exact Nat.le_trans I.ok.bsz I.sz
 ·obtain⟨⟨_,_,_,h3,_⟩,_⟩:=hf b hb;rcases h3 with h | h
  ·exact I.ok.noex b o e h
  ·exact absurd (Heap.lt_size e) (Nat.not_lt.mpr (Nat.le_trans I.ok.bsz h))
 ·obtain⟨⟨_,h1,h2,_⟩,_⟩:=hf b hb;rcases List.mem_cons.mp (I.stkSub b hs) with e | e
  ·exact h1 e
  ·exact h2 e
theorem cR {s1:Shared}(I:Inv X pins σ H s)(S:aU X sc cl ts zs js)(hf:∀ b∈fp,cD X pins H b/\b<s.heap.objs.size)(hC:s.heap.objs.size<=C)(ho:s1.os=s.os)(hg:s1.gens=s.gens)
  (hk:∀ b o,s.heap.get? b=some o->s1.heap.get? b=some o){m:Str->Option Value}(hn:s1.heap.Ns C m):Inv (aT X sc cl (ts++zs) s H C fp) [] (List.replicate ts.length none++cu js σ) H s1:=by
 refine⟨pX I S hf hC,ho,by rw [hg];exact I.bare,Un.kept hk,⟨m,hn,λ i y v h1 h2 h3=>?_⟩,λ z c e=>?_,I.hok.fresh hC,λ z c e=>I.freeC z c (S.sub _ _ e),λ p hp=>absurd (show p∈([]:List (Addr × Obj)) from hp) (by simp),I.hok.kept hk,?_⟩
 ·rcases Nat.lt_or_ge i ts.length with lt | ge
  ·rw [List.getElem?_append_left (by rw [List.length_replicate];exact lt),List.getElem?_replicate,if_pos lt] at h2
   cases h2
  ·have h1':zs[i-ts.length]?=some y:=by
    have h1'':(ts++zs)[i]?=some y:=h1;rw [List.getElem?_append_right ge] at h1'';exact h1''
   obtain⟨j,hj,hN,hv,nl,k'⟩:=S.cap _ y h1';have h2':(cu js σ)[i-ts.length]?=some (some v):=by
    rw [List.getElem?_append_right (by rw [List.length_replicate];exact ge),List.length_replicate] at h2
    exact h2
   have h5:σ[j]?=some (some v):=by
    unfold cu at h2';rw [List.getElem?_map,hj] at h2';have h6:(σ[j]?).join=some v:=Option.some.inj h2';cases e:σ[j]? with
    | none=>rw [e] at h6;cases h6
    | some o=>rw [e] at h6;exact congrArg some h6
   obtain⟨m0,hn0,hl⟩:=I.loc;obtain⟨u,ru,lk⟩:=hl j y v hN h5 hv;refine⟨u,ru,?_⟩;rcases lk with⟨k1,_⟩ | ⟨_,c,ec,hc⟩
   ·exact absurd k1 nl
   ·obtain⟨c',ec'⟩:=S.has y k';have e2:=S.sub _ _ ec';rw [ec] at e2;cases e2;exact .inr ⟨k',c,ec',hc.keeps hk⟩
 ·obtain⟨v,hv⟩:=I.cell z c (S.sub _ _ e);exact⟨v,hv.keeps hk⟩
 ·show(List.replicate ts.length none++cu js σ:St).length=(ts++zs).length;unfold cu;rw [List.length_append,List.length_append,List.length_map,List.length_replicate,S.len]
theorem dW {s1:Shared}{σ':St}{H':Hp}{h':Heap}(I:Inv X pins σ H s)(hf:∀ b∈fp,cD X pins H b/\b<s.heap.objs.size)(hC:s.heap.objs.size<=C)(J:Inv (aT X sc cl (ts++zs) s H C fp) [] σ' H' s1)
  (hs:Heap.SameBut C s1.heap h'):Inv X pins σ H' { s1 with heap:=h' }:=by
 have old:∀ b o,s1.heap.get? b=some o->b≠C->h'.get? b=some o:=λ b o e n=>(hs.2 b n).trans e;have lt:∀{b o},s.heap.get? b=some o->b≠C:=λ {b o} e z=>by
  have q:=Heap.lt_size e;rw [z] at q;exact absurd q (Nat.not_lt.mpr hC)
 have B:=J.base;refine I.call' (s':={ s1 with heap:=h' }) (ch:=fp) J.os ⟨λ b o e n hb hx=>old b o (B.keep b o e n hb hx) (lt e),λ b o e n hb hx=>?_,B.free,λ b o e hx=>?_,B.tups,B.frzs,B.tbls,B.sys⟩ (λ b o e=>?_) J.bare λ b hb=>?_
 ·obtain⟨sl,q⟩:=B.slot b o e n hb hx;exact⟨sl,old _ _ q (lt e)⟩
 ·obtain⟨o',q⟩:=B.there b o e hx;exact⟨o',old _ _ q (lt e)⟩
 ·have nC:∀ c u,H' c=some u->c≠C:=λ c u q z=>by
   have f:H' C=none:=J.free;rw [z,f] at q;cases q
  refine(J.hok b o e).stay (λ c v hc q=>old c v q ?_) (λ _ q=>q) λ _ _ q=>q;rcases hc with rfl | hc
  ·exact nC _ _ e
  ·exact nC _ _ hc
 ·obtain⟨⟨_,h1,_,h3,h4,h5⟩,_⟩:=hf b hb;exact⟨h3,h1,h4,h5⟩
variable {elt iter:Expr}{pos:Pos}{tg:Expr}{g:TG}{wi:TI}{te:TE}
theorem bT (hc:X.calm=true)(S:aU X sc cl ts zs js)(hi:PI X tg iter wi)(hg:∀ s H C fp,PG (aT X sc cl (ts++zs) s H C fp) tg g)(he:∀ s H C fp,PE (aT X sc cl (ts++zs) s H C fp) elt te)
  (hs:∀ v,foldedSetIterable iter X.env v=pure v:=by intro _;rfl):PE X (.ListComp elt [⟨tg,iter,[],0⟩] sc pos) (c7 wi ts.length js g te):=by
 intro pins s σ H Q I h;rw [eval_ListComp];refine wpAny_comprehension_free (use:=none) rfl hs S.clos S.kind S.names (aK (hi pins s σ H _ I h) λ v s1 h1=>aK h1 λ itv s2 h2=>?_);obtain⟨it,fp,tn,J,H2,e,I2,T,st2,f2,body⟩:=h2;subst e;have fr2:H2 s2.heap.objs.size=none:=I2.fresh;obtain⟨W,⟨m0,w0⟩,turn⟩:=body _ fr2;refine wpAny_newObj_type ?_;have I3:Inv X pins σ (ae H2 s2.heap.objs.size (.lst [])) { s2 with heap:=s2.heap.push { cls:=.type "list",data:=.seq ([]:List Value).toArray } }:=I2.lnew (t':=s2.toks) (ys:=[]) (its:=[]) .nil (Nat.zero_le _)
 refine wpAny_newFunctionEnv S.noCell (by intro y hy;simp at hy) (λ h₁ hn hsb=>?_) S.kind
 generalize hs3:({ s2 with heap:=s2.heap.push { cls:=.type "list",data:=.seq ([]:List Value).toArray } }:Shared)=s3 at I3 hn hsb ⊢
 have fpl:∀ b∈fp,cD X pins (ae H2 s2.heap.objs.size (.lst [])) b/\b<s3.heap.objs.size:=λ b hb=>by
  obtain⟨o,ho,_⟩:=T.obj _ _ st2 b hb;have hl:=Heap.lt_size ho;have hne:b≠s2.heap.objs.size:=Nat.ne_of_lt hl;obtain⟨z1,z2⟩:=f2 b hb;refine⟨⟨by rw [ag hne];exact z1,z2⟩,?_⟩
  rw [<- hs3];show b<(s2.heap.push _).objs.size;rw [Heap.size_push];exact Nat.lt_succ_of_lt hl
 have old:∀ b o,s3.heap.get? b=some o->h₁.get? b=some o:=λ b o e=>hsb.extBut b o (Nat.ne_of_lt (Heap.lt_size e)) (Heap.get?_push_of_some _ e);have loop:∀ sS:Shared,sS.heap=h₁->sS.os=s3.os->sS.gens=s3.gens->codeAny (model X.prog X.w) X.A (.compLoop (.ListComp elt [⟨tg,iter,[],0⟩] sc pos) 0 (.ref it) (.ref s2.heap.objs.size) (compEnvC sc cl s3.heap.objs.size X.env))
   (compPost (model X.prog X.w) X.A X.xe none (EP X pins σ Q) (.ref s2.heap.objs.size) s3.heap.objs.size) sS:=by
  intro sS eh eo eg;subst eh;have J0:Inv (aT X sc cl (ts++zs) s3 (ae H2 s2.heap.objs.size (.lst [])) s3.heap.objs.size fp) [] (List.replicate ts.length none++cu js σ) (ae H2 s2.heap.objs.size (.lst [])) sS:=cR I3 S fpl (Nat.le_refl _) eo eg old hn;generalize hX:aT X sc cl (ts++zs) s3 (ae H2 s2.heap.objs.size (.lst [])) s3.heap.objs.size fp=X' at J0;have stat:∀{H':Hp},(∀ b∈fp,H' b=none)->∀ b∈fp,cD X' [] H' b:=λ {H'} hn b hb=>by
   subst hX;obtain⟨⟨_,z1,z2,z3,z4,z5⟩,z6⟩:=fpl b hb;refine⟨hn b hb,Nat.ne_of_lt z6,λ q=>?_,.inl hb,λ y c e=>z4 y c (S.sub _ _ e),λ p hp=>absurd (show p∈([]:List (Addr × Obj)) from hp) (by simp)⟩
   rcases List.mem_cons.mp (I3.stkSub b q) with e | e
   ·exact z1 e
   ·exact z2 e
  have st3:tn 0 sS.heap:=T.keep _ _ _ st2 λ b hb o e=>old b o (by rw [<- hs3];exact Heap.get?_push_of_some _ e)
  refine gy (λ n s'=>∃ i ys os H',os.length=ts.length/\Inv X' [] (os++cu js σ) H' s'/\tn i s'.heap/\(∀ b∈fp,H' b=none)/\W i n ys H') ?_ m0 ⟨0,[],_,_,List.length_replicate,J0,st3,λ b hb=>(fpl b hb).1.1,w0⟩;rintro n s' ⟨i,ys,os,H',los,Iv,st,fr,w⟩;obtain⟨hD,alt⟩:=turn i n ys H' w;have eP:X'.prog=X.prog:=by subst hX;rfl
  have eW:X'.w=X.w:=by subst hX;rfl
  have eK:X'.K=X.K:=by subst hX;rfl
  have eC:X'.calm=true:=by subst hX;exact hc
  have eA:X'.A=X.A:=by subst hX;rfl
  have eE:X'.env=compEnvC sc cl s3.heap.objs.size X.env:=by subst hX;rfl
  have eX:X'.xe = λ _ _=>False:=by subst hX;rfl
  rcases alt with⟨stop,q⟩ | ⟨go,hlen,step⟩
  ·have d:=T.done X' eP eW eK eC i [] s' _ H' (λ _ _=>False) Iv (stat fr) st stop;rw [eA] at d;refine aK d λ r s4 ⟨hr,I4⟩=>?_;subst hr;obtain⟨m,hm,_⟩:=id I4.loc;rw [eE] at hm;subst hX;exact⟨m,hm,λ h' hs'=>⟨.ref s2.heap.objs.size,H',dW I3 fpl (Nat.le_refl _) I4 hs',rfl,q⟩⟩
  ·have d:=T.item X' eP eW eK eC i [] s' _ H' (λ _ _=>False) Iv (stat fr) st go;rw [eA] at d;refine aK d λ r s4 ⟨u,hr,h4⟩=>?_;subst hr;refine aK h4 λ _ s5 ⟨y,H5,I5,r5,y5,st5,fr5⟩=>?_;have I5':=I5.pinned (stat fr5) (T.obj _ _ st5);have hg':PG X' tg g:=by subst hX;exact hg _ _ _ _
   have g6:=hg' _ s5 _ H5 y u _ I5' r5 (step y H5 y5 os los);rw [eP,eW,eA,eE,eX] at g6;refine aK g6 λ _ s6 ⟨σ6,H6,I6,⟨os',los',e6⟩,st6⟩=>?_;subst e6;have he':PE X' elt te:=by subst hX;exact he _ _ _ _
   have g7:=he' _ s6 _ H6 _ I6 st6;rw [eP,eW,eA,eE,eX] at g7;refine aK g7 λ uv s7 ⟨v7,H7,I7,r7,hD7,m',hm',w7⟩=>?_;have g8:=(cn (X:=X')) _ s7 _ H7 (.ref s2.heap.objs.size) [v7] (.ref s2.heap.objs.size) [uv] (λ _ H8=>H8=ae H7 s2.heap.objs.size (.lst (ys ++ [v7]))) I7 rfl (.cons r7 .nil) ⟨_,ys,v7,rfl,rfl,hD7,hlen,rfl⟩;rw [eP,eW,eA,eX] at g8;refine aK g8 λ _ s8 ⟨_,H8,I8,_,e8⟩=>?_;subst e8;refine⟨m',hm',i+1,ys ++ [v7],os',_,los',I8.unpinned,T.keep _ _ _ st5 λ b hb o e=>(I8.pin (b,o) (List.mem_append_right _ (List.mem_append_right _ (aF hb e)))).1,λ b hb=>?_,w7⟩;obtain⟨o',e',_⟩:=T.obj _ _ st5 b hb;exact(I8.pin (b,o') (List.mem_append_right _ (List.mem_append_right _ (aF hb e')))).2.1
 have st1:tn 0 h₁:=T.keep _ _ _ st2 λ b hb o e=>old b o (by rw [<- hs3];exact Heap.get?_push_of_some _ e)
 exact codeAny_compStart_list (loop _ rfl rfl rfl) (T.self _ 0 _ _ _ st1 (loop _ rfl rfl rfl))
variable {c:Expr}{tt:TT}
theorem eQ (hc:X.calm=true)(S:aU X sc cl ts zs js)(hi:PI X tg iter wi)(hg:∀ s H C fp,PG (aT X sc cl (ts++zs) s H C fp) tg g)(ht:∀ s H C fp,PT (aT X sc cl (ts++zs) s H C fp) c tt)(he:∀ s H C fp,PE (aT X sc cl (ts++zs) s H C fp) elt te)
  (hs:∀ v,foldedSetIterable iter X.env v=pure v:=by intro _;rfl):PE X (.ListComp elt [⟨tg,iter,[c],0⟩] sc pos) (cO wi ts.length js g tt te):=by
 intro pins s σ H Q I h;rw [eval_ListComp];refine wpAny_comprehension_free (use:=none) rfl hs S.clos S.kind S.names (aK (hi pins s σ H _ I h) λ v s1 h1=>aK h1 λ itv s2 h2=>?_);obtain⟨it,fp,tn,J,H2,e,I2,T,st2,f2,body⟩:=h2;subst e;have fr2:H2 s2.heap.objs.size=none:=I2.fresh;obtain⟨W,⟨m0,w0⟩,turn⟩:=body _ fr2;refine wpAny_newObj_type ?_;have I3:Inv X pins σ (ae H2 s2.heap.objs.size (.lst [])) { s2 with heap:=s2.heap.push { cls:=.type "list",data:=.seq ([]:List Value).toArray } }:=I2.lnew (t':=s2.toks) (ys:=[]) (its:=[]) .nil (Nat.zero_le _)
 refine wpAny_newFunctionEnv S.noCell (by intro y hy;simp at hy) (λ h₁ hn hsb=>?_) S.kind
 generalize hs3:({ s2 with heap:=s2.heap.push { cls:=.type "list",data:=.seq ([]:List Value).toArray } }:Shared)=s3 at I3 hn hsb ⊢
 have fpl:∀ b∈fp,cD X pins (ae H2 s2.heap.objs.size (.lst [])) b/\b<s3.heap.objs.size:=λ b hb=>by
  obtain⟨o,ho,_⟩:=T.obj _ _ st2 b hb;have hl:=Heap.lt_size ho;have hne:b≠s2.heap.objs.size:=Nat.ne_of_lt hl;obtain⟨z1,z2⟩:=f2 b hb;refine⟨⟨by rw [ag hne];exact z1,z2⟩,?_⟩
  rw [<- hs3];show b<(s2.heap.push _).objs.size;rw [Heap.size_push];exact Nat.lt_succ_of_lt hl
 have old:∀ b o,s3.heap.get? b=some o->h₁.get? b=some o:=λ b o e=>hsb.extBut b o (Nat.ne_of_lt (Heap.lt_size e)) (Heap.get?_push_of_some _ e);have loop:∀ sS:Shared,sS.heap=h₁->sS.os=s3.os->sS.gens=s3.gens->codeAny (model X.prog X.w) X.A (.compLoop (.ListComp elt [⟨tg,iter,[c],0⟩] sc pos) 0 (.ref it) (.ref s2.heap.objs.size) (compEnvC sc cl s3.heap.objs.size X.env))
   (compPost (model X.prog X.w) X.A X.xe none (EP X pins σ Q) (.ref s2.heap.objs.size) s3.heap.objs.size) sS:=by
  intro sS eh eo eg;subst eh;have J0:Inv (aT X sc cl (ts++zs) s3 (ae H2 s2.heap.objs.size (.lst [])) s3.heap.objs.size fp) [] (List.replicate ts.length none++cu js σ) (ae H2 s2.heap.objs.size (.lst [])) sS:=cR I3 S fpl (Nat.le_refl _) eo eg old hn;generalize hX:aT X sc cl (ts++zs) s3 (ae H2 s2.heap.objs.size (.lst [])) s3.heap.objs.size fp=X' at J0;have stat:∀{H':Hp},(∀ b∈fp,H' b=none)->∀ b∈fp,cD X' [] H' b:=λ {H'} hn b hb=>by
   subst hX;obtain⟨⟨_,z1,z2,z3,z4,z5⟩,z6⟩:=fpl b hb;refine⟨hn b hb,Nat.ne_of_lt z6,λ q=>?_,.inl hb,λ y c e=>z4 y c (S.sub _ _ e),λ p hp=>absurd (show p∈([]:List (Addr × Obj)) from hp) (by simp)⟩
   rcases List.mem_cons.mp (I3.stkSub b q) with e | e
   ·exact z1 e
   ·exact z2 e
  have st3:tn 0 sS.heap:=T.keep _ _ _ st2 λ b hb o e=>old b o (by rw [<- hs3];exact Heap.get?_push_of_some _ e)
  refine ic (λ n s'=>∃ i ys os H',os.length=ts.length/\Inv X' [] (os++cu js σ) H' s'/\tn i s'.heap/\(∀ b∈fp,H' b=none)/\W i n ys H') ?_ m0 ⟨0,[],_,_,List.length_replicate,J0,st3,λ b hb=>(fpl b hb).1.1,w0⟩;rintro n s' ⟨i,ys,os,H',los,Iv,st,fr,w⟩;obtain⟨hD,alt⟩:=turn i n ys H' w;have eP:X'.prog=X.prog:=by subst hX;rfl
  have eW:X'.w=X.w:=by subst hX;rfl
  have eK:X'.K=X.K:=by subst hX;rfl
  have eC:X'.calm=true:=by subst hX;exact hc
  have eA:X'.A=X.A:=by subst hX;rfl
  have eE:X'.env=compEnvC sc cl s3.heap.objs.size X.env:=by subst hX;rfl
  have eX:X'.xe = λ _ _=>False:=by subst hX;rfl
  rcases alt with⟨stop,q⟩ | ⟨go,hlen,step⟩
  ·have d:=T.done X' eP eW eK eC i [] s' _ H' (λ _ _=>False) Iv (stat fr) st stop;rw [eA] at d;refine aK d λ r s4 ⟨hr,I4⟩=>?_;subst hr;obtain⟨m,hm,_⟩:=id I4.loc;rw [eE] at hm;subst hX;exact⟨m,hm,λ h' hs'=>⟨.ref s2.heap.objs.size,H',dW I3 fpl (Nat.le_refl _) I4 hs',rfl,q⟩⟩
  ·have d:=T.item X' eP eW eK eC i [] s' _ H' (λ _ _=>False) Iv (stat fr) st go;rw [eA] at d;refine aK d λ r s4 ⟨u,hr,h4⟩=>?_;subst hr;refine aK h4 λ _ s5 ⟨y,H5,I5,r5,y5,st5,fr5⟩=>?_;have I5':=I5.pinned (stat fr5) (T.obj _ _ st5);have hg':PG X' tg g:=by subst hX;exact hg _ _ _ _
   have g6:=hg' _ s5 _ H5 y u _ I5' r5 (step y H5 y5 os los);rw [eP,eW,eA,eE,eX] at g6;refine aK g6 λ _ s6 ⟨σ6,H6,I6,⟨os',los',e6⟩,st6⟩=>?_;subst e6;have ht':PT X' c tt:=by subst hX;exact ht _ _ _ _
   have g0:=ht' _ s6 _ H6 _ I6 st6;rw [eP,eW,eA,eE,eX] at g0;refine aK g0 λ k sk ⟨Hk,Ik,qk⟩=>?_;cases k with
   | false =>
    obtain⟨m',hm',w7⟩:=qk.1 rfl;refine⟨λ _=>?_,λ z=>nomatch z⟩;refine⟨m',hm',i+1,ys,os',_,los',Ik.unpinned,T.keep _ _ _ st5 λ b hb o e=>(Ik.pin (b,o) (List.mem_append_right _ (List.mem_append_right _ (aF hb e)))).1,λ b hb=>?_,w7⟩;obtain⟨o',e',_⟩:=T.obj _ _ st5 b hb;exact(Ik.pin (b,o') (List.mem_append_right _ (List.mem_append_right _ (aF hb e')))).2.1
   | true =>
   refine⟨λ z=>(nomatch z),λ _=>?_⟩;have he':PE X' elt te:=by subst hX;exact he _ _ _ _
   have g7:=he' _ sk _ Hk _ Ik (qk.2 rfl);rw [eP,eW,eA,eE,eX] at g7;refine aK g7 λ uv s7 ⟨v7,H7,I7,r7,hD7,m',hm',w7⟩=>?_;have g8:=(cn (X:=X')) _ s7 _ H7 (.ref s2.heap.objs.size) [v7] (.ref s2.heap.objs.size) [uv] (λ _ H8=>H8=ae H7 s2.heap.objs.size (.lst (ys ++ [v7]))) I7 rfl (.cons r7 .nil) ⟨_,ys,v7,rfl,rfl,hD7,hlen,rfl⟩;rw [eP,eW,eA,eX] at g8;refine aK g8 λ _ s8 ⟨_,H8,I8,_,e8⟩=>?_;subst e8;refine⟨m',hm',i+1,ys ++ [v7],os',_,los',I8.unpinned,T.keep _ _ _ st5 λ b hb o e=>(I8.pin (b,o) (List.mem_append_right _ (List.mem_append_right _ (aF hb e)))).1,λ b hb=>?_,w7⟩;obtain⟨o',e',_⟩:=T.obj _ _ st5 b hb;exact(I8.pin (b,o') (List.mem_append_right _ (List.mem_append_right _ (aF hb e')))).2.1
 have st1:tn 0 h₁:=T.keep _ _ _ st2 λ b hb o e=>old b o (by rw [<- hs3];exact Heap.get?_push_of_some _ e)
 exact codeAny_compStart_list (loop _ rfl rfl rfl) (T.self _ 0 _ _ _ st1 (loop _ rfl rfl rfl))
end
end My
namespace My
open PySem PySem.W L2
structure dR (K:Frag)(D:Addr)(m:Str)(f:Addr):Prop where
 ga:specialIn K (.ref D) "__getattribute__" = some (some (.builtin "type.__getattribute__"))
 reads:readsIn K D (.type "type")=true
 at_:findCls K (.ref D) (.type "type") m=some (.val (.ref f))
 kp:keepIn K (.ref f)=true
section
variable {X:Cx}{CX:kr}{k:Nat}{f D:Addr}{fd:FuncData}{ps:List Str}{sp:Sp}{E:XK}{x m:Str}{p pos apos:Pos}{e:Expr}{es:List Expr}{t:TA}{dvs:List V}{ds:List Value}
theorem bF {pl:Sem Bool}(C:dR X.K D m f)(F:FnOk X.prog X.w X.K X.mg X.base CX k f fd ps sp)(hr:Room k X.A)(hg:Gl X x)(hm:X.mg x=some (.ref D))(hb:Binds X.K fd ps ds)(hd:Vals dvs ds)(hx:dm CX X E)(ha:PA X (e::es) t)
  (hdb:(x==("__debug__" : Str))=false:=by decide)(hst:starEach (e::es) X.env=(false,eval e X.env)::starEach es X.env:=by rfl)(hpl:(backTo pos (starEach es X.env)).any (·.1)=false:=by rfl)
  (htr:eval (.Call (.Attribute (.Name x p) m apos) (e::es) [] pos) X.env=(do
   let ov <- eval (.Name x p) X.env
   standAt apos.atName
   let (f,first) <- holding [ov] (getMethod ov m pl)
   callWith pos f first (backTo pos (starEach (e::es) X.env)) (backToKw pos (keywordEach [] X.env))):=by rfl) :
  PE X (.Call (.Attribute (.Name x p) m apos) (e::es) [] pos) (fY sp dvs E t):=by
 intro pins s σ H Q I h;refine PySem.W.methodCall_KW (pl:=pl) (eD I hg hm ?_ hdb) htr;refine method_cls I.kIn C.ga (cls_value I.kIn C.reads C.at_ rfl ?_);have I0:Inv X pins σ H { s with toks:=s.toks+1 }:=I.tok _
 refine PySem.W.callWith_K (h₀:=X.base) I.ok.mod.kin C.kp (aK (ha pos pins _ σ H _ I0 h) λ us s1 ⟨vs,H1,I1,r,q⟩=>⟨I1.kIn,?_⟩) hst hpl;exact jO F hr hb hd hx I1 r q
end
end My
namespace My
open PySem L2
open PySem.Builtin.Str (occurrences partsBetween strSub)
def Gg (c:Nat):Bool:=decide (48<=c)&&decide (c<=57)
def Da (L:List Nat):Bool:=!L.isEmpty && !(L.head?==some 48&&L != [48])&&L.all Gg
abbrev cs (z:Str):List Nat:=z.cps.toList
abbrev val (L:List Nat):Nat:=NumText.digitsVal L
def Gk (a b:List Nat):Bool:=Da a&&Da b&&decide (2<=val b)&&decide (1<=val a)&&decide (val a<val b)&&decide (Nat.gcd (val a) (val b)=1)
def rd (z:Str):Option (Nat × Nat) :=
 if z = "0" then some (0,1) else if z = "1" then some (1,1) else
  match Txt.split z ⟨#[47]⟩ with
  | [a,b]=>if Gk (cs a) (cs b)=true then some (val (cs a),val (cs b)) else none
  | _=>none
abbrev tx (n:Nat):Str:=Str.ofString (toString ((n:Nat):Int))
end My
namespace My
open PySem PySem.W L2
theorem cW {A B:Prop}(h:A):if true=true then A else B:=by rw [if_pos rfl];exact h
theorem cH {A B:Prop}(h:B):if false=true then A else B:=by rw [if_neg (by decide)];exact h
def Ext (H H':Hp):Prop:=∀ b o,H b=some o->H' b=some o
theorem Ext.refl (H:Hp):Ext H H:=λ _ _ h=>h
theorem Ext.trans {H H1 H2:Hp}(a:Ext H H1)(b:Ext H1 H2):Ext H H2:=λ x o h=>b x o (a x o h)
theorem Ext.new {H:Hp}{p:Addr}{o:HO}(h:H p=none):Ext H (ae H p o):=λ b u e=>by rw [ag (cK e h)];exact e
theorem SqT.ext {K:Frag}{H H':Hp}{p:Addr}{xs:List V}(h:SqT K H p xs)(e:Ext H H'):SqT K H' p xs:=by
 rcases h with h | h
 ·left;rcases h with h | ⟨o,h⟩
  ·exact .inl (e _ _ h)
  ·exact .inr ⟨o,e _ _ h⟩
 ·exact .inr h
theorem SqL.ext {K:Frag}{H H':Hp}{s:Addr}{xs:List V}(h:SqL K H s xs)(x:Ext H H'):SqL K H' s xs:=by
 rcases h with h | h
 ·rcases h with h | ⟨o,h⟩
  ·exact .inl (.inl (x _ _ h))
  ·exact .inl (.inr ⟨o,x _ _ h⟩)
 ·exact .inr h
theorem gl {X:Cx}{x:Str}{n:String}{pos:Pos}(hg:Gl X x)(hm:X.mg x=none)(hv:bootBuiltins x=some (.type n))(hn:x ≠ "__name__" := by decide +kernel)(hd:(x==("__debug__" : Str))=false:=by decide):PE X (.Name x pos) (tC (.ty n)) :=
 uF hg hm hv (show RelV (.ty n) (.type n) from rfl) hn hd
def Kd (K:Frag)(H:Hp)(x:V)(t:Value):Prop:=TyOf K H x t\/(∃ p xs,x=.ref p/\SqT K H p xs/\t=.type "tuple")\/(∃ a C,x=.ref a/\ErrAt H a C/\pE K C/\t=.ref C)
def Fp (K:Frag):List V->Hp->VK->Prop:=λ vs H Q=>∃ x n t b,vs=[x,.ty n]/\Kd K H x t/\kitOne K t (.type n)=some b/\Q (.bl b) H
theorem cA {X:Cx}(N:sd X.K):cG X (.builtin "isinstance") (Fp X.K):=by
 intro pins s σ H xs us Q I r h;obtain⟨x,n,t,b,rfl,kd,e,q⟩:=h;obtain⟨u,u',rfl,ru,ru'⟩:=ik r;cases (show u'=Value.type n from ru');rcases kd with ty | ⟨p,ys,rfl,hq,rfl⟩ | ⟨a,C,rfl,ea,T,rfl⟩
 ·exact iX I ru ty e λ tk=>⟨.bl b,H,I.tok _,rfl,q⟩
 ·cases (show u=Value.ref p from ru);obtain⟨its,_,⟨o,h1,h2,_⟩,_⟩:=I.tuple hq;exact kia_one kitx_tuple I.kIn ⟨o,h1,h2⟩ e (λ z=>nomatch z) λ tk=>⟨.bl b,H,I.tok _,rfl,q⟩
 ·cases (show u=Value.ref a from ru);exact kia_one (rM T N.gt N.tk) I.kIn (ea.inst I.hok) e (λ z=>nomatch z) λ tk=>⟨.bl b,H,I.tok _,rfl,q⟩
theorem ErrAt.ext {H H':Hp}{a C:Addr}(e:ErrAt H a C)(x:Ext H H'):ErrAt H' a C:=by
 rcases e with e | ⟨dx,fs,e1,e2⟩
 ·exact .inl (x _ _ e)
 ·exact .inr ⟨dx,fs,x _ _ e1,x _ _ e2⟩
theorem TyOf.ext {K:Frag}{H H':Hp}{x:V}{t:Value}(h:TyOf K H x t)(e:Ext H H'):TyOf K H' x t:=by
 cases h with
 | non=>exact .non
 | bl b=>exact .bl b
 | int i=>exact .int i
 | str z=>exact .str z
 | flt z=>exact .flt z
 | lst q=>exact .lst (e _ _ q)
 | frz q=>exact .frz (e _ _ q)
 | tup q=>exact .tup (e _ _ q)
 | dK q=>exact .dK (e _ _ q)
 | dT q=>exact .dT (e _ _ q)
 | ins q cl ha hn htk hm=>exact .ins (e _ _ q) cl ha hn htk hm
theorem Kd.ext {K:Frag}{H H':Hp}{x:V}{t:Value}(h:Kd K H x t)(e:Ext H H'):Kd K H' x t:=by
 rcases h with ty | ⟨p,ys,rfl,hq,rfl⟩ | ⟨a,C,rfl,ea,T,rfl⟩
 ·exact .inl (My.TyOf.ext ty e)
 ·exact .inr (.inl ⟨p,ys,rfl,My.SqT.ext hq e,rfl⟩)
 ·exact .inr (.inr ⟨a,C,rfl,ea.ext e,T,rfl⟩)
def BT (K:Frag)(H:Hp)(x:V):Prop:=(∀ i,x ≠ .int i)/\∃ t b1 b2,Kd K H x t/\kitOne K t (.type "int")=some b1/\kitOne K t (.type "bool")=some b2/\(b1 && !b2)=false
def Th (K:Frag)(H:Hp)(x:V):Prop:=(∃ i,x=.int i)\/BT K H x
def CQ:V->Bool
 | .int _=>true
 | _=>false
def inB (lo hi:Int):V->Bool
 | .int i=>decide (lo<=i)&&decide (i<=hi)
 | _=>false
theorem jG {x:V}(h:∀ i,x ≠ .int i):CQ x=false:=by
 cases x with
 | int i=>exact absurd rfl (h i)
 | _=>rfl
theorem zr {lo hi:Int}{x:V}(h:∀ i,x ≠ .int i):inB lo hi x=false:=by
 cases x with
 | int i=>exact absurd rfl (h i)
 | _=>rfl
section
variable {P:Program}{w:World}{K:Frag}{mg:Str->Option Value}{base:Heap}
theorem Db:kitOne K (.type "int") (.type "int")=some true:=rfl
theorem BN:kitOne K (.type "int") (.type "bool")=some false:=rfl
end
set_option exponentiation.threshold 10000
def tJ:Key->PyData
 | .inl i=>.int i
 | .inr x=>.str x
 | .non=>.none
mutual
inductive Rds (G:Hp):V->PyData->Prop
 | non:Rds G .non .none
 | bl (b:Bool):Rds G (.bl b) (.bool b)
 | int (i:Int):Rds G (.int i) (.int i)
 | str (x:Str):Rds G (.str x) (.str x)
 | lst {a:Addr}{xs:List V}{ds:List PyData}:G a=some (.lst xs)->RdsAll G xs ds->Rds G (.ref a) (.list ds)
 | tup {a:Addr}{xs:List V}{ds:List PyData}:G a=some (.tup xs)->RdsAll G xs ds->Rds G (.ref a) (.tuple ds)
 | dic0 {a:Addr}:G a=some (.dK [])->Rds G (.ref a) (.dict [])
 | dic {a:Addr}{k:Key}{v:V}{d:PyData}:G a=some (.dK [(k,v)])->Rds G v d->Rds G (.ref a) (.dict [(tJ k,d)])
inductive RdsAll (G:Hp):List V->List PyData->Prop
 | nil:RdsAll G [] []
 | cons {v:V}{vs:List V}{d:PyData}{ds:List PyData}:Rds G v d->RdsAll G vs ds->RdsAll G (v::vs) (d::ds)
end
mutual
theorem Rds.mono {G G':Hp}(s:Ext G G'):∀{v:V}{d:PyData},Rds G v d->Rds G' v d
 | _,_,.non=>.non
 | _,_,.bl b=>.bl b
 | _,_,.int i=>.int i
 | _,_,.str x=>.str x
 | _,_,.lst e r=>.lst (s _ _ e) (RdsAll.mono s r)
 | _,_,.tup e r=>.tup (s _ _ e) (RdsAll.mono s r)
 | _,_,.dic0 e=>.dic0 (s _ _ e)
 | _,_,.dic e r=>.dic (s _ _ e) (Rds.mono s r)
theorem RdsAll.mono {G G':Hp}(s:Ext G G'):∀{vs:List V}{ds:List PyData},RdsAll G vs ds->RdsAll G' vs ds
 | _,_,.nil=>.nil
 | _,_,.cons r t=>.cons (Rds.mono s r) (RdsAll.mono s t)
end
theorem RdsAll.length {G:Hp}:∀{vs:List V}{ds:List PyData},RdsAll G vs ds->vs.length=ds.length
 | _,_,.nil=>rfl
 | _,_,.cons _ t=>by rw [List.length_cons,List.length_cons,t.length]
theorem RdsAll.append {G:Hp}:∀{vs ws:List V}{ds es:List PyData},RdsAll G vs ds->RdsAll G ws es->RdsAll G (vs++ws) (ds++es)
 | _,_,_,_,.nil,s=>s
 | _,_,_,_,.cons r t,s=>.cons r (t.append s)
section
variable {P:Program}{w:World}{H:Hp}{h:Heap}
theorem oH {k:Key}{u:Value}(r:(bu P w).is k u=true):Reads h u (tJ k) []:=by
 rw [mQ] at r;rcases aS r with⟨i,t,rfl,rfl⟩ | ⟨x,t,rfl,rfl⟩ | ⟨rfl,rfl⟩
 ·exact .int i t
 ·exact .str x t
 ·exact .none
theorem zK {es:List DictEntry}(ps:Pairs (bu P w) es ([]:List (Key × Value))):es=[]:=by
 cases ps;rfl
theorem wT {es:List DictEntry}{k:Key}{u:Value}(ps:Pairs (bu P w) es [(k,u)]):∃ e,es=[e]/\(bu P w).is k e.key=true/\e.val=u:=by
 cases ps with
 | cons h1 h2 h3 =>
  cases h3;exact⟨_,rfl,h1,h2⟩
mutual
theorem lE (ok:HOk P w H h)(z:H sysModules=none):∀{v:V}{d:PyData}{u:Value},Rds H v d->RelV v u->∃ as,Reads h u d as/\sysModules ∉ as
 | _,_,_,.non,r=>by cases r;exact⟨[],.none,by simp⟩
 | _,_,_,.bl b,r=>by cases r;exact⟨[],.bool b,by simp⟩
 | _,_,_,.int i,r=>by obtain⟨t,rfl⟩:=r;exact⟨[],.int i t,by simp⟩
 | _,_,_,.str x,r=>by obtain⟨t,rfl⟩:=r;exact⟨[],.str x t,by simp⟩
 | _,_,_,.lst (a:=a) e t,r=>by
  cases r;obtain⟨_,its,n,rv,ho⟩:=(show ObjOk P w H h _ (.lst _) from ok _ _ e);obtain⟨as,ra,na⟩:=readsAll_of ok z t rv;refine⟨a::as,.list ho rfl rfl (by simpa using ra),?_⟩
  intro m;rcases List.mem_cons.mp m with m | m
  ·rw [<- m,z] at e;cases e
  ·exact na m
 | _,_,_,.tup (a:=a) e t,r=>by
  cases r;obtain⟨_,its,rv,o,ho,hc,n,hd⟩:=(show ObjOk P w H h _ (.tup _) from ok _ _ e);obtain⟨as,ra,na⟩:=readsAll_of ok z t rv;exact⟨as,.tuple ho hc hd (by simpa using ra),na⟩
 | _,_,_,.dic0 (a:=a) e,r=>by
  cases r;obtain⟨_,hs,vs,kv,o,es,ep,ho,hx,hd,hks,hps,hnd⟩:=(show ObjOk P w H h _ (.dK _) from ok _ _ e);cases kv;have ee:es.toList=[]:=zK hps;refine⟨a :: [] ++ [],.dict (kvs:=[]) ho hx.1 hd (by rw [ee];exact .nil) (by rw [ee];exact .nil),?_⟩
  intro m;have m':sysModules=a:=by simpa using m
  rw [<- m',z] at e;cases e
 | _,_,_,.dic (a:=a) (k:=k) e t,r=>by
  cases r;obtain⟨_,hs,vs,kv,o,es,ep,ho,hx,hd,hks,hps,hnd⟩:=(show ObjOk P w H h _ (.dK _) from ok _ _ e);cases kv with
  | cons q q' =>
   cases q';obtain⟨hq1,hq2⟩:=q;obtain⟨e0,ee,ek,ev⟩:=wT hps;rw [<- ev] at hq2;rw [<- hq1] at ek;obtain⟨as,ra,na⟩:=lE ok z t hq2;have rk:ReadsAll h [e0.key] [tJ k] ([] ++ []):=.cons (oH ek) .nil;have rv:ReadsAll h [e0.val] [_] (as ++ []):=.cons ra .nil;refine⟨a::([] ++ [])++(as ++ []),.dict (kvs:=[(tJ k,_)]) ho hx.1 hd (by rw [ee];exact rk) (by rw [ee];exact rv),?_⟩
   intro m;rw [List.append_nil,List.append_nil] at m;rcases List.mem_cons.mp m with m | m
   ·rw [<- m,z] at e;cases e
   ·exact na (by simpa using m)
theorem readsAll_of (ok:HOk P w H h)(z:H sysModules=none):∀{vs:List V}{ds:List PyData}{us:List Value},RdsAll H vs ds->Vals vs us->∃ as,ReadsAll h us ds as/\sysModules ∉ as
 | _,_,_,.nil,r=>by cases r;exact⟨[],.nil,by simp⟩
 | _,_,_,.cons r t,rv=>by
  cases rv with
  | cons q qs =>
   obtain⟨as,ra,na⟩:=lE ok z r q;obtain⟨bs,rb,nb⟩:=readsAll_of ok z t qs;refine⟨as++bs,.cons ra rb,λ m=>?_⟩;rcases List.mem_append.mp m with m | m
   ·exact na m
   ·exact nb m
end
end
def oj:PyData->String
 | .none => "NoneType"
 | .bool _ => "bool"
 | .int _ => "int"
 | .str _ => "str"
 | .list _ => "list"
 | .tuple _ => "tuple"
 | _ => "dict"
def xO:PyData->Bool
 | .tuple _=>true
 | _=>false
def tM:PyData->Bool
 | .bool _=>true
 | _=>false
def jB (lo hi:Int):PyData->Bool
 | .int i=>decide (lo<=i)&&decide (i<=hi)
 | _=>false
section
variable {K:Frag}{H:Hp}{v:V}{d:PyData}
theorem Rds.ty (r:Rds H v d):TyOf K H v (.type (oj d)):=by
 cases r with
 | non=>exact .non
 | bl b=>exact .bl b
 | int i=>exact .int i
 | str x=>exact .str x
 | lst e _=>exact .lst e
 | tup e _=>exact .tup e
 | dic0 e=>exact .dK e
 | dic e _=>exact .dK e
theorem Rds.kd (r:Rds H v d):Kd K H v (.type (oj d)):=.inl r.ty
theorem Rds.isT (r:Rds H v d):kitOne K (.type (oj d)) (.type "tuple")=some (xO d):=by cases r <;> rfl
theorem Rds.isB (r:Rds H v d):kitOne K (.type (oj d)) (.type "bool")=some (tM d):=by cases r <;> rfl
theorem Rds.th (r:Rds H v d):Th K H v:=by
 cases r with
 | int i=>exact .inl ⟨i,rfl⟩
 | non=>exact .inr ⟨λ i z=>(by cases z),_,_,_,.inl .non,rfl,rfl,rfl⟩
 | bl b=>exact .inr ⟨λ i z=>(by cases z),_,_,_,.inl (.bl b),rfl,rfl,rfl⟩
 | str x=>exact .inr ⟨λ i z=>(by cases z),_,_,_,.inl (.str x),rfl,rfl,rfl⟩
 | lst e _=>exact .inr ⟨λ i z=>(by cases z),_,_,_,.inl (.lst e),rfl,rfl,rfl⟩
 | tup e _=>exact .inr ⟨λ i z=>(by cases z),_,_,_,.inl (.tup e),rfl,rfl,rfl⟩
 | dic0 e=>exact .inr ⟨λ i z=>(by cases z),_,_,_,.inl (.dK e),rfl,rfl,rfl⟩
 | dic e _=>exact .inr ⟨λ i z=>(by cases z),_,_,_,.inl (.dK e),rfl,rfl,rfl⟩
theorem Rds.inB (r:Rds H v d)(lo hi:Int):My.inB lo hi v=jB lo hi d:=by cases r <;> rfl
theorem fG (r:Rds H v (.tuple ds)):∃ a xs,v=.ref a/\H a=some (.tup xs)/\RdsAll H xs ds:=by
 cases r with
 | tup e t=>exact⟨_,_,rfl,e,t⟩
theorem RdsAll.get {xs:List V}{ds:List PyData}(r:RdsAll H xs ds):∀{i:Nat}{x:V},xs[i]?=some x->∃ d,ds[i]?=some d/\Rds H x d:=by
 induction xs generalizing ds with
 | nil=>intro i x h;simp at h
 | cons y ys ih =>
  cases r with
  | cons q t =>
   intro i x h;cases i with
   | zero=>cases h;exact⟨_,rfl,q⟩
   | succ i=>exact ih t h
end
end My
namespace My
open PySem L2
structure Bx (p:Prop):Prop where
 h:p
section
variable {X:Cx}{e a b:Expr}{es:List Expr}{te ta tb:TE}{t:TA}{pos:Pos}{st:Stmt}{rest:List Stmt}{ts u v:TS}
theorem bN:Bx (PA X [] aL):=⟨ao⟩
theorem fh (ha:Bx (PE X e te))(hr:Bx (PA X es t))(hs:starEach (e::es) X.env=(false,eval e X.env)::starEach es X.env:=by rfl):Bx (PA X (e::es) (am te t)):=⟨ac ha.h hr.h hs⟩
theorem ig (h:Bx (PA X es t)):Bx (PE X (.List es pos) (cL t)):=⟨dh h.h⟩
theorem eO {x1}(h:Bx (PA X es t)):Bx (PE X (.Tuple es x1 pos) (iD t)):=⟨bJ h.h⟩
theorem Do {r:R2}(hr:BR X r)(ha:Bx (PE X a ta))(hb:Bx (PE X b tb))(hs:kc b:=by exact λ _ _=>rfl):Bx (PE X (.Subscript a b pos) (aB r ta tb)):=⟨c8 hr ha.h hb.h hs⟩
theorem fP (h:Bx (PE X e te)):Bx (PS X (.Return (some e) pos) (cX te)):=⟨cZ h.h⟩
theorem eF:Bx (PSs X [] cp):=⟨gz⟩
theorem aY (h:Bx (PS X st ts)):Bx (PSs X [st] ts):=⟨bc h.h⟩
theorem cQ (h:Bx (PS X st ts))(k:Bx (PSs X rest u)):Bx (PSs X (st::rest) (aV ts u)):=⟨bZ h.h k.h⟩
theorem iu {c:Expr}{x y:List Stmt}{tc:TT}(hc:Bx (PT X c tc))(hx:Bx (PSs X x u))(hy:Bx (PSs X y v)):Bx (PS X (.If c x y pos) (fc tc u v)):=⟨bB hc.h hx.h hy.h⟩
theorem aW {i:Nat}{x:Str}{pos':Pos}(hN:X.N.Nodup)(hi:X.N[i]?=some x)(hx:yD X.env.scope x)(he:Bx (PE X e te))(hs:swapsWith e (some (.Name x pos')) pos.line X.env=pure false:=by rfl)(hf:X.fn x=true\/X.env.scope.names.lookup x=some .local:=by first | exact .inl rfl | exact .inr rfl | assumption) :
  Bx (PS X (.Assign [.Name x pos'] e pos) (cj te (aP i))):=⟨gW hN hi hx he.h hs hf⟩
end
end My
namespace My
open PySem PySem.W L2
open AutoSeq1 (wpAny_loadPart')
section
variable {prog:Program}{w:World}{A:Around}{E:Value->Shared->Prop}{s:Shared}{r:Addr}{a b c:Int}{t u v:Tok}{n:Nat}
theorem iS {Q:List Value->Shared->Prop}(hh:A.handled=none)(hr:IsRange s.heap r a b c t u v)(hsmall:Builtin.Range.small a b c=true)(hn:Builtin.Range.rangeSize a b c=n)(hlen:n<=2^24)
  (hQ:∀ h' tk acc,(∀ b o,s.heap.get? b=some o->h'.get? b=some o)->ItemsOf (λ i v=>∃ t,v=.int (a+i*c) t) acc n->Q acc.toList { s with heap:=h',toks:=tk }) :
  wpAny (model prog w) A (collect (.ref r)) Q E s:=by
 unfold collect;refine wpAny_bind (wpAny_runValue (codeAny_builtin F.entry_proto_collect ?_));rw [Around.under_plainId F.plain_proto_collect _];show wpAny _ A.in1 (newList [] >>= λ l=>again (.builtin "list.__iadd__" ⟨[l,.ref r],[]⟩)) _ _ s;refine wpAny_bind (wpAny_newObj_type ?_);refine wpAny_pure ⟨plainId_quiet F.plain_list_iadd _,codeAny_builtin F.entry_list_iadd ?_⟩;rw [Around.under_plainId F.plain_list_iadd _];show wpAny _ A.in1 (Builtin.List.listExtendWith (.ref s.heap.objs.size) (.ref r) (.ref s.heap.objs.size)) _ _ _;have hS:(s.heap.push { cls:=.type "list",data:=.seq ([]:List Value).toArray }).get? s.heap.objs.size=some { cls:=.type "list",data:=.seq #[] 0 }:=Heap.get?_push_size _ rfl;refine wpAny_mono (wpAny_extend_range (A:=A) (R:=λ x s'=>∃ h' tk acc c',x=.ok (.ret (.ref s.heap.objs.size))/\s'={ s with heap:=h',toks:=tk }/\(∀ b o,s.heap.get? b=some o->h'.get? b=some o)/\h'.get? s.heap.objs.size=some { cls:=.type "list",dict:=none,data:=.seq acc c',slots:=#[] }/\ItemsOf (λ i v=>∃ t,v=.int (a+i*c) t) acc n)
  (s:={ s with heap:=s.heap.push { cls:=.type "list",data:=.seq ([]:List Value).toArray } }) hh (Heap.get?_push_of_some _ hr) hsmall hn hlen s.heap.objs.size (.ref s.heap.objs.size) 0 hS (λ h' tk acc c' hk hS' hacc=>⟨h',tk,acc,c',rfl,rfl,λ b o e=>hk b o (Nat.ne_of_lt (Heap.lt_size e)) (Heap.get?_push_of_some _ e),hS',hacc⟩)) (λ fin s' h=>?_) (λ e s' h=>?_)
 ·have fin':∀ s'',(∃ h' tk acc c',s''={ s with heap:=h',toks:=tk }/\(∀ b o,s.heap.get? b=some o->h'.get? b=some o)/\h'.get? s.heap.objs.size=some { cls:=.type "list",dict:=none,data:=.seq acc c',slots:=#[] }/\ItemsOf (λ i v=>∃ t,v=.int (a+i*c) t) acc n)->wpAny (model prog w) A (match Value.ref s.heap.objs.size with
   | Value.ref a=>do
    match (<- load a).data with
     | Data.seq xs _=>pure xs.toList
     | _=>unsupported "internal:collect"
   | _=>unsupported "internal:collect") Q E s'':=λ s'' hx=>by
   obtain⟨h',tk,acc,c',rfl,hk,hS',hacc⟩:=hx;show wpAny _ A (load s.heap.objs.size>>=_) _ _ _;refine wpAny_bind (wpAny_load hS' ?_);exact wpAny_pure (hQ h' tk acc hk hacc)
  cases fin with
  | done f =>
   obtain⟨h',tk,acc,c',e,h⟩:=h;cases e;exact fin' _ ⟨h',tk,acc,c',h⟩
  | again c'=>exact⟨h.1,codeAny_mono h.2 λ x s'' hr=>by obtain⟨h',tk,acc,c',rfl,hr⟩:=hr;exact fin' _ ⟨h',tk,acc,c',hr⟩⟩
 ·obtain⟨_,_,_,_,e,_⟩:=h;cases e
end
theorem ff (r:Addr)(a b c:Int)(t u v:Tok)(n:Nat)(hsmall:Builtin.Range.small a b c=true)(hn:Builtin.Range.rangeSize a b c=n)(hlen:n<=2^24) :
  Meets (Builtin.«tuple.__new__» ⟨[.type "tuple",.ref r],[]⟩)
   (λ A R s=>A.handled=none/\IsRange s.heap r a b c t u v/\∀(h':Heap)(tk:Nat)(acc:Array Value),(∀ b o',s.heap.get? b=some o'->h'.get? b=some o')->ItemsOf (λ i v=>∃ t,v=.int (a+i*c) t) acc n->R (.ok (.ret (.ref h'.objs.size))) { s with heap:=h'.push { cls:=.type "tuple",data:=.seq acc },toks:=tk }) :=
 .of_wp λ prog w A R s h=>by
  obtain⟨hh,hr,h⟩:=h;have hsub:=sub_tuple_self;have hinit:=init_tuple_lookup;have hmh:=madeHere_tuple;have hT:s.TypeIs (.ref r) "range" :=⟨_,hr,rfl⟩;have hh1:A.in1.handled=none:=hh
  wp_walk using wpAny_typeOf hT,iS hh1 hr hsmall hn hlen
  intro h' tk acc hk hacc;show wpAny _ _ (Builtin.Tuple.tupleExact acc.toList.toArray >>= λ v=>ret v) _ _ _;unfold Builtin.Tuple.tupleExact;refine wpAny_bind (wpAny_newObj_type ?_ (show acc.toList.toArray.size<=sizeLine by simp only [Array.toArray_toList];rw [hacc.1,sizeLine_eq];omega))
  refine wpAny_pure ⟨_,rfl,?_⟩;have e:acc.toList.toArray=acc:=by simp
  rw [e];exact h h' tk acc hk hacc
theorem gu {prog:Program}{w:World}{A:Around}{E:Value->Shared->Prop}{s:Shared}{r:Addr}{a b c:Int}{t u v:Tok}{n:Nat}{Q:Value->Shared->Prop}(hh:A.handled=none)(hr:IsRange s.heap r a b c t u v)(hsmall:Builtin.Range.small a b c=true)(hn:Builtin.Range.rangeSize a b c=n)(hlen:n<=2^24)
  (h:∀(h':Heap)(tk:Nat)(acc:Array Value),(∀ b o',s.heap.get? b=some o'->h'.get? b=some o')->ItemsOf (λ i v=>∃ t,v=.int (a+i*c) t) acc n->Q (.ref h'.objs.size) { s with heap:=h'.push { cls:=.type "tuple",data:=.seq acc },toks:=tk }) :
  wpAny (model prog w) A (call (.type "tuple") [.ref r]) Q E s :=
 callType_new F.called_tuple (by decide) (F.typeCall_tuple_1 _) (F.newCall_tuple_1 _) (λ obj=>F.args_object_init_2 obj _) F.entry_tuple_new
  (ff r a b c t u v n hsmall hn hlen) ⟨hh,hr,λ h' tk acc hk hacc=>⟨⟨_,Heap.get?_push_size _ rfl,rfl⟩,h h' tk acc hk hacc⟩⟩
def rj (lo:Int)(n:Nat):List V:=(List.range n).map λ i=>V.int (lo+(i:Nat))
theorem fO (lo:Int)(n:Nat):(rj lo n).length=n:=by unfold rj;simp
theorem lV {lo:Int}{n:Nat}{acc:Array Value}(h:ItemsOf (λ i v=>∃ t,v=Value.int (lo+i*1) t) acc n):Vals (rj lo n) acc.toList:=by
 have gen:∀(xs:List V)(us:List Value),xs.length=us.length->(∀(i:Nat) x u,xs[i]?=some x->us[i]?=some u->RelV x u)->Vals xs us:=by
  intro xs
  induction xs with
  | nil=>intro us l _;cases us with | nil=>exact .nil | cons _ _=>cases l
  | cons x xs ih =>
   intro us l g;cases us with
   | nil=>cases l
   | cons u us=>exact .cons (g 0 x u rfl rfl) (ih us (by simpa using l) λ i x' u' h1 h2=>g (i+1) x' u' h1 h2)
 refine gen _ _ (by rw [fO];simp [h.1]) λ i x u hx hu=>?_
 unfold rj at hx;rw [List.getElem?_map] at hx;obtain⟨j,hj,rfl⟩:=Option.map_eq_some_iff.mp hx;have ej:i=j:=by
  have:=List.getElem?_eq_some_iff.mp hj
  simpa using this.2
 subst ej;obtain⟨t,e⟩:=h.2 i u (by simpa using hu)
 refine⟨t,?_⟩;rw [e,Int.mul_one]
section
variable {X:Cx}
def qP:List V->Hp->VK->Prop:=λ vs H Q=>∃ j:Int,vs=[.int j]/\∀ r,H r=none->Q (.ref r) (ae H r (.rng 0 j))
theorem i3:cG X (.type "range") qP:=by
 intro pins s σ H xs us Q I r h;obtain⟨j,rfl,q⟩:=h;obtain⟨u,rfl,t,rfl⟩:=dA r;refine call_range_1 ⟨.ref s.heap.objs.size,_,I.laid (t':=s.toks+1+1) (o:=.rng 0 j) (λ b o e=>Heap.get?_push_of_some _ e) (Nat.le_refl _) ?_,rfl,q _ (I.hok.fresh (Nat.le_refl _))⟩;exact⟨_,_,_,Heap.get?_push_size _ rfl⟩
def B2:List V->Hp->VK->Prop:=λ vs H Q=>∃(p:Addr)(lo hi:Int),vs=[.ref p]/\H p=some (.rng lo hi)/\(-(2^62)<=lo/\lo<2^62/\-(2^62)<=hi/\hi<2^62)/\(hi-lo).toNat<=2^24/\∀ l,H l=none->Q (.ref l) (ae H l (.tup (rj lo (hi-lo).toNat)))
theorem i6 (hc:X.calm=true):cG X (.type "tuple") B2:=by
 intro pins s σ H xs us Q I r h;obtain⟨p,lo,hi,rfl,hp,⟨b1,b2,b3,b4⟩,hl,q⟩:=h;obtain⟨u,rfl,rx⟩:=dA r;cases (show u=Value.ref p from rx);obtain⟨t,u,v,e⟩:=(show ObjOk X.prog X.w H s.heap p (.rng lo hi) from I.hok p _ hp);have en:Builtin.Range.rangeSize lo hi 1=(((hi-lo).toNat:Nat):Int):=by rw [rangeSize_one];split <;> omega
 refine gu (I.ok.hd hc) e (small_one b1 b2 b3 b4) en hl λ h' tk acc kp hacc=>?_;have I1:Inv X pins σ H { s with heap:=h' }:=I.kept (t':=s.toks) kp
 have ha:acc.toList.toArray=acc:=by simp
 have I2:Inv X pins σ (ae H h'.objs.size (.tup (rj lo (hi-lo).toNat))) { s with heap:=h'.push { cls:=.type "tuple",data:=.seq acc },toks:=tk } :=
  I1.laid (t':=tk) (λ b o e=>Heap.get?_push_of_some _ e) (Nat.le_refl _) (show ObjOk X.prog X.w _ _ _ (.tup _) from⟨by rw [fO,sizeLine_eq];omega,acc.toList,lV hacc,by rw [ha];exact PyProof.Rows.IsTup.new _ _⟩)
 exact⟨.ref h'.objs.size,_,I2,rfl,q _ (I1.hok.fresh (Nat.le_refl _))⟩
def oy:List V->Hp->VK->Prop:=λ vs H Q=>∃(p:Addr)(lo hi:Int),vs=[.ref p]/\H p=some (.rng lo hi)/\(-(2^62)<=lo/\lo<2^62/\-(2^62)<=hi/\hi<2^62)/\(hi-lo).toNat<=2^24/\∀ l,H l=none->Q (.ref l) (ae H l (.lst (rj lo (hi-lo).toNat)))
theorem jp (hc:X.calm=true):cG X (.type "list") oy:=by
 intro pins s σ H xs us Q I r h;obtain⟨p,lo,hi,rfl,hp,⟨b1,b2,b3,b4⟩,hl,q⟩:=h;obtain⟨u,rfl,rx⟩:=dA r;cases (show u=Value.ref p from rx);obtain⟨t,u,v,e⟩:=(show ObjOk X.prog X.w H s.heap p (.rng lo hi) from I.hok p _ hp);have en:Builtin.Range.rangeSize lo hi 1=(((hi-lo).toNat:Nat):Int):=by rw [rangeSize_one];split <;> omega
 refine call_list_range (I.ok.hd hc) e (small_one b1 b2 b3 b4) en hl λ h' tk acc c' kp hS hacc=>?_;have ha:acc.toList.toArray=acc:=by simp
 have I2:Inv X pins σ (ae H s.heap.objs.size (.lst (rj lo (hi-lo).toNat))) { s with heap:=h',toks:=tk } :=
  I.laid (t':=tk) kp (Nat.le_refl _) (show ObjOk X.prog X.w _ _ _ (.lst _) from⟨by rw [fO,sizeLine_eq];omega,acc.toList,c',lV hacc,by rw [ha];exact hS⟩)
 exact⟨.ref s.heap.objs.size,_,I2,rfl,q _ (I.hok.fresh (Nat.le_refl _))⟩
end
end My
namespace My
open PySem L2
section
variable {X:Cx}
theorem jd:∀(xs:List Bool),(List.range xs.length).all (λ i=>xs.getD i false)=xs.all id
 | []=>rfl
 | x::xs=>by
  have ih:=jd xs;rw [List.length_cons,List.range_succ_eq_map,List.all_cons,List.all_map,List.all_cons,<- ih];rfl
def BU (K:PySem.W.Frag):List V->Hp->VK->Prop:=λ vs H Q=>∃(l:Addr)(xs:List Bool),vs=[.ref l]/\SqL K H l (xs.map V.bl)/\Q (.bl (xs.all id)) H
theorem lL (hc:X.calm=true):cG X (.builtin "all") (BU X.K):=by
 intro pins s σ H vs us Q I r h;obtain⟨l,xs,rfl,hl,q⟩:=h;obtain⟨u,rfl,ru⟩:=dA r;cases (show u=Value.ref l from ru);obtain⟨its,rv,t,hz⟩:=I.list hl;have ll:l<s.heap.objs.size:=by obtain⟨_,e,_⟩:=t.isList;exact Heap.lt_size e
 have len:=rv.length;rw [List.length_map] at len;refine call_all_walk (wpAny_pyIter_list t.isList ?_);refine⟨s.heap.objs.size,[s.heap.objs.size,l],[s.heap.objs.size],its.toArray.size,(λ i v=>its.toArray[i]?=some v),_,λ i=>xs.getD i false,rfl,Walks.list (A:=X.A.in1) (I.ok.hd hc) s.heap.objs.size l (Nat.ne_of_lt ll) its.toArray,
  ⟨⟨_,Heap.get?_push_size _ rfl,rfl,rfl⟩,t.isList.push _⟩,λ i v s' Q' E' hv hq=>?_,λ h' tk hk=>⟨.bl _,H,I.kept (h':=h') (t':=tk) (λ b o e=>hk b o (λ m=>?_) (Heap.get?_push_of_some _ e)),?_,q⟩⟩
 ·have hv':its[i]?=some v:=by simpa using hv
  have lt:i<its.length:=(List.getElem?_eq_some_iff.mp hv').1;have lt2:i<xs.length:=by omega
  obtain⟨u1,e1,q1⟩:=rv.get (i:=i) (x:=V.bl xs[i]) (by rw [List.getElem?_map,List.getElem?_eq_getElem lt2];rfl)
  rw [hv'] at e1;cases e1;cases (show v=Value.bool xs[i] from q1);refine wpAny_truthy_bool ?_;have e:xs.getD i false=xs[i]:=by simp [lt2]
  rw [<- e];exact hq
 ·rcases List.mem_cons.mp m with e2 | m
  ·exact absurd (Heap.lt_size e) (by rw [e2];exact Nat.lt_irrefl _)
  ·cases m
 ·show Value.bool _=Value.bool _;have e:=jd xs;rw [<- e,List.size_toArray,<- len]
end
end My
namespace My
open PySem PySem.W L2
section
variable {K:Frag}{te:TE}{tt:TT}{g:TG}{k:Nat}{cap:St}{D:Addr}{H1:Hp}{Q:Hp->Prop}{a:Addr}{xs:List V}
theorem bz (Pv:Nat->List V->Hp->Prop)(hz:xs.length<sizeLine)(h0:Pv 0 [] (ae H1 D (.lst [])))
  (hl:∀ i ys H,Pv i ys H->SqL K H a xs)
  (hs:∀ i x ys H,xs[i]?=some x->ys.length=i->H D=some (.lst ys)->Pv i ys H->∀ os:St,os.length=k->∀ R:VK,(∀ y H4,H4 D=some (.lst ys)->Pv (i+1) (ys ++ [y]) (ae H4 D (.lst (ys ++ [y])))->R y H4)->g x (os++cap) H λ σ2 H0=>(∃ os':St,os'.length=k/\σ2=os'++cap)/\te σ2 H0 R)
  (hd:∀ ys H,ys.length=xs.length->H D=some (.lst ys)->Pv xs.length ys H->Q H) :
  ∃ W:Nat->Nat->List V->Hp->Prop,(∃ m,W 0 m [] (ae H1 D (.lst []))) /\
   ∀ i m ys H2,W i m ys H2->H2 D=some (.lst ys)/\(((kq K a).stop i H2/\Q H2)\/((kq K a).go i H2/\ys.length<sizeLine /\
    ∀ x H3,(kq K a).yld i H2 x H3->∀ os:St,os.length=k->g x (os++cap) H3 λ σ2 H0=>(∃ os':St,os'.length=k/\σ2=os'++cap)/\te σ2 H0 λ y H4=>H4 D=some (.lst ys)/\∃ m',m'<m/\W (i+1) m' (ys ++ [y]) (ae H4 D (.lst (ys ++ [y]))))):=by
 refine⟨λ i m ys H=>m=xs.length-i/\i<=xs.length/\ys.length=i/\H D=some (.lst ys)/\Pv i ys H,⟨xs.length,by simp,Nat.zero_le _,rfl,aR,h0⟩,?_⟩
 rintro i m ys H ⟨rfl,hi,hy,hD,p⟩;refine⟨hD,?_⟩;have q:=hl i ys H p;by_cases hlt:i<xs.length
 ·refine .inr ⟨⟨xs,xs[i],q,by simp [hlt]⟩,by omega,λ x H' y=>?_⟩
  obtain⟨e,y⟩:=y;subst e;exact λ os los=>hs i x ys _ (y xs q) hy hD p os los _ λ z H4 hD4 p4=>⟨hD4,xs.length-(i+1),by omega,rfl,hlt,by rw [List.length_append,hy];rfl,aR,p4⟩
 ·have e:i=xs.length:=by omega
  subst e;exact .inl ⟨⟨xs,q,Nat.le_refl _⟩,hd ys H hy hD p⟩
theorem qY (Pv:Nat->List V->Hp->Prop)(hz:xs.length<sizeLine)(h0:Pv 0 [] (ae H1 D (.lst [])))
  (hl:∀ i ys H,Pv i ys H->SqL K H a xs)
  (hs:∀ i x ys H p,xs[i]?=some x->ys.length=i->H D=some (.lst ys)->Pv i ys H->H p=none->∀ os:St,os.length=k->∀ R:VK,(∀ y H4,H4 D=some (.lst ys)->Pv (i+1) (ys ++ [y]) (ae H4 D (.lst (ys ++ [y])))->R y H4)->g (.ref p) (os++cap) (ae H p (.tup [.int (i:Nat),x])) λ σ2 H0=>(∃ os':St,os'.length=k/\σ2=os'++cap)/\te σ2 H0 R)
  (hd:∀ ys H,ys.length=xs.length->H D=some (.lst ys)->Pv xs.length ys H->Q H) :
  ∃ W:Nat->Nat->List V->Hp->Prop,(∃ m,W 0 m [] (ae H1 D (.lst []))) /\
   ∀ i m ys H2,W i m ys H2->H2 D=some (.lst ys)/\(((rJ K a).stop i H2/\Q H2)\/((rJ K a).go i H2/\ys.length<sizeLine /\
    ∀ x H3,(rJ K a).yld i H2 x H3->∀ os:St,os.length=k->g x (os++cap) H3 λ σ2 H0=>(∃ os':St,os'.length=k/\σ2=os'++cap)/\te σ2 H0 λ y H4=>H4 D=some (.lst ys)/\∃ m',m'<m/\W (i+1) m' (ys ++ [y]) (ae H4 D (.lst (ys ++ [y]))))):=by
 refine⟨λ i m ys H=>m=xs.length-i/\i<=xs.length/\ys.length=i/\H D=some (.lst ys)/\Pv i ys H,⟨xs.length,by simp,Nat.zero_le _,rfl,aR,h0⟩,?_⟩
 rintro i m ys H ⟨rfl,hi,hy,hD,p⟩;refine⟨hD,?_⟩;have q:=hl i ys H p;by_cases hlt:i<xs.length
 ·refine .inr ⟨⟨xs,xs[i],q,by simp [hlt]⟩,by omega,λ x H' y=>?_⟩
  obtain⟨p',z,rfl,hp',rfl,hz'⟩:=y;exact λ os los=>hs i z ys H p' (hz' xs q) hy hD p hp' os los _ λ z H4 hD4 p4=>⟨hD4,xs.length-(i+1),by omega,rfl,hlt,by rw [List.length_append,hy];rfl,aR,p4⟩
 ·have e:i=xs.length:=by omega
  subst e;exact .inl ⟨⟨xs,q,Nat.le_refl _⟩,hd ys H hy hD p⟩
end
end My
namespace My
open PySem L2
section
variable {X:Cx}{sc:Scope}{cl:List (Str × Addr)}{ts zs:List Str}{js:List Nat}{elt iter c:Expr}{pos:Pos}{tg:Expr}{g:TG}{wi:TI}{te:TE}{tt:TT}
theorem mw {y:Str}{py spos:Pos}{iy:Nat}(hc:X.calm=true)(S:aU X sc cl ts zs js)(hi:PI X tg iter wi)(hg:∀ s H C fp,PG (aT X sc cl (ts++zs) s H C fp) tg g)(he:∀ s H C fp,PE (aT X sc cl (ts++zs) s H C fp) elt te)
  (hN:X.N.Nodup)(hiy:X.N[iy]?=some y)(hy:yD X.env.scope y)(hsw:swapsWith (.ListComp elt [⟨tg,iter,[],0⟩] sc pos) (some (.Name y py)) spos.line X.env=pure true)
  (hf:X.fn y=true\/X.env.scope.names.lookup y=some .local:=by first | exact .inl rfl | exact .inr rfl | assumption)
  (hs:∀ v,foldedSetIterable iter X.env v=pure v:=by intro _;rfl):PS X (.Assign [.Name y py] (.ListComp elt [⟨tg,iter,[],0⟩] sc pos) spos) (cj (c7 wi ts.length js g te) (aP iy)):=by
 intro pins s σ H De I h;rw [exec_Assign_Name_used _ _ _ _ hsw];refine wpAny_bind (wpAny_standAt (wpAny_bind ?_));show wpAny _ _ (do let _ <- comprehension (.ListComp elt [⟨tg,iter,[],0⟩] sc pos) sc X.env _ (newList []) false (eval iter X.env) (some (assign (.Name y py) X.env))) _ _ s
 refine wpAny_bind (wpAny_mono (wpAny_comprehension_free (use:=some (assign (.Name y py) X.env)) (Q:=λ _ s'=>SP X pins De .next s') rfl hs S.clos S.kind S.names ?_) (λ _ s' hq=>wpAny_pure (wpAny_pure hq)) λ _ _ e=>e);refine(aK (hi pins s σ H _ I h) λ v s1 h1=>aK h1 λ itv s2 h2=>?_);obtain⟨it,fp,tn,J,H2,e,I2,T,st2,f2,body⟩:=h2;subst e;have fr2:H2 s2.heap.objs.size=none:=I2.fresh;obtain⟨W,⟨m0,w0⟩,turn⟩:=body _ fr2;refine wpAny_newObj_type ?_;have I3:Inv X pins σ (ae H2 s2.heap.objs.size (.lst [])) { s2 with heap:=s2.heap.push { cls:=.type "list",data:=.seq ([]:List Value).toArray } }:=I2.lnew (t':=s2.toks) (ys:=[]) (its:=[]) .nil (Nat.zero_le _)
 refine wpAny_newFunctionEnv S.noCell (by intro y hy;simp at hy) (λ h₁ hn hsb=>?_) S.kind
 generalize hs3:({ s2 with heap:=s2.heap.push { cls:=.type "list",data:=.seq ([]:List Value).toArray } }:Shared)=s3 at I3 hn hsb ⊢
 have fpl:∀ b∈fp,cD X pins (ae H2 s2.heap.objs.size (.lst [])) b/\b<s3.heap.objs.size:=λ b hb=>by
  obtain⟨o,ho,_⟩:=T.obj _ _ st2 b hb;have hl:=Heap.lt_size ho;have hne:b≠s2.heap.objs.size:=Nat.ne_of_lt hl;obtain⟨z1,z2⟩:=f2 b hb;refine⟨⟨by rw [ag hne];exact z1,z2⟩,?_⟩
  rw [<- hs3];show b<(s2.heap.push _).objs.size;rw [Heap.size_push];exact Nat.lt_succ_of_lt hl
 have old:∀ b o,s3.heap.get? b=some o->h₁.get? b=some o:=λ b o e=>hsb.extBut b o (Nat.ne_of_lt (Heap.lt_size e)) (Heap.get?_push_of_some _ e);have loop:∀ sS:Shared,sS.heap=h₁->sS.os=s3.os->sS.gens=s3.gens->codeAny (model X.prog X.w) X.A (.compLoop (.ListComp elt [⟨tg,iter,[],0⟩] sc pos) 0 (.ref it) (.ref s2.heap.objs.size) (compEnvC sc cl s3.heap.objs.size X.env))
   (compPost (model X.prog X.w) X.A X.xe (some (assign (.Name y py) X.env)) (λ _ s'=>SP X pins De .next s') (.ref s2.heap.objs.size) s3.heap.objs.size) sS:=by
  intro sS eh eo eg;subst eh;have J0:Inv (aT X sc cl (ts++zs) s3 (ae H2 s2.heap.objs.size (.lst [])) s3.heap.objs.size fp) [] (List.replicate ts.length none++cu js σ) (ae H2 s2.heap.objs.size (.lst [])) sS:=cR I3 S fpl (Nat.le_refl _) eo eg old hn;generalize hX:aT X sc cl (ts++zs) s3 (ae H2 s2.heap.objs.size (.lst [])) s3.heap.objs.size fp=X' at J0;have stat:∀{H':Hp},(∀ b∈fp,H' b=none)->∀ b∈fp,cD X' [] H' b:=λ {H'} hn b hb=>by
   subst hX;obtain⟨⟨_,z1,z2,z3,z4,z5⟩,z6⟩:=fpl b hb;refine⟨hn b hb,Nat.ne_of_lt z6,λ q=>?_,.inl hb,λ y c e=>z4 y c (S.sub _ _ e),λ p hp=>absurd (show p∈([]:List (Addr × Obj)) from hp) (by simp)⟩
   rcases List.mem_cons.mp (I3.stkSub b q) with e | e
   ·exact z1 e
   ·exact z2 e
  have st3:tn 0 sS.heap:=T.keep _ _ _ st2 λ b hb o e=>old b o (by rw [<- hs3];exact Heap.get?_push_of_some _ e)
  refine gy (λ n s'=>∃ i ys os H',os.length=ts.length/\Inv X' [] (os++cu js σ) H' s'/\tn i s'.heap/\(∀ b∈fp,H' b=none)/\W i n ys H') ?_ m0 ⟨0,[],_,_,List.length_replicate,J0,st3,λ b hb=>(fpl b hb).1.1,w0⟩;rintro n s' ⟨i,ys,os,H',los,Iv,st,fr,w⟩;obtain⟨hD,alt⟩:=turn i n ys H' w;have eP:X'.prog=X.prog:=by subst hX;rfl
  have eW:X'.w=X.w:=by subst hX;rfl
  have eK:X'.K=X.K:=by subst hX;rfl
  have eC:X'.calm=true:=by subst hX;exact hc
  have eA:X'.A=X.A:=by subst hX;rfl
  have eE:X'.env=compEnvC sc cl s3.heap.objs.size X.env:=by subst hX;rfl
  have eX:X'.xe = λ _ _=>False:=by subst hX;rfl
  rcases alt with⟨stop,q⟩ | ⟨go,hlen,step⟩
  ·have d:=T.done X' eP eW eK eC i [] s' _ H' (λ _ _=>False) Iv (stat fr) st stop;rw [eA] at d;refine aK d λ r s4 ⟨hr,I4⟩=>?_;subst hr;obtain⟨m,hm,_⟩:=id I4.loc;have fC:H' s3.heap.objs.size=none:=by
    have z:=I4.free;rw [eE] at z;exact z
   rw [eE] at hm;subst hX;have I5:Inv X pins σ H' s4:=dW (h':=s4.heap) I3 fpl (Nat.le_refl _) I4 ⟨rfl,λ _ _=>rfl⟩;show wpAny _ _ (assign (.Name y py) X.env (.ref s2.heap.objs.size)) _ _ s4;have nC:∀ b,b<s3.heap.objs.size->b≠s3.heap.objs.size:=λ b hb=>Nat.ne_of_lt hb;have nL:X.env.locals≠s3.heap.objs.size:=nC _ I3.lt;have cl3:∀ z c,X.env.cells.lookup z=some c->c≠s3.heap.objs.size:=λ z c e=>by
    obtain⟨v,o,ho,_⟩:=I3.cell z c e;exact nC _ (Heap.lt_size ho)
   refine wpAny_assign_Name (gF I5 hN hiy hy (v:=.ref s2.heap.objs.size) rfl (λ s5 I6 hb=>?_) hf);obtain⟨a5,sb5,ha5⟩:=hb;have na5:s3.heap.objs.size≠a5:=by
    rcases ha5 with e | e
    ·rw [e];exact nL.symm
    ·exact(cl3 _ _ e).symm
   refine⟨m,hm.sameBut sb5 na5,λ h' hs'=>?_⟩;have I7:Inv X pins (σ.set iy (some (.ref s2.heap.objs.size))) H' { s5 with heap:=h',toks:=s5.toks } :=
    I6.turned (h':=h') (t':=s5.toks) (it:=s3.heap.objs.size) (λ b o hb e=>(hs'.2 b hb).trans e) fC nL.symm (.inr I3.sz) cl3 λ p hp=>by
     obtain⟨e1,_⟩:=I3.pin p hp;exact nC _ (Heap.lt_size e1)
   exact⟨_,H',I7,q⟩
  ·have d:=T.item X' eP eW eK eC i [] s' _ H' (λ _ _=>False) Iv (stat fr) st go;rw [eA] at d;refine aK d λ r s4 ⟨u,hr,h4⟩=>?_;subst hr;refine aK h4 λ _ s5 ⟨y,H5,I5,r5,y5,st5,fr5⟩=>?_;have I5':=I5.pinned (stat fr5) (T.obj _ _ st5);have hg':PG X' tg g:=by subst hX;exact hg _ _ _ _
   have g6:=hg' _ s5 _ H5 y u _ I5' r5 (step y H5 y5 os los);rw [eP,eW,eA,eE,eX] at g6;refine aK g6 λ _ s6 ⟨σ6,H6,I6,⟨os',los',e6⟩,st6⟩=>?_;subst e6;have he':PE X' elt te:=by subst hX;exact he _ _ _ _
   have g7:=he' _ s6 _ H6 _ I6 st6;rw [eP,eW,eA,eE,eX] at g7;refine aK g7 λ uv s7 ⟨v7,H7,I7,r7,hD7,m',hm',w7⟩=>?_;have g8:=(cn (X:=X')) _ s7 _ H7 (.ref s2.heap.objs.size) [v7] (.ref s2.heap.objs.size) [uv] (λ _ H8=>H8=ae H7 s2.heap.objs.size (.lst (ys ++ [v7]))) I7 rfl (.cons r7 .nil) ⟨_,ys,v7,rfl,rfl,hD7,hlen,rfl⟩;rw [eP,eW,eA,eX] at g8;refine aK g8 λ _ s8 ⟨_,H8,I8,_,e8⟩=>?_;subst e8;refine⟨m',hm',i+1,ys ++ [v7],os',_,los',I8.unpinned,T.keep _ _ _ st5 λ b hb o e=>(I8.pin (b,o) (List.mem_append_right _ (List.mem_append_right _ (aF hb e)))).1,λ b hb=>?_,w7⟩;obtain⟨o',e',_⟩:=T.obj _ _ st5 b hb;exact(I8.pin (b,o') (List.mem_append_right _ (List.mem_append_right _ (aF hb e')))).2.1
 have st1:tn 0 h₁:=T.keep _ _ _ st2 λ b hb o e=>old b o (by rw [<- hs3];exact Heap.get?_push_of_some _ e)
 exact codeAny_compStart_list (loop _ rfl rfl rfl) (T.self _ 0 _ _ _ st1 (loop _ rfl rfl rfl))
theorem oh {y:Str}{py spos:Pos}{iy:Nat}(hc:X.calm=true)(S:aU X sc cl ts zs js)(hi:PI X tg iter wi)(hg:∀ s H C fp,PG (aT X sc cl (ts++zs) s H C fp) tg g)(ht:∀ s H C fp,PT (aT X sc cl (ts++zs) s H C fp) c tt)(he:∀ s H C fp,PE (aT X sc cl (ts++zs) s H C fp) elt te)
  (hN:X.N.Nodup)(hiy:X.N[iy]?=some y)(hy:yD X.env.scope y)(hsw:swapsWith (.ListComp elt [⟨tg,iter,[c],0⟩] sc pos) (some (.Name y py)) spos.line X.env=pure true)
  (hf:X.fn y=true\/X.env.scope.names.lookup y=some .local:=by first | exact .inl rfl | exact .inr rfl | assumption)
  (hs:∀ v,foldedSetIterable iter X.env v=pure v:=by intro _;rfl):PS X (.Assign [.Name y py] (.ListComp elt [⟨tg,iter,[c],0⟩] sc pos) spos) (cj (cO wi ts.length js g tt te) (aP iy)):=by
 intro pins s σ H De I h;rw [exec_Assign_Name_used _ _ _ _ hsw];refine wpAny_bind (wpAny_standAt (wpAny_bind ?_));show wpAny _ _ (do let _ <- comprehension (.ListComp elt [⟨tg,iter,[c],0⟩] sc pos) sc X.env _ (newList []) false (eval iter X.env) (some (assign (.Name y py) X.env))) _ _ s
 refine wpAny_bind (wpAny_mono (wpAny_comprehension_free (use:=some (assign (.Name y py) X.env)) (Q:=λ _ s'=>SP X pins De .next s') rfl hs S.clos S.kind S.names ?_) (λ _ s' hq=>wpAny_pure (wpAny_pure hq)) λ _ _ e=>e);refine(aK (hi pins s σ H _ I h) λ v s1 h1=>aK h1 λ itv s2 h2=>?_);obtain⟨it,fp,tn,J,H2,e,I2,T,st2,f2,body⟩:=h2;subst e;have fr2:H2 s2.heap.objs.size=none:=I2.fresh;obtain⟨W,⟨m0,w0⟩,turn⟩:=body _ fr2;refine wpAny_newObj_type ?_;have I3:Inv X pins σ (ae H2 s2.heap.objs.size (.lst [])) { s2 with heap:=s2.heap.push { cls:=.type "list",data:=.seq ([]:List Value).toArray } }:=I2.lnew (t':=s2.toks) (ys:=[]) (its:=[]) .nil (Nat.zero_le _)
 refine wpAny_newFunctionEnv S.noCell (by intro y hy;simp at hy) (λ h₁ hn hsb=>?_) S.kind
 generalize hs3:({ s2 with heap:=s2.heap.push { cls:=.type "list",data:=.seq ([]:List Value).toArray } }:Shared)=s3 at I3 hn hsb ⊢
 have fpl:∀ b∈fp,cD X pins (ae H2 s2.heap.objs.size (.lst [])) b/\b<s3.heap.objs.size:=λ b hb=>by
  obtain⟨o,ho,_⟩:=T.obj _ _ st2 b hb;have hl:=Heap.lt_size ho;have hne:b≠s2.heap.objs.size:=Nat.ne_of_lt hl;obtain⟨z1,z2⟩:=f2 b hb;refine⟨⟨by rw [ag hne];exact z1,z2⟩,?_⟩
  rw [<- hs3];show b<(s2.heap.push _).objs.size;rw [Heap.size_push];exact Nat.lt_succ_of_lt hl
 have old:∀ b o,s3.heap.get? b=some o->h₁.get? b=some o:=λ b o e=>hsb.extBut b o (Nat.ne_of_lt (Heap.lt_size e)) (Heap.get?_push_of_some _ e);have loop:∀ sS:Shared,sS.heap=h₁->sS.os=s3.os->sS.gens=s3.gens->codeAny (model X.prog X.w) X.A (.compLoop (.ListComp elt [⟨tg,iter,[c],0⟩] sc pos) 0 (.ref it) (.ref s2.heap.objs.size) (compEnvC sc cl s3.heap.objs.size X.env))
   (compPost (model X.prog X.w) X.A X.xe (some (assign (.Name y py) X.env)) (λ _ s'=>SP X pins De .next s') (.ref s2.heap.objs.size) s3.heap.objs.size) sS:=by
  intro sS eh eo eg;subst eh;have J0:Inv (aT X sc cl (ts++zs) s3 (ae H2 s2.heap.objs.size (.lst [])) s3.heap.objs.size fp) [] (List.replicate ts.length none++cu js σ) (ae H2 s2.heap.objs.size (.lst [])) sS:=cR I3 S fpl (Nat.le_refl _) eo eg old hn;generalize hX:aT X sc cl (ts++zs) s3 (ae H2 s2.heap.objs.size (.lst [])) s3.heap.objs.size fp=X' at J0;have stat:∀{H':Hp},(∀ b∈fp,H' b=none)->∀ b∈fp,cD X' [] H' b:=λ {H'} hn b hb=>by
   subst hX;obtain⟨⟨_,z1,z2,z3,z4,z5⟩,z6⟩:=fpl b hb;refine⟨hn b hb,Nat.ne_of_lt z6,λ q=>?_,.inl hb,λ y c e=>z4 y c (S.sub _ _ e),λ p hp=>absurd (show p∈([]:List (Addr × Obj)) from hp) (by simp)⟩
   rcases List.mem_cons.mp (I3.stkSub b q) with e | e
   ·exact z1 e
   ·exact z2 e
  have st3:tn 0 sS.heap:=T.keep _ _ _ st2 λ b hb o e=>old b o (by rw [<- hs3];exact Heap.get?_push_of_some _ e)
  refine ic (λ n s'=>∃ i ys os H',os.length=ts.length/\Inv X' [] (os++cu js σ) H' s'/\tn i s'.heap/\(∀ b∈fp,H' b=none)/\W i n ys H') ?_ m0 ⟨0,[],_,_,List.length_replicate,J0,st3,λ b hb=>(fpl b hb).1.1,w0⟩;rintro n s' ⟨i,ys,os,H',los,Iv,st,fr,w⟩;obtain⟨hD,alt⟩:=turn i n ys H' w;have eP:X'.prog=X.prog:=by subst hX;rfl
  have eW:X'.w=X.w:=by subst hX;rfl
  have eK:X'.K=X.K:=by subst hX;rfl
  have eC:X'.calm=true:=by subst hX;exact hc
  have eA:X'.A=X.A:=by subst hX;rfl
  have eE:X'.env=compEnvC sc cl s3.heap.objs.size X.env:=by subst hX;rfl
  have eX:X'.xe = λ _ _=>False:=by subst hX;rfl
  rcases alt with⟨stop,q⟩ | ⟨go,hlen,step⟩
  ·have d:=T.done X' eP eW eK eC i [] s' _ H' (λ _ _=>False) Iv (stat fr) st stop;rw [eA] at d;refine aK d λ r s4 ⟨hr,I4⟩=>?_;subst hr;obtain⟨m,hm,_⟩:=id I4.loc;have fC:H' s3.heap.objs.size=none:=by
    have z:=I4.free;rw [eE] at z;exact z
   rw [eE] at hm;subst hX;have I5:Inv X pins σ H' s4:=dW (h':=s4.heap) I3 fpl (Nat.le_refl _) I4 ⟨rfl,λ _ _=>rfl⟩;show wpAny _ _ (assign (.Name y py) X.env (.ref s2.heap.objs.size)) _ _ s4;have nC:∀ b,b<s3.heap.objs.size->b≠s3.heap.objs.size:=λ b hb=>Nat.ne_of_lt hb;have nL:X.env.locals≠s3.heap.objs.size:=nC _ I3.lt;have cl3:∀ z c,X.env.cells.lookup z=some c->c≠s3.heap.objs.size:=λ z c e=>by
    obtain⟨v,o,ho,_⟩:=I3.cell z c e;exact nC _ (Heap.lt_size ho)
   refine wpAny_assign_Name (gF I5 hN hiy hy (v:=.ref s2.heap.objs.size) rfl (λ s5 I6 hb=>?_) hf);obtain⟨a5,sb5,ha5⟩:=hb;have na5:s3.heap.objs.size≠a5:=by
    rcases ha5 with e | e
    ·rw [e];exact nL.symm
    ·exact(cl3 _ _ e).symm
   refine⟨m,hm.sameBut sb5 na5,λ h' hs'=>?_⟩;have I7:Inv X pins (σ.set iy (some (.ref s2.heap.objs.size))) H' { s5 with heap:=h',toks:=s5.toks } :=
    I6.turned (h':=h') (t':=s5.toks) (it:=s3.heap.objs.size) (λ b o hb e=>(hs'.2 b hb).trans e) fC nL.symm (.inr I3.sz) cl3 λ p hp=>by
     obtain⟨e1,_⟩:=I3.pin p hp;exact nC _ (Heap.lt_size e1)
   exact⟨_,H',I7,q⟩
  ·have d:=T.item X' eP eW eK eC i [] s' _ H' (λ _ _=>False) Iv (stat fr) st go;rw [eA] at d;refine aK d λ r s4 ⟨u,hr,h4⟩=>?_;subst hr;refine aK h4 λ _ s5 ⟨y,H5,I5,r5,y5,st5,fr5⟩=>?_;have I5':=I5.pinned (stat fr5) (T.obj _ _ st5);have hg':PG X' tg g:=by subst hX;exact hg _ _ _ _
   have g6:=hg' _ s5 _ H5 y u _ I5' r5 (step y H5 y5 os los);rw [eP,eW,eA,eE,eX] at g6;refine aK g6 λ _ s6 ⟨σ6,H6,I6,⟨os',los',e6⟩,st6⟩=>?_;subst e6;have ht':PT X' c tt:=by subst hX;exact ht _ _ _ _
   have g0:=ht' _ s6 _ H6 _ I6 st6;rw [eP,eW,eA,eE,eX] at g0;refine aK g0 λ k sk ⟨Hk,Ik,qk⟩=>?_;cases k with
   | false =>
    obtain⟨m',hm',w7⟩:=qk.1 rfl;refine⟨λ _=>?_,λ z=>nomatch z⟩;refine⟨m',hm',i+1,ys,os',_,los',Ik.unpinned,T.keep _ _ _ st5 λ b hb o e=>(Ik.pin (b,o) (List.mem_append_right _ (List.mem_append_right _ (aF hb e)))).1,λ b hb=>?_,w7⟩;obtain⟨o',e',_⟩:=T.obj _ _ st5 b hb;exact(Ik.pin (b,o') (List.mem_append_right _ (List.mem_append_right _ (aF hb e')))).2.1
   | true =>
   refine⟨λ z=>(nomatch z),λ _=>?_⟩;have he':PE X' elt te:=by subst hX;exact he _ _ _ _
   have g7:=he' _ sk _ Hk _ Ik (qk.2 rfl);rw [eP,eW,eA,eE,eX] at g7;refine aK g7 λ uv s7 ⟨v7,H7,I7,r7,hD7,m',hm',w7⟩=>?_;have g8:=(cn (X:=X')) _ s7 _ H7 (.ref s2.heap.objs.size) [v7] (.ref s2.heap.objs.size) [uv] (λ _ H8=>H8=ae H7 s2.heap.objs.size (.lst (ys ++ [v7]))) I7 rfl (.cons r7 .nil) ⟨_,ys,v7,rfl,rfl,hD7,hlen,rfl⟩;rw [eP,eW,eA,eX] at g8;refine aK g8 λ _ s8 ⟨_,H8,I8,_,e8⟩=>?_;subst e8;refine⟨m',hm',i+1,ys ++ [v7],os',_,los',I8.unpinned,T.keep _ _ _ st5 λ b hb o e=>(I8.pin (b,o) (List.mem_append_right _ (List.mem_append_right _ (aF hb e)))).1,λ b hb=>?_,w7⟩;obtain⟨o',e',_⟩:=T.obj _ _ st5 b hb;exact(I8.pin (b,o') (List.mem_append_right _ (List.mem_append_right _ (aF hb e')))).2.1
 have st1:tn 0 h₁:=T.keep _ _ _ st2 λ b hb o e=>old b o (by rw [<- hs3];exact Heap.get?_push_of_some _ e)
 exact codeAny_compStart_list (loop _ rfl rfl rfl) (T.self _ 0 _ _ _ st1 (loop _ rfl rfl rfl))
end
end My
namespace My
open PySem PySem.W L2
def vy (K:PySem.W.Frag)(n:Nat)(t:tL):TG:=λ v σ H Q=>∃ a xs,v=.ref a/\SqL K H a xs/\xs.length=n/\t xs σ H Q
section
variable {X:Cx}{pos:Pos}
theorem t9 {es:List Expr}{k:Nat}{t:tL}{n:Nat}(hc:X.calm=true)(h:Bs X es t)
  (hn:(assignEach es X.env).length=n:=by rfl)(hst:(assignEach es X.env).findIdx? (·.1)=none:=by rfl):PG X (.Tuple es k pos) (vy X.K n t):=by
 intro pins s σ H v u Q I r hw;obtain⟨a,xs,e1,hq,hl,hw⟩:=hw;subst e1;cases r;obtain⟨its,rv,ht,hz⟩:=I.list hq;rw [PyProof.Rows.assign_Tuple];refine wpAny_bind (wpAny_standAt ?_);unfold unpack;rw [hst,show(assignEach es X.env).length=its.toArray.size by rw [hn,List.size_toArray,<- rv.length];exact hl.symm]
 refine wpAny_bind (wpAny_holding (kun_itemsOf (I.ok.hd hc) ht.isList λ h' hx=>?_));have I1:Inv X pins σ H { s with heap:=h' }:=I.kept (t':=s.toks) λ b o e=>hx b o (Nat.ne_of_lt (Heap.lt_size e)) e
 exact h pins _ σ H xs _ Q I1 (by simpa using rv) hw
variable {K:Frag}{te:TE}{g:TG}{k:Nat}{cap:St}{D:Addr}{H1:Hp}{Q:Hp->Prop}
theorem jr {lo:Int}{n:Nat}(Pv:Nat->List V->Hp->Prop)(hz:n<sizeLine)(h0:Pv 0 [] (ae H1 D (.lst [])))
  (hs:∀ i ys H,i<n->ys.length=i->H D=some (.lst ys)->Pv i ys H->∀ os:St,os.length=k->∀ R:VK,(∀ y H4,H4 D=some (.lst ys)->Pv (i+1) (ys ++ [y]) (ae H4 D (.lst (ys ++ [y])))->R y H4)->g (.int (lo+i)) (os++cap) H λ σ2 H0=>(∃ os':St,os'.length=k/\σ2=os'++cap)/\te σ2 H0 R)
  (hd:∀ ys H,ys.length=n->H D=some (.lst ys)->Pv n ys H->Q H) :
  ∃ W:Nat->Nat->List V->Hp->Prop,(∃ m,W 0 m [] (ae H1 D (.lst []))) /\
   ∀ i m ys H2,W i m ys H2->H2 D=some (.lst ys)/\(((uT lo n).stop i H2/\Q H2)\/((uT lo n).go i H2/\ys.length<sizeLine /\
    ∀ x H3,(uT lo n).yld i H2 x H3->∀ os:St,os.length=k->g x (os++cap) H3 λ σ2 H0=>(∃ os':St,os'.length=k/\σ2=os'++cap)/\te σ2 H0 λ y H4=>H4 D=some (.lst ys)/\∃ m',m'<m/\W (i+1) m' (ys ++ [y]) (ae H4 D (.lst (ys ++ [y]))))):=by
 refine⟨λ i m ys H=>m=n-i/\i<=n/\ys.length=i/\H D=some (.lst ys)/\Pv i ys H,⟨n,by simp,Nat.zero_le _,rfl,aR,h0⟩,?_⟩
 rintro i m ys H ⟨rfl,hi,hy,hD,p⟩;refine⟨hD,?_⟩;by_cases hlt:i<n
 ·refine .inr ⟨hlt,by omega,λ x H' y=>?_⟩
  obtain⟨e,y⟩:=y;subst e y;exact λ os los=>hs i ys _ hlt hy hD p os los _ λ z H4 hD4 p4=>⟨hD4,n-(i+1),by omega,rfl,hlt,by rw [List.length_append,hy];rfl,aR,p4⟩
 ·have e:i=n:=by omega
  subst e;exact .inl ⟨Nat.le_refl _,hd ys H hy hD p⟩
theorem iO:∀{ns:List Int}{its:List Value},Vals (ns.map V.int) its->∃ xs:List (Int × Tok),its=xs.map (λ p=>Value.int p.1 p.2)/\ns=xs.map (·.1)
 | [],_,r=>by cases r;exact⟨[],rfl,rfl⟩
 | n::ns,_,r=>by
  rw [List.map_cons] at r;cases r with
  | cons r1 r2 =>
   obtain⟨t,rfl⟩:=r1;obtain⟨xs,e1,e2⟩:=iO r2;exact⟨(n,t)::xs,by rw [e1];rfl,by rw [e2];rfl⟩
theorem ph {xs:List (Int × Tok)}{i:Nat}(h:i<xs.length):numAt xs.toArray i=(xs.map (·.1))[i]'(by rw [List.length_map];exact h):=by
 simp [numAt,h]
end
structure fz (K:Frag)(mg:Str->Option Value)(D:Addr)(nm fld:Str)(C f:Addr)(fd:FuncData):Prop where
 cls:ErrC K D nm C f
 mgC:mg nm=some (.ref C)
 ok:∀(P:Program)(w:World)(base:Heap),FnOk P w K mg base aq 1 f fd ["self",fld] (lM C fld)
 bi:Binds K fd ["self",fld] []
structure Df (P:Program)(w:World)(K:Frag)(mg:Str->Option Value)(base:Heap)(cx:kr)(k:Nat)(nm:Str)(ps:List Str)(sp:Sp)(g:Addr)(gd:FuncData):Prop where
 G:FnOk P w K mg base cx k g gd ps sp
 b:Binds K gd ps []
 kp:keepIn K (.ref g)=true
 m:mg nm=some (.ref g)
theorem fq {P:Program}{w:World}{X:Cx}:dm (cC P w) X E0:=λ _ _ _ _ _ _ _ h=>by
 obtain⟨_,_,_,_,_,_,_,_,_,_,_,_,_,h⟩:=h;exact h.elim
def cF (C:Addr)(fld:Str)(x:V)(H:Hp)(E:XK):Prop:=∀ e dx,H e=none->H dx=none->dx≠e->E (.ref C) (some e) (ae (ae H dx (.xd [(fld,x)])) e (mU e C (some dx)))
def NoK (K:Frag)(H:Hp)(v:V)(n:String):Prop:=∃ t,Kd K H v t/\kitOne K t (.type n)=some false
theorem NoK.ext {K:Frag}{H H':Hp}{v:V}{n:String}(h:NoK K H v n)(x:Ext H H'):NoK K H' v n:=by
 obtain⟨t,k,e⟩:=h;exact⟨t,k.ext x,e⟩
theorem eL {lo hi:Int}{d:PyData}(h:jB lo hi d=true):∃ i,d=.int i/\lo<=i/\i<=hi:=by
 cases d with
 | int i =>
  have h':(decide (lo<=i)&&decide (i<=hi))=true:=h;rw [Bool.and_eq_true,decide_eq_true_iff,decide_eq_true_iff] at h';exact⟨i,rfl,h'.1,h'.2⟩
 | _=>cases h
def fB (bs:List Bool)(i:Nat):Prop:=(∀ j b,j<i->bs[j]?=some b->b=true)/\bs[i]?=some false
theorem aO {H0 H:Hp}{l:Addr}(o:HO)(x:Ext H0 H)(h:H0 l=none):Ext H0 (ae H l o):=λ b u e=>by
 rw [ag (λ z=>by rw [z,h] at e;cases e)]
 exact x b u e
theorem aA {α:Type}{xs:List α}{i:Nat}{x:α}(h:xs[i]?=some x):xs.take (i+1)=xs.take i ++ [x]:=by
 rw [List.take_succ,h];rfl
def Kept (H H':Hp)(p:Addr):Prop:=∀ b o,H b=some o->b≠p->H' b=some o
theorem Kept.refl (H:Hp)(p:Addr):Kept H H p:=λ _ _ h _=>h
theorem Kept.trans {H H1 H2:Hp}{p:Addr}(x:Kept H H1 p)(y:Kept H1 H2 p):Kept H H2 p:=λ b o h n=>y b o (x b o h n) n
theorem Ext.kept {H H':Hp}(x:Ext H H')(p:Addr):Kept H H' p:=λ b o h _=>x b o h
def wo (H:Hp)(p:Addr):Hp:=λ b=>if b=p then none else H b
theorem ak (H:Hp)(p:Addr):Ext (wo H p) H:=λ b o e=>by
 unfold wo at e;split at e
 ·cases e
 ·exact e
theorem bD {H:Hp}{p b:Addr}{o:HO}(n:b≠p)(e:H b=some o):wo H p b=some o:=by unfold wo;rw [if_neg n];exact e
theorem aI {H H':Hp}{p:Addr}(k:Kept H H' p):Ext (wo H p) (wo H' p):=λ b o e=>by
 unfold wo at e;split at e
 ·cases e
 ·rename_i n
  exact bD n (k b o e n)
structure BoxAt (H:Hp)(p:Addr):Prop where
 ex:∃ a b c:Int,H p=some (.lst [.int a,.int b,.int c])/\0<=a/\0<=b/\0<=c/\c<2147483647
theorem BoxAt.ext {H H':Hp}{p:Addr}(h:BoxAt H p)(x:Ext H H'):BoxAt H' p:=by
 obtain⟨a,b,c,e,r⟩:=h.ex;exact⟨a,b,c,x _ _ e,r⟩
theorem BoxAt.ne {H:Hp}{p q:Addr}(h:BoxAt H p)(e:H q=none):q≠p:=λ z=>by
 obtain⟨a,b,c,f,_⟩:=h.ex;rw [z,f] at e;cases e
structure Fi (k n:Nat)(d:PyData):Prop where
 sh:d.showable=true
 dp:d.depth<=k
 lv:d.leavesShort 64=true
 bk:d.bulk<=n
theorem wv {i:Int}(h:i.natAbs<10^30):Fi 0 2 (.int i):=by
 refine⟨?_,by simp [PyData.depth],?_,by simp [PyData.bulk]⟩
 ·simp only [PyData.showable,decide_eq_true_eq];by_cases z:i.natAbs=0
  ·rw [z];decide
  ·exact(Nat.log2_lt z).mpr (Nat.lt_trans h (by decide +kernel))
 ·have e:=int_text_length_le10 (k:=30) (by decide) h
  simp only [PyData.leavesShort,PyData.shown];refine decide_eq_true (show(Str.ofString (toString i)).length<=64 from ?_);rw [ofString_length];omega
theorem qy {i:Int}(h1:-1000000000<=i)(h2:i<=1000000000):Fi 0 2 (.int i):=wv (Nat.lt_of_le_of_lt (show i.natAbs<=1000000000 by omega) (by decide))
section
variable {K:Frag}{H:Hp}{D:cw}{σ:St}{p:Addr}
theorem jv {r:R2}{ta tb:TE}{Q:VK}(h:ta σ H λ x H1=>tb σ H1 λ y H2=>r x y H2 Q):aB r ta tb σ H Q:=h
theorem BoxAt.up {l:Addr}{o:HO}(b:BoxAt H p)(n:l≠p):BoxAt (ae H l o) p:=by
 obtain⟨x,y,z,hp,r⟩:=b;exact⟨x,y,z,by rw [ag n.symm];exact hp,r⟩
theorem aG {te:TE}{i:Nat}{u:TS}(h:te σ H λ v H1=>u D (σ.set i (some v)) H1):aV (cj te (aP i)) u D σ H:=h
end
def wt (H:Hp)(p t:Addr):Hp:=wo (wo H p) t
theorem yq (H:Hp)(p t:Addr):Ext (wt H p t) H:=(ak _ t).trans (ak H p)
theorem gP {H:Hp}{p t b:Addr}{o:HO}(n:b≠p)(m:b≠t)(e:H b=some o):wt H p t b=some o:=bD m (bD n e)
theorem jU {H H':Hp}{p t:Addr}(k:Kept H H' p):Ext (wt H p t) (wt H' p t):=aI ((aI k).kept t)
theorem lT {H H':Hp}(x:Ext H H')(p t:Addr):Ext (wt H p t) (wt H' p t):=jU (x.kept p)
theorem gR {H:Hp}{p a:Addr}{o:HO}(h:wo H p a=some o):a≠p:=λ e=>by
 unfold wo at h;rw [if_pos e] at h;cases h
theorem bq {H H':Hp}(x:Ext H H')(p:Addr):Ext (wo H p) (wo H' p):=aI (x.kept p)
structure GE (p:Addr)(k m:Nat)(te:TE):Prop where
 h:∀(σ:St)(H:Hp)(Q:VK),BoxAt H p->(∀ v H',Ext H H'->(∃ d,Rds (wo H' p) v d/\Fi k m d)->Q v H')->te σ H Q
section
variable {p:Addr}{k m k' m' n:Nat}{te ta tb:TE}{t:TA}
theorem uz {v:V}{d:PyData}(r:∀ G,Rds G v d)(f:Fi k m d):GE p k m (tC v):=⟨λ σ H Q bx q=>q v H (Ext.refl _) ⟨d,r _,f⟩⟩
theorem ge_int {i:Int}(h1:-1000000000<=i)(h2:i<=1000000000):GE p 0 2 (tC (.int i)):=uz (λ _=>.int _) (qy h1 h2)
variable {X:Cx}
def pZ (K:Frag):R2:=λ x y H Q=>∃ p q xs,x=.ref p/\y=.ref q/\SqL K H p xs/\SqL K H q []/\Q (.bl (!xs.isEmpty)) H
theorem qo (hu:X.A.units<cLine):gL X (compareOp .NotEq) (pZ X.K):=by
 intro pins s σ H x y v u Q I rx ry h;obtain⟨p,q,xs,rfl,rfl,hp,hq,k⟩:=h;cases rx;cases ry;obtain⟨its,r1,t1,_⟩:=I.list hp;obtain⟨jts,r2,t2,_⟩:=I.list hq;have l1:=r1.length;have l2:=r2.length;have e2:jts=[]:=List.length_eq_zero_iff.mp l2.symm;subst e2;cases xs with
 | nil =>
  have e1:its=[]:=List.length_eq_zero_iff.mp l1.symm;subst e1;exact SeqAt.RcNeAt.lists (e:=λ _=>true) t1.isList t2.isList rfl hu (λ j h _=>absurd h (Nat.not_lt_zero _)) X.prog X.w X.xe _ ⟨.bl false,H,I,rfl,k⟩
 | cons x xs =>
  exact SeqAt.RcNeAt.lists_lengths t1.isList t2.isList (by simp [<- l1]) hu X.prog X.w X.xe _ ⟨.bl true,H,I,rfl,k⟩
variable {K:Frag}{H:Hp}
def qL (K:Frag)(t:TA):TE:=λ σ H Q=>t σ H λ xs H1=>xs.length<=sizeLine/\∀ p,H1 p=none->K.lookup p=none->Q (.ref p) (ae H1 p (.lst xs))
theorem tG {X:Cx}{es:List Expr}{t:TA}{pos:Pos}(h:PA X es t):PE X (.List es pos) (qL X.K t):=by
 intro pins s σ H Q I hq;refine wpAny_List_spliced (aK (h pos pins s σ H _ I hq) λ us s1 ⟨xs,H1,I1,r,z,q⟩=>⟨by rw [<- r.length];exact z,?_⟩)
 have hf:H1 s1.heap.objs.size=none:=I1.hok.fresh (Nat.le_refl _);have hk:X.K.lookup s1.heap.objs.size=none:=by
  cases e:X.K.lookup s1.heap.objs.size with
  | none=>rfl
  | some o=>exact absurd (Heap.lt_size (I1.kIn _ _ e)) (Nat.lt_irrefl _)
 refine⟨.ref s1.heap.objs.size,ae H1 s1.heap.objs.size (.lst xs),I1.laid (t':=s1.toks) (λ b u e=>Heap.get?_push_of_some _ e) (Nat.le_refl _) ?_,rfl,q _ hf hk⟩;exact⟨z,us,0,r,Heap.get?_push_size _ rfl⟩
theorem SqL.neN {a p:Addr}{xs:List V}(h:SqL K H a xs)(hp:H p=none)(hk:K.lookup p=none):a≠p:=λ e=>by
 subst e;rcases h with(h | ⟨o,h⟩) | ⟨o,its,n,h,_⟩
 ·rw [hp] at h;cases h
 ·rw [hp] at h;cases h
 ·rw [hk] at h;cases h
end
theorem lP {H:Hp}{p t:Addr}{o:HO}:Ext (wt H p t) (wt (ae H t o) p t):=λ c u h=>by
 have h1:=yq H p t _ _ h;have n2:=gR h;have n1:=gR (ak _ t _ _ h);exact gP n1 n2 (by rw [ag n2];exact h1)
section
variable {H:Hp}{De:cw}
theorem zl {σ:St}{t u:TS}(h:t { De with nx:=u De } σ H):aV t u De σ H:=h
end
def vt (K:Frag):V->V->Hp->VK->Prop:=λ o i H Q=>∃(p:Addr)(xs:List V)(k:Nat)(v:V),o=.ref p/\i=.int (k:Nat)/\SqL K H p xs/\xs[k]?=some v/\Q v H
theorem qf {X:Cx}:AX X (vt X.K):=by
 intro pins s σ H o i ov iv Q I ro ri h;obtain⟨p,xs,k,v,rfl,rfl,hq,hv,q⟩:=h;cases (show ov=Value.ref p from ro);obtain⟨t,rfl⟩:=ri;obtain⟨its,r,pl,hz⟩:=I.list hq;obtain⟨u,hu,ru⟩:=r.get hv;exact wpAny_getItem_list pl.isList (x:=u) (by omega) (by have:=(List.getElem?_eq_some_iff.mp hu).1;have:=r.length;have:=il;simp;omega) (by simpa using hu) ⟨v,H,I,ru,q⟩
theorem SqL.kp {K:Frag}{H H':Hp}{a p:Addr}{xs:List V}(h:SqL K H a xs)(k:Kept H H' p)(n:a≠p):SqL K H' a xs:=by
 rcases h with(h | ⟨o,h⟩) | h
 ·exact .inl (.inl (k _ _ h n))
 ·exact .inl (.inr ⟨o,k _ _ h n⟩)
 ·exact .inr h
theorem gT (val:Nat->Int)(ns:List Int)(h:∀(i:Nat)(hi:i<ns.length),val i=ns[i]):∀ k,k<=ns.length->preSum val k=(ns.take k).sum
 | 0,_=>by simp [preSum]
 | k+1,hk=>by
  have ih:=gT val ns h k (by omega)
  have e:ns.take (k+1)=ns.take k ++ [ns[k]]:=aA (List.getElem?_eq_getElem (by omega))
  show preSum val k+val k=_;rw [ih,h k (by omega),e,List.sum_append]
  simp
section
variable {X:Cx}
def nJ (K:Frag):List V->Hp->VK->Prop:=λ vs H Q=>∃(l:Addr)(ns:List Int),vs=[.ref l]/\SqL K H l (ns.map V.int)/\Q (.int ns.sum) H
theorem dQ (hc:X.calm=true):cG X (.builtin "sum") (nJ X.K):=by
 intro pins s σ H xs us Q I r h;obtain⟨l,ns,rfl,hl,q⟩:=h;obtain⟨u,rfl,ru⟩:=dA r;cases (show u=Value.ref l from ru);obtain⟨its,rv,p,hz⟩:=I.list hl;obtain⟨xs,rfl,rfl⟩:=iO rv;have e:(xs.map λ p=>Value.int p.1 p.2).toArray=intItems xs.toArray:=by simp [intItems]
 have hL:s.heap.IsList l (intItems xs.toArray):=by rw [<- e];exact p.isList
 refine sum_intListG (I.ok.hd hc) hL λ h' tk t' hk=>?_;have es:preSum (numAt xs.toArray) xs.toArray.size=(xs.map (·.1)).sum:=by
  have:=gT (numAt xs.toArray) (xs.map (·.1)) (λ i hi=>ph (by simpa using hi)) xs.toArray.size (by simp)
  rw [this,List.take_of_length_le (by simp)]
 rw [es];exact⟨.int _,H,I.kept hk,⟨t',rfl⟩,q⟩
def Ev (K:Frag):List V->Hp->VK->Prop:=λ vs H Q=>∃ x S t b,vs=[x,.ref S]/\Kd K H x t/\kitOne K t (.ref S)=some b/\Q (.bl b) H
theorem pP (N:sd X.K):cG X (.builtin "isinstance") (Ev X.K):=by
 intro pins s σ H xs us Q I r h;obtain⟨x,S,t,b,rfl,kd,e,q⟩:=h;obtain⟨u,u',rfl,ru,ru'⟩:=ik r;cases (show u'=Value.ref S from ru');rcases kd with ty | ⟨p,ys,rfl,hq,rfl⟩ | ⟨a,C,rfl,ea,T,rfl⟩
 ·exact iX I ru ty e λ tk=>⟨.bl b,H,I.tok _,rfl,q⟩
 ·cases (show u=Value.ref p from ru);obtain⟨its,_,⟨o,h1,h2,_⟩,_⟩:=I.tuple hq;exact kia_one kitx_tuple I.kIn ⟨o,h1,h2⟩ e (λ z=>nomatch z) λ tk=>⟨.bl b,H,I.tok _,rfl,q⟩
 ·cases (show u=Value.ref a from ru);exact kia_one (rM T N.gt N.tk) I.kIn (ea.inst I.hok) e (λ z=>nomatch z) λ tk=>⟨.bl b,H,I.tok _,rfl,q⟩
end
mutual
def c5:PyData->PyData->Bool
 | .list xs,.list ys=>eqDs xs ys
 | .tuple xs,.tuple ys=>eqDs xs ys
 | .none,.none=>true
 | .bool a,.bool b=>a==b
 | .bool a,.int j=>(if a then(1:Int) else 0)==j
 | .int i,.bool b=>i==(if b then(1:Int) else 0)
 | .int i,.int j=>i==j
 | .str x,.str y=>x==y
 | _,_=>false
def eqDs:List PyData->List PyData->Bool
 | [],[]=>true
 | x::xs,y::ys=>c5 x y&&eqDs xs ys
 | _,_=>false
end
mutual
def aQ:PyData->Bool
 | .list xs=>plainDs xs
 | .tuple xs=>plainDs xs
 | .dict _=>false
 | _=>true
def plainDs:List PyData->Bool
 | []=>true
 | x::xs=>aQ x&&plainDs xs
end
mutual
theorem lp:∀{d:PyData},aQ d=true->c5 d d=true
 | .none,_=>by simp [c5]
 | .bool b,_=>by simp [c5]
 | .int i,_=>by simp [c5]
 | .str x,_=>by simp [c5]
 | .list xs,h=>by simp only [c5];exact eqDs_refl (by simpa only [aQ] using h)
 | .tuple xs,h=>by simp only [c5];exact eqDs_refl (by simpa only [aQ] using h)
 | .dict _,h=>by simp [aQ] at h
theorem eqDs_refl:∀{ds:List PyData},plainDs ds=true->eqDs ds ds=true
 | [],_=>by simp [eqDs]
 | d::ds,h=>by
  simp only [plainDs,Bool.and_eq_true] at h;simp only [eqDs,lp h.1,eqDs_refl h.2,Bool.and_self]
end
mutual
theorem Rds.det {G:Hp}:∀{v:V}{d e:PyData},Rds G v d->Rds G v e->d=e
 | _,_,_,.non,r=>by cases r;rfl
 | _,_,_,.bl b,r=>by cases r;rfl
 | _,_,_,.int i,r=>by cases r;rfl
 | _,_,_,.str x,r=>by cases r;rfl
 | _,_,_,.lst h t,r=>by
  cases r with
  | lst h' t'=>rw [h] at h';cases h';rw [RdsAll.det t t']
  | tup h' _=>rw [h] at h';cases h'
  | dic0 h'=>rw [h] at h';cases h'
  | dic h' _=>rw [h] at h';cases h'
 | _,_,_,.tup h t,r=>by
  cases r with
  | lst h' _=>rw [h] at h';cases h'
  | tup h' t'=>rw [h] at h';cases h';rw [RdsAll.det t t']
  | dic0 h'=>rw [h] at h';cases h'
  | dic h' _=>rw [h] at h';cases h'
 | _,_,_,.dic0 h,r=>by
  cases r with
  | lst h' _=>rw [h] at h';cases h'
  | tup h' _=>rw [h] at h';cases h'
  | dic0 h'=>rfl
  | dic h' _=>rw [h] at h';cases h'
 | _,_,_,.dic h t,r=>by
  cases r with
  | lst h' _=>rw [h] at h';cases h'
  | tup h' _=>rw [h] at h';cases h'
  | dic0 h'=>rw [h] at h';cases h'
  | dic h' t'=>rw [h] at h';cases h';rw [Rds.det t t']
theorem RdsAll.det {G:Hp}:∀{vs:List V}{ds es:List PyData},RdsAll G vs ds->RdsAll G vs es->ds=es
 | _,_,_,.nil,r=>by cases r;rfl
 | _,_,_,.cons h t,r=>by
  cases r with
  | cons h' t'=>rw [Rds.det h h',RdsAll.det t t']
end
theorem iL:∀(xs ys:List PyData),((List.range (min xs.length ys.length)).all (λ j=>c5 (xs.getD j .none) (ys.getD j .none))&&xs.length==ys.length)=eqDs xs ys
 | [],[]=>by simp [eqDs]
 | [],y::ys=>by simp [eqDs]
 | x::xs,[]=>by simp [eqDs]
 | x::xs,y::ys=>by
  have ih:=iL xs ys;simp only [eqDs];rw [<- ih,List.length_cons,List.length_cons,Nat.succ_min_succ,List.range_succ_eq_map,List.all_cons,List.all_map,Bool.and_assoc]
  congr 1
  rw [show(xs.length+1==ys.length+1)=(xs.length==ys.length) from by simp]
  rfl
section
variable {X:Cx}
structure FW (A:Around)(s:Shared)(u v:Value)(b:Bool):Prop where
 eq:SeqAt.RcAt A s u v b
 ne:SeqAt.RcNeAt A s u v (!b)
structure Gq (A:Around)(s:Shared)(u v:Value)(b:Bool):Prop where
 eq:SeqAt.RcAt A s u v b
 ne:SeqAt.RcNeAt A s u v (!b)
 at_:SeqAt.EqAt A s u v b
theorem uq {A:Around}{s:Shared}{p q:Addr}{its jts:List Value}(hu:A.units<cLine)(t1:s.heap.IsTuple p its.toArray)(t2:s.heap.IsTuple q jts.toArray)(e:Nat->Bool)(he:∀ j (h1:j<its.length)(h2:j<jts.length),SeqAt.EqAt A.in1 s its[j] jts[j] (e j)) :
  FW A s (.ref p) (.ref q) ((List.range (min its.length jts.length)).all e&&its.length==jts.length):=by
 have h':∀ j (h1:j<its.toArray.size)(h2:j<jts.toArray.size),SeqAt.EqAt A.in1 s its.toArray[j] jts.toArray[j] (e j):=λ j h1 h2=>by
  simpa using he j (by simpa using h1) (by simpa using h2)
 have a:=SeqAt.RcAt.tuples (e:=e) t1 t2 hu h';have b:=SeqAt.RcNeAt.tuples (e:=e) t1 t2 hu h';rw [List.size_toArray,List.size_toArray] at a b;exact⟨a,b⟩
theorem tI {A:Around}{s:Shared}{p q:Addr}{its jts:List Value}(hu:A.units<cLine)(t1:s.heap.IsList p its.toArray)(t2:s.heap.IsList q jts.toArray)(e:Nat->Bool)(he:∀ j (h1:j<its.length)(h2:j<jts.length),SeqAt.EqAt A.in1 s its[j] jts[j] (e j)) :
  FW A s (.ref p) (.ref q) ((List.range (min its.length jts.length)).all e&&its.length==jts.length):=by
 have h':∀ j (h1:j<its.toArray.size)(h2:j<jts.toArray.size),SeqAt.EqAt A.in1 s its.toArray[j] jts.toArray[j] (e j):=λ j h1 h2=>by
  simpa using he j (by simpa using h1) (by simpa using h2)
 by_cases sz:its.length=jts.length
 ·have a:=SeqAt.RcAt.lists (e:=e) t1 t2 (by simpa using sz) hu h'
  have b:=SeqAt.RcNeAt.lists (e:=e) t1 t2 (by simpa using sz) hu h'
  rw [List.size_toArray] at a b;have z:((List.range (min its.length jts.length)).all e&&its.length==jts.length)=(List.range its.length).all e:=by
   rw [sz,Nat.min_self];simp
  rw [z];exact⟨a,b⟩
 ·have z:((List.range (min its.length jts.length)).all e&&its.length==jts.length)=false:=by
   rw [show(its.length==jts.length)=false from by simpa using sz]
   simp
  rw [z];exact⟨SeqAt.RcAt.lists_lengths t1 t2 (by simpa using sz) hu,SeqAt.RcNeAt.lists_lengths t1 t2 (by simpa using sz) hu⟩
mutual
theorem rQ {pins:List (Addr × Obj)}{σ:St}{H:Hp}{s:Shared}(I:Inv X pins σ H s):∀{x:V}{d:PyData},Rds H x d->∀{A:Around}{y:V}{e:PyData}{u v:Value},Rds H y e->aQ d=true->aQ e=true->A.units+d.depth<cLine->RelV x u->RelV y v->Gq A s u v (c5 d e)
 | _,_,.non,A,y,e,u,v,ry,pd,pe,hu,ru,rv=>by
  have h0:A.units<cLine:=by omega
  cases ru;cases ry with
  | non=>cases rv;simp only [c5];exact⟨.none_none,.none_none,.same _⟩
  | bl b=>cases rv;simp only [c5];exact⟨.none_bool _,.none_bool _,.none_bool _⟩
  | int j=>obtain⟨t,rfl⟩:=rv;simp only [c5];exact⟨.none_int _ _,.none_int _ _,.none_int _ _⟩
  | str z=>obtain⟨t,rfl⟩:=rv;simp only [c5];exact⟨.none_str _ _,.none_str _ _,.none_str _ _⟩
  | lst h _=>cases rv;obtain⟨its,_,t,_⟩:=I.list (SqL.of (K:=X.K) h);simp only [c5];exact⟨.none_list t.isList h0,.none_list t.isList h0,.none_list t.isList h0⟩
  | tup h _=>cases rv;obtain⟨its,_,t,_⟩:=I.tuple (SqT.of (K:=X.K) h);simp only [c5];exact⟨.none_tuple t h0,.none_tuple t h0,.none_tuple t h0⟩
  | dic0 _=>simp [aQ] at pe
  | dic _ _=>simp [aQ] at pe
 | _,_,.bl a,A,y,e,u,v,ry,pd,pe,hu,ru,rv=>by
  have h0:A.units<cLine:=by omega
  cases ru;cases ry with
  | non=>cases rv;simp only [c5];exact⟨.bool_none _,.bool_none _,.bool_none _⟩
  | bl b=>cases rv;simp only [c5];exact⟨.bool_bool _ _,.bool_bool _ _,.bool_bool _ _⟩
  | int j=>obtain⟨t,rfl⟩:=rv;simp only [c5];exact⟨.bool_int _ _ _,.bool_int _ _ _,.bool_int _ _ _⟩
  | str z=>obtain⟨t,rfl⟩:=rv;simp only [c5];exact⟨.bool_str _ _ _,.bool_str _ _ _,.bool_str _ _ _⟩
  | lst h _=>cases rv;obtain⟨its,_,t,_⟩:=I.list (SqL.of (K:=X.K) h);simp only [c5];exact⟨.bool_list _ t.isList h0,.bool_list _ t.isList h0,.bool_list _ t.isList h0⟩
  | tup h _=>cases rv;obtain⟨its,_,t,_⟩:=I.tuple (SqT.of (K:=X.K) h);simp only [c5];exact⟨.bool_tuple _ t h0,.bool_tuple _ t h0,.bool_tuple _ t h0⟩
  | dic0 _=>simp [aQ] at pe
  | dic _ _=>simp [aQ] at pe
 | _,_,.int i,A,y,e,u,v,ry,pd,pe,hu,ru,rv=>by
  have h0:A.units<cLine:=by omega
  obtain⟨tu,rfl⟩:=ru;cases ry with
  | non=>cases rv;simp only [c5];exact⟨.int_none _ _,.int_none _ _,.int_none _ _⟩
  | bl b=>cases rv;simp only [c5];exact⟨.int_bool _ _ _,.int_bool _ _ _,.int_bool _ _ _⟩
  | int j=>obtain⟨t,rfl⟩:=rv;simp only [c5];exact⟨.int_int _ _ _ _,.int_int _ _ _ _,.int_int _ _ _ _⟩
  | str z=>obtain⟨t,rfl⟩:=rv;simp only [c5];exact⟨.int_str _ _ _ _,.int_str _ _ _ _,.int_str _ _ _ _⟩
  | lst h _=>cases rv;obtain⟨its,_,t,_⟩:=I.list (SqL.of (K:=X.K) h);simp only [c5];exact⟨.int_list _ _ t.isList h0,.int_list _ _ t.isList h0,.int_list _ _ t.isList h0⟩
  | tup h _=>cases rv;obtain⟨its,_,t,_⟩:=I.tuple (SqT.of (K:=X.K) h);simp only [c5];exact⟨.int_tuple _ _ t h0,.int_tuple _ _ t h0,.int_tuple _ _ t h0⟩
  | dic0 _=>simp [aQ] at pe
  | dic _ _=>simp [aQ] at pe
 | _,_,.str x,A,y,e,u,v,ry,pd,pe,hu,ru,rv=>by
  have h0:A.units<cLine:=by omega
  obtain⟨tu,rfl⟩:=ru;cases ry with
  | non=>cases rv;simp only [c5];exact⟨.str_none _ _,.str_none _ _,.str_none _ _⟩
  | bl b=>cases rv;simp only [c5];exact⟨.str_bool _ _ _,.str_bool _ _ _,.str_bool _ _ _⟩
  | int j=>obtain⟨t,rfl⟩:=rv;simp only [c5];exact⟨.str_int _ _ _ _,.str_int _ _ _ _,.str_int _ _ _ _⟩
  | str z=>obtain⟨t,rfl⟩:=rv;simp only [c5];exact⟨.str_str _ _ _ _,.str_str _ _ _ _,.str_str _ _ _ _⟩
  | lst h _=>cases rv;obtain⟨its,_,t,_⟩:=I.list (SqL.of (K:=X.K) h);simp only [c5];exact⟨.str_list _ _ t.isList h0,.str_list _ _ t.isList h0,.str_list _ _ t.isList h0⟩
  | tup h _=>cases rv;obtain⟨its,_,t,_⟩:=I.tuple (SqT.of (K:=X.K) h);simp only [c5];exact⟨.str_tuple _ _ t h0,.str_tuple _ _ t h0,.str_tuple _ _ t h0⟩
  | dic0 _=>simp [aQ] at pe
  | dic _ _=>simp [aQ] at pe
 | _,_,.lst (a:=a') (xs:=xs) (ds:=ds) h rs,A,y,e,u,v,ry,pd,pe,hu,ru,rv=>by
  have h0:A.units<cLine:=by omega
  cases ru;obtain⟨its,r1,t1,_⟩:=I.list (SqL.of (K:=X.K) h);cases ry with
  | non=>cases rv;simp only [c5];exact⟨.list_none t1.isList h0,.list_none t1.isList h0,.list_none t1.isList h0⟩
  | bl b=>cases rv;simp only [c5];exact⟨.list_bool _ t1.isList h0,.list_bool _ t1.isList h0,.list_bool _ t1.isList h0⟩
  | int j=>obtain⟨t,rfl⟩:=rv;simp only [c5];exact⟨.list_int _ _ t1.isList h0,.list_int _ _ t1.isList h0,.list_int _ _ t1.isList h0⟩
  | str z=>obtain⟨t,rfl⟩:=rv;simp only [c5];exact⟨.list_str _ _ t1.isList h0,.list_str _ _ t1.isList h0,.list_str _ _ t1.isList h0⟩
  | @lst b' ys es h' ts =>
   cases rv;obtain⟨jts,r2,t2,_⟩:=I.list (SqL.of (K:=X.K) h');have pds:plainDs ds=true:=by simpa only [aQ] using pd
   have pes:plainDs es=true:=by simpa only [aQ] using pe
   have dd:A.in1.units+PyData.depthAll ds<cLine:=by rw [iU];simp only [PyData.depth] at hu;omega
   have k:=tI h0 t1.isList t2.isList (λ j=>c5 (ds.getD j .none) (es.getD j .none)) (λ j h1 h2=>eqDs_at I rs ts pds pes dd r1 r2 h1 h2);rw [<- r1.length,<- r2.length,rs.length,ts.length,iL] at k;simp only [c5];refine⟨k.eq,k.ne,?_⟩;by_cases e:a'=b'
   ·subst e;rw [h] at h';cases h';have:=RdsAll.det rs ts;subst this;rw [eqDs_refl pds];exact SeqAt.EqAt.same _
   ·exact .of_refs e k.eq
  | tup h' _=>cases rv;obtain⟨jts,_,t,_⟩:=I.tuple (SqT.of (K:=X.K) h');simp only [c5];exact⟨.list_tuple t1.isList t h0,.list_tuple t1.isList t h0,.list_tuple t1.isList t h0⟩
  | dic0 _=>simp [aQ] at pe
  | dic _ _=>simp [aQ] at pe
 | _,_,.tup (a:=a') (xs:=xs) (ds:=ds) h rs,A,y,e,u,v,ry,pd,pe,hu,ru,rv=>by
  have h0:A.units<cLine:=by omega
  cases ru;obtain⟨its,r1,t1,_⟩:=I.tuple (SqT.of (K:=X.K) h);cases ry with
  | non=>cases rv;simp only [c5];exact⟨.tuple_none t1 h0,.tuple_none t1 h0,.tuple_none t1 h0⟩
  | bl b=>cases rv;simp only [c5];exact⟨.tuple_bool _ t1 h0,.tuple_bool _ t1 h0,.tuple_bool _ t1 h0⟩
  | int j=>obtain⟨t,rfl⟩:=rv;simp only [c5];exact⟨.tuple_int _ _ t1 h0,.tuple_int _ _ t1 h0,.tuple_int _ _ t1 h0⟩
  | str z=>obtain⟨t,rfl⟩:=rv;simp only [c5];exact⟨.tuple_str _ _ t1 h0,.tuple_str _ _ t1 h0,.tuple_str _ _ t1 h0⟩
  | @tup b' ys es h' ts =>
   cases rv;obtain⟨jts,r2,t2,_⟩:=I.tuple (SqT.of (K:=X.K) h');have pds:plainDs ds=true:=by simpa only [aQ] using pd
   have pes:plainDs es=true:=by simpa only [aQ] using pe
   have dd:A.in1.units+PyData.depthAll ds<cLine:=by rw [iU];simp only [PyData.depth] at hu;omega
   have k:=uq h0 t1 t2 (λ j=>c5 (ds.getD j .none) (es.getD j .none)) (λ j h1 h2=>eqDs_at I rs ts pds pes dd r1 r2 h1 h2);rw [<- r1.length,<- r2.length,rs.length,ts.length,iL] at k;simp only [c5];refine⟨k.eq,k.ne,?_⟩;by_cases e:a'=b'
   ·subst e;rw [h] at h';cases h';have:=RdsAll.det rs ts;subst this;rw [eqDs_refl pds];exact SeqAt.EqAt.same _
   ·exact .of_refs e k.eq
  | lst h' _=>cases rv;obtain⟨jts,_,t,_⟩:=I.list (SqL.of (K:=X.K) h');simp only [c5];exact⟨.tuple_list t1 t.isList h0,.tuple_list t1 t.isList h0,.tuple_list t1 t.isList h0⟩
  | dic0 _=>simp [aQ] at pe
  | dic _ _=>simp [aQ] at pe
 | _,_,.dic0 _,_,_,_,_,_,_,pd,_,_,_,_=>by simp [aQ] at pd
 | _,_,.dic _ _,_,_,_,_,_,_,pd,_,_,_,_=>by simp [aQ] at pd
theorem eqDs_at {pins:List (Addr × Obj)}{σ:St}{H:Hp}{s:Shared}(I:Inv X pins σ H s):∀{xs:List V}{ds:List PyData},RdsAll H xs ds->∀{A:Around}{ys:List V}{es:List PyData}{its jts:List Value},RdsAll H ys es->plainDs ds=true->plainDs es=true->A.units+PyData.depthAll ds<cLine->Vals xs its->Vals ys jts ->
  ∀{j:Nat}(h1:j<its.length)(h2:j<jts.length),SeqAt.EqAt A s its[j] jts[j] (c5 (ds.getD j .none) (es.getD j .none))
 | _,_,.nil,A,ys,es,its,jts,ts,pd,pe,hu,r1,r2,j,h1,h2=>by cases r1;exact absurd h1 (Nat.not_lt_zero _)
 | _,_,.cons (v:=x) (d:=d) r rs,A,ys,es,its,jts,ts,pd,pe,hu,r1,r2,j,h1,h2=>by
  cases ts with
  | nil=>cases r2;exact absurd h2 (Nat.not_lt_zero _)
  | cons r' ts =>
   cases r1 with
   | cons q1 r1 =>
    cases r2 with
    | cons q2 r2 =>
     simp only [plainDs,Bool.and_eq_true] at pd pe;simp only [PyData.depthAll] at hu;cases j with
     | zero =>
      exact(rQ I r (A:=A) r' pd.1 pe.1 (by omega) q1 q2).at_
     | succ j=>exact eqDs_at I rs (A:=A) ts pd.2 pe.2 (by omega) r1 r2 (by simpa using h1) (by simpa using h2)
end
def BF (g:Bool->Bool):R2:=λ x y H Q=>∃ d e,Rds H x d/\Rds H y e/\aQ d=true/\aQ e=true/\d.depth<=20/\Q (.bl (g (c5 d e))) H
theorem ya (hu:X.A.units+64<cLine):gL X (compareOp .NotEq) (BF not):=by
 intro pins s σ H x y v u Q I rx ry h;obtain⟨d,e,r1,r2,p1,p2,dd,k⟩:=h;exact(rQ I r1 r2 p1 p2 (by omega) rx ry).ne X.prog X.w X.xe _ ⟨.bl _,H,I,rfl,k⟩
end
end My
namespace My
open PySem PySem.W L2
def cq (P:Program)(w:World)(K:Frag)(mg:Str->Option Value)(base:Heap)(CX:kr)(k:Nat)(m:Str)(ps:List Str)(S:Addr->Prop)(sp:Addr->Sp):Prop :=
 ∀ C,S C->Cls K C/\∃ f fd,C8 K C m f/\FnOk P w K mg base CX k f fd ps (sp C)/\Binds K fd ps []
def dk (S:Addr->Prop)(m:Str)(sp:Addr->Sp)(E:XK)(ta:TE)(t:TA):TE:=λ σ H Q=>ta σ H λ x H1=>∃ a C dx fs,x=.ref a/\S C/\H1 a=some (.ins C dx fs)/\fs.lookup m=none /\
 t σ H1 λ vs H2=>sp C (x::vs) H2 Q E
section
variable {X:Cx}{CX:kr}{k:Nat}{S:Addr->Prop}{ps:List Str}{sp:Addr->Sp}{E:XK}{x m:Str}{p pos apos:Pos}{e o:Expr}{es:List Expr}{ta:TE}{t:TA}{σ:St}
theorem cV {pl:Sem Bool}(he:PE X o ta)(M:cq X.prog X.w X.K X.mg X.base CX k m ps S sp)(hr:Room k X.A)(hx:dm CX X E)(ha:PA X (e::es) t)
  (hst:starEach (e::es) X.env=(false,eval e X.env)::starEach es X.env:=by rfl)(hpl:(backTo pos (starEach es X.env)).any (·.1)=false:=by rfl)
  (ht:eval (.Call (.Attribute o m apos) (e::es) [] pos) X.env=(do
   let ov <- eval o X.env
   standAt apos.atName
   let (f,first) <- holding [ov] (getMethod ov m pl)
   callWith pos f first (backTo pos (starEach (e::es) X.env)) (backToKw pos (keywordEach [] X.env))):=by rfl) :
  PE X (.Call (.Attribute o m apos) (e::es) [] pos) (dk S m sp E ta t):=by
 intro pins s σ H Q I h;refine PySem.W.methodCall_KW (pl:=pl) (aK (he pins s σ H _ I h) λ u s1 ⟨x,H1,I1,rx,a,C,dx,fs,ex,hS,ea,l,q⟩=>?_) ht;subst ex;obtain⟨c,f,fd,hm,F,hb⟩:=M C hS;obtain rfl:u=Value.ref a:=rx;refine im I1 ea c hm l ?_;refine PySem.W.callWith_K (first:=[.ref a]) (h₀:=X.base) I.ok.mod.kin hm.kp (aK (ha pos pins s1 σ H1 _ I1 q) λ us s2 ⟨vs,H2,I2,r,q2⟩=>⟨I2.kIn,?_⟩) hst hpl
 exact jO (us:=.ref a::us) (vs:=.ref a::vs) (dvs:=[]) F hr hb .nil hx I2 (.cons rfl r) (by rw [List.append_nil];exact q2)
theorem bL {pl:Sem Bool}(he:PE X o ta)(M:cq X.prog X.w X.K X.mg X.base CX k m ps S sp)(hr:Room k X.A)(hx:dm CX X E)
  (ht:eval (.Call (.Attribute o m apos) [] [] pos) X.env=(do
   let ov <- eval o X.env
   standAt apos.atName
   let (f,first) <- holding [ov] (getMethod ov m pl)
   callWith pos f first (backTo pos (starEach [] X.env)) (backToKw pos (keywordEach [] X.env))):=by rfl) :
  PE X (.Call (.Attribute o m apos) [] [] pos) (dk S m sp E ta aL):=by
 intro pins s σ H Q I h;refine PySem.W.methodCall_KW (pl:=pl) (aK (he pins s σ H _ I h) λ u s1 ⟨x,H1,I1,rx,a,C,dx,fs,ex,hS,ea,l,q⟩=>?_) ht;subst ex;obtain⟨c,f,fd,hm,F,hb⟩:=M C hS;obtain rfl:u=Value.ref a:=rx;refine im I1 ea c hm l ?_;exact PySem.W.callWith_K0 (first:=[.ref a]) I1.kIn hm.kp (jO (us:=[.ref a]) (vs:=[.ref a]) (dvs:=[]) F hr hb .nil hx I1 (.cons rfl .nil) q)
variable {K:Frag}{te:TE}{tt:TT}{g:TG}{cap:St}{D:Addr}{H1:Hp}{Q:Hp->Prop}{a:Addr}{xs:List V}
theorem nZ (Pv:Nat->List V->Hp->Prop)(hz:xs.length<sizeLine)(h0:Pv 0 [] (ae H1 D (.lst [])))
  (hl:∀ i ys H,Pv i ys H->SqT K H a xs)
  (hs:∀ i x ys H,xs[i]?=some x->ys.length=i->H D=some (.lst ys)->Pv i ys H->∀ os:St,os.length=k->∀ R:VK,(∀ y H4,H4 D=some (.lst ys)->Pv (i+1) (ys ++ [y]) (ae H4 D (.lst (ys ++ [y])))->R y H4)->g x (os++cap) H λ σ2 H0=>(∃ os':St,os'.length=k/\σ2=os'++cap)/\te σ2 H0 R)
  (hd:∀ ys H,ys.length=xs.length->H D=some (.lst ys)->Pv xs.length ys H->Q H) :
  ∃ W:Nat->Nat->List V->Hp->Prop,(∃ m,W 0 m [] (ae H1 D (.lst []))) /\
   ∀ i m ys H2,W i m ys H2->H2 D=some (.lst ys)/\(((Ak K a).stop i H2/\Q H2)\/((Ak K a).go i H2/\ys.length<sizeLine /\
    ∀ x H3,(Ak K a).yld i H2 x H3->∀ os:St,os.length=k->g x (os++cap) H3 λ σ2 H0=>(∃ os':St,os'.length=k/\σ2=os'++cap)/\te σ2 H0 λ y H4=>H4 D=some (.lst ys)/\∃ m',m'<m/\W (i+1) m' (ys ++ [y]) (ae H4 D (.lst (ys ++ [y]))))):=by
 refine⟨λ i m ys H=>m=xs.length-i/\i<=xs.length/\ys.length=i/\H D=some (.lst ys)/\Pv i ys H,⟨xs.length,by simp,Nat.zero_le _,rfl,aR,h0⟩,?_⟩
 rintro i m ys H ⟨rfl,hi,hy,hD,p⟩;refine⟨hD,?_⟩;have q:=hl i ys H p;by_cases hlt:i<xs.length
 ·refine .inr ⟨⟨xs,xs[i],q,by simp [hlt]⟩,by omega,λ x H' y=>?_⟩
  obtain⟨e,y⟩:=y;subst e;exact λ os los=>hs i x ys _ (y xs q) hy hD p os los _ λ z H4 hD4 p4=>⟨hD4,xs.length-(i+1),by omega,rfl,hlt,by rw [List.length_append,hy];rfl,aR,p4⟩
 ·have e:i=xs.length:=by omega
  subst e;exact .inl ⟨⟨xs,q,Nat.le_refl _⟩,hd ys H hy hD p⟩
end
theorem be {H:Hp}{p:Addr}(o:HO):Kept H (ae H p o) p:=λ b u h n=>by rw [ag n];exact h
def dq:PyData->Bool
 | .tuple [.int a,.int b]=>(decide (1<=b)&&(decide (0<=a)&&decide (a<=b)))&&decide (Nat.gcd a.toNat b.toNat=1)
 | _=>false
def c6:PyData->Bool
 | .tuple [.int a,.int b]=>dq (.tuple [.int a,.int b])&&(decide (2<=b)&&decide (b<=100))
 | _=>false
def cy (lo:Int)(n:Nat):List Int:=(List.range n).map λ k=>lo+(k:Nat)
def jS (p:List Int):PyData:=.tuple (p.map .int)
def mE (p:List Int):PyData:=.list (p.map .int)
theorem jI (lo:Int)(n:Nat):rj lo n=(cy lo n).map V.int:=by unfold rj cy;rw [List.map_map];rfl
theorem cI (G:Hp):∀(ns:List Int),RdsAll G (ns.map V.int) (ns.map PyData.int)
 | []=>.nil
 | n::ns=>.cons (.int _) (cI G ns)
theorem jJ {G:Hp}:∀{p:List Int}{ys:List V},RdsAll G ys (p.map PyData.int)->ys=p.map V.int
 | [],_,h=>by cases h;rfl
 | n::p,_,h=>by
  cases h with
  | cons r t =>
   cases r;rw [jJ t];rfl
theorem ia {G:Hp}{ps:List (List Int)}{xs:List V}(rs:RdsAll G xs (ps.map jS)){i:Nat}{x:V}{p:List Int}(hx:xs[i]?=some x)(hp:ps[i]?=some p):∃ a,x=.ref a/\G a=some (.tup (p.map V.int)):=by
 obtain⟨d,ed,rd⟩:=rs.get hx;rw [List.getElem?_map,hp] at ed;cases ed;obtain⟨a,ys,rfl,ha,ry⟩:=fG rd;refine⟨a,rfl,?_⟩;rw [<- jJ ry];exact ha
def vJ:HO->Bool
 | .lst _=>true
 | .tup _=>true
 | .dK _=>true
 | _=>false
mutual
theorem Rds.keep {G G':Hp}(s:∀ b o,G b=some o->vJ o=true->G' b=some o):∀{v:V}{d:PyData},Rds G v d->Rds G' v d
 | _,_,.non=>.non
 | _,_,.bl b=>.bl b
 | _,_,.int i=>.int i
 | _,_,.str x=>.str x
 | _,_,.lst e r=>.lst (s _ _ e rfl) (RdsAll.keep s r)
 | _,_,.tup e r=>.tup (s _ _ e rfl) (RdsAll.keep s r)
 | _,_,.dic0 e=>.dic0 (s _ _ e rfl)
 | _,_,.dic e r=>.dic (s _ _ e rfl) (Rds.keep s r)
theorem RdsAll.keep {G G':Hp}(s:∀ b o,G b=some o->vJ o=true->G' b=some o):∀{vs:List V}{ds:List PyData},RdsAll G vs ds->RdsAll G' vs ds
 | _,_,.nil=>.nil
 | _,_,.cons r t=>.cons (Rds.keep s r) (RdsAll.keep s t)
end
theorem Rds.kept {H H':Hp}{x:Addr}{v:V}{d:PyData}{C dx:Addr}{fs:List (Str × V)}(r:Rds H v d)(hx:H x=some (.ins C dx fs))(k:Kept H H' x):Rds H' v d :=
 r.keep λ b o e h=>k b o e λ z=>by rw [z,hx] at e;cases e;cases h
inductive R0 where
 | split (n k:Int)
 | pairs (n a b:Int)
 | coins (n a b f:Int)
def R0.folk:R0->Int
 | .split n _=>n
 | .pairs n _ _=>2*n
 | .coins n _ _ _=>n
def R0.begin:R0->PyData
 | .split _ k=>.int k
 | .pairs _ _ _=>.none
 | .coins _ _ _ _=>.int 0
def R0.told:R0->PyData
 | .split n k=>.tuple [.str "split",.int n,.int k]
 | .pairs n a b=>.tuple [.str "pairs",.int n,.tuple [.int a,.int b]]
 | .coins n a b f=>.tuple [.str "coins",.int n,.tuple [.int a,.int b],.int f]
def R0.kind:R0->Nat
 | .split _ _=>0
 | .pairs _ _ _=>1
 | .coins _ _ _ _=>2
def R0.ok:R0->Prop
 | .split n k=>1<=n/\n<=20/\0<=k/\k<=n
 | .pairs n a b=>1<=n/\n<=10/\c6 (.tuple [.int a,.int b])=true
 | .coins n a b f=>1<=n/\n<=20/\c6 (.tuple [.int a,.int b])=true/\1<=f/\f<=20
theorem R0.folk_ok {r:R0}(h:r.ok):1<=r.folk/\r.folk<=20:=by
 cases r <;> simp only [R0.ok,R0.folk] at * <;> omega
def bM:Int->List Int->List (List Int)
 | _,[]=>[]
 | s,n::ns=>cy s n.toNat::bM (s+n) ns
def fv (m:Int)(ps:List (List Int)):List (List Int):=(ps.map (·.filter λ x=>decide (x<m))).filter λ p=>decide (0<p.length)
inductive Rl where
 | one (r:R0)
 | blocks (rs:List R0)
 | first (t:Rl)(m:Int)
def Rl.folk:Rl->Int
 | .one r=>r.folk
 | .blocks rs=>(rs.map R0.folk).sum
 | .first _ m=>m
def Rl.begin:Rl->PyData
 | .one r=>r.begin
 | .blocks []=>.tuple [.int 0,.none]
 | .blocks (r::_)=>.tuple [.int 0,r.begin]
 | .first t _=>t.begin
def Rl.told:Rl->PyData
 | .one r=>r.told
 | .blocks rs=>.tuple [.str "blocks",.tuple (rs.map R0.told)]
 | .first t m=>.tuple [.str "first",t.told,.int m]
def Rl.parts:Rl->List (List Int)
 | .one r=>[cy 0 r.folk.toNat]
 | .blocks rs=>bM 0 (rs.map R0.folk)
 | .first t m=>fv m t.parts
def Rl.kind:Rl->Nat
 | .one r=>r.kind
 | .blocks _=>3
 | .first _ _=>4
def Rl.inner:Rl->Rl
 | .first t _=>t.inner
 | t=>t
def eH (ps:List (List Int)):PyData:=.tuple (ps.map jS)
def Rl.ok:Rl->Prop
 | .one r=>r.ok
 | .blocks rs=>1<=rs.length/\rs.length<=6/\(∀ r∈rs,r.ok)/\(rs.map R0.folk).sum<=20
 | .first t m=>t.ok/\0<=m/\m<=t.folk
theorem du:∀{ns:List Int},(∀ n∈ns,0<=n)->0<=ns.sum
 | [],_=>by simp
 | n::ns,h=>by
  have:=h n (List.mem_cons_self ..);have:=du λ x hx=>h x (List.mem_cons_of_mem _ hx);simp only [List.sum_cons];omega
theorem Rl.folk_ok:∀{t:Rl},t.ok->0<=t.folk/\t.folk<=20
 | .one r,h=>by have:=R0.folk_ok h;simp only [Rl.folk];omega
 | .blocks rs,h=>by
  obtain⟨_,_,h3,h4⟩:=h;refine⟨du λ n hn=>?_,h4⟩;obtain⟨r,hr,rfl⟩:=List.mem_map.mp hn;have:=R0.folk_ok (h3 r hr);omega
 | .first t m,h=>by
  obtain⟨h1,h2,h3⟩:=h;have:=Rl.folk_ok h1;simp only [Rl.folk];omega
def gn:List Str:=["folk","begin","steps","told","blocks","state_ahead","state_behind"]
structure Ob (C:Addr)(H:Hp)(v:V)(fk:Int)(bg tl pt:PyData)(X:List (Str × V)->Prop):Prop where
 ex:∃ a dx fs,v=.ref a/\H a=some (.ins C dx fs)/\fs.lookup ("size" : Str)=some (.int fk)/\(∃ b,fs.lookup ("first_state" : Str)=some b/\Rds H b bg)/\(∃ m,fs.lookup ("mark" : Str)=some m/\Rds H m tl)/\(∃ p,fs.lookup ("parts" : Str)=some p/\Rds H p pt)/\(∀ m∈gn,fs.lookup m=none)/\X fs
def R0.extra (H:Hp):R0->List (Str × V)->Prop
 | .split _ _,_=>True
 | .pairs _ a b,fs=>∃ c,fs.lookup ("coin" : Str)=some c/\Rds H c (.tuple [.int a,.int b])
 | .coins _ a b f,fs=>(∃ c,fs.lookup ("coin" : Str)=some c/\Rds H c (.tuple [.int a,.int b]))/\fs.lookup ("far" : Str)=some (.int f)
def Ru0 (C:Nat->Addr)(H:Hp)(r:R0)(v:V):Prop:=Ob (C r.kind) H v r.folk r.begin r.told (eH [cy 0 r.folk.toNat]) (r.extra H)
def All0 (C:Nat->Addr)(H:Hp)(rs:List R0)(ws:List V):Prop:=rs.length=ws.length/\∀(i:Nat) r w,rs[i]?=some r->ws[i]?=some w->Ru0 C H r w
def RuB (C:Nat->Addr)(H:Hp)(rs:List R0)(v:V):Prop:=Ob (C 3) H v (Rl.blocks rs).folk (Rl.blocks rs).begin (Rl.blocks rs).told (eH (Rl.blocks rs).parts) (λ fs=>∃ l ws,fs.lookup ("rules" : Str)=some (.ref l)/\H l=some (.tup ws)/\All0 C H rs ws)
def RuN (C:Nat->Addr)(H:Hp):Rl->V->Prop
 | .one r,v=>Ru0 C H r v
 | .blocks rs,v=>RuB C H rs v
 | .first _ _,_=>False
def Ru (C:Nat->Addr)(H:Hp):Rl->V->Prop
 | .one r,v=>Ru0 C H r v
 | .blocks rs,v=>RuB C H rs v
 | .first t m,v=>Ob (C 4) H v m t.begin (Rl.first t m).told (eH (Rl.first t m).parts) (λ fs=>∃ d,fs.lookup ("dealer" : Str)=some d/\RuN C H t.inner d)
theorem Ob.mono {C:Addr}{H H':Hp}{v:V}{fk:Int}{bg tl pt:PyData}{X Y:List (Str × V)->Prop}(h:Ob C H v fk bg tl pt X)(x:Ext H H')(k:∀ fs,X fs->Y fs):Ob C H' v fk bg tl pt Y:=by
 obtain⟨a,dx,fs,rfl,ha,h1,⟨b,h2,r2⟩,⟨m,h3,r3⟩,⟨p,h4,r4⟩,h5,h6⟩:=h.ex;exact⟨a,dx,fs,rfl,x _ _ ha,h1,⟨b,h2,r2.mono x⟩,⟨m,h3,r3.mono x⟩,⟨p,h4,r4.mono x⟩,h5,k fs h6⟩
section
variable {C:Nat->Addr}{H H':Hp}
theorem Ru0.ext {r:R0}{v:V}(h:Ru0 C H r v)(x:Ext H H'):Ru0 C H' r v:=Ob.mono h x λ fs e=>by
 cases r with
 | split _ _=>trivial
 | pairs _ a b =>
  obtain⟨c,e1,e2⟩:=e;exact⟨c,e1,e2.mono x⟩
 | coins _ a b f =>
  obtain⟨⟨c,e1,e2⟩,e3⟩:=e;exact⟨⟨c,e1,e2.mono x⟩,e3⟩
theorem All0.ext {rs:List R0}{ws:List V}(h:All0 C H rs ws)(x:Ext H H'):All0 C H' rs ws:=⟨h.1,λ i r w a b=>Ru0.ext (h.2 i r w a b) x⟩
theorem RuB.ext {rs:List R0}{v:V}(h:RuB C H rs v)(x:Ext H H'):RuB C H' rs v:=Ob.mono h x λ fs e=>by
 obtain⟨l,ws,e1,e2,e3⟩:=e;exact⟨l,ws,e1,x _ _ e2,e3.ext x⟩
theorem RuN.ext {t:Rl}{v:V}(h:RuN C H t v)(x:Ext H H'):RuN C H' t v:=by
 cases t with
 | one r=>exact Ru0.ext h x
 | blocks rs=>exact RuB.ext h x
 | first _ _=>exact h.elim
theorem Ru.ext {t:Rl}{v:V}(h:Ru C H t v)(x:Ext H H'):Ru C H' t v:=by
 cases t with
 | one r=>exact Ru0.ext h x
 | blocks rs=>exact RuB.ext h x
 | first t m=>exact Ob.mono h x λ fs ⟨d,e1,e2⟩=>⟨d,e1,e2.ext x⟩
theorem Ru.ob {t:Rl}{v:V}(h:Ru C H t v):Ob (C t.kind) H v t.folk t.begin t.told (eH t.parts) (λ _=>True):=by
 cases t with
 | one r=>exact Ob.mono h (Ext.refl _) λ _ _=>trivial
 | blocks rs=>exact Ob.mono h (Ext.refl _) λ _ _=>trivial
 | first t m=>exact Ob.mono h (Ext.refl _) λ _ _=>trivial
end
theorem R0.kind_lt (r:R0):r.kind<3:=by cases r <;> simp [R0.kind]
theorem Rl.kind_lt (t:Rl):t.kind<5:=by
 cases t with
 | one r=>have:=r.kind_lt;show r.kind<5;omega
 | blocks _=>show 3<5;decide
 | first _ _=>show 4<5;decide
def gA:List Str:=["size","first_state","mark","parts","coin","far","rules","dealer"]
structure KR (K:Frag)(C:Nat->Addr)(CR:Addr):Prop where
 cls:∀ i,i<5->Cls K (C i)
 no:∀ i,i<5->∀ f∈gA,NoAttr K (C i) f
 ha:∀ i,i<5->PySem.W.findIn K (.ref (C i)) "__class__" = some (some (.builtin "object.__class__"))
 hn:PySem.W.specialIn K (.builtin "object.__class__") "__get__" = some (some (.builtin "getset_descriptor.__get__"))
 htk:PySem.W.takesIn K (.builtin "object.__class__")=some true
 hm:∀ i,i<5->PySem.W.mroIn K (C i) (.type "object")=some true
 kk:∀ i j,i<5->j<5->kitOne K (.ref (C i)) (.ref (C j))=some (i==j)
 kR:∀ i,i<5->kitOne K (.ref (C i)) (.ref CR)=some true
 kl:∀ i,i<5->kitOne K (.ref (C i)) (.type "list")=some false
 kt:∀ i,i<5->kitOne K (.ref (C i)) (.type "tuple")=some false
 ki:∀ i,i<5->kitOne K (.ref (C i)) (.type "int")=some false
 kb:∀ i,i<5->kitOne K (.ref (C i)) (.type "bool")=some false
def oJ (C:Nat->Addr)(c:Addr):Prop:=∃ i,i<5/\c=C i
section
variable {K:Frag}{C:Nat->Addr}{CR:Addr}{H:Hp}
theorem Ob.kd {i:Nat}{v:V}{fk:Int}{bg tl pt:PyData}{X:List (Str × V)->Prop}(Z:KR K C CR)(hi:i<5)(h:Ob (C i) H v fk bg tl pt X):Kd K H v (.ref (C i)):=by
 obtain⟨a,dx,fs,rfl,ha,_⟩:=h.ex;exact .inl (.ins ha (Z.cls i hi) (Z.ha i hi) Z.hn Z.htk (Z.hm i hi))
theorem Ru.kd {t:Rl}{v:V}(Z:KR K C CR)(h:Ru C H t v):Kd K H v (.ref (C t.kind)):=h.ob.kd Z t.kind_lt
theorem bV {m:Str}{sp:Addr->Sp}{E:XK}{ta:TE}{σ:St}{Q:VK}{t:Rl}{v:V}(hm:m∈gn)(h:Ru C H t v)(ht:∀ R:VK,R v H->ta σ H R)(q:sp (C t.kind) [v] H Q E):dk (oJ C) m sp E ta aL σ H Q:=by
 obtain⟨a,dx,fs,rfl,ha,_,_,_,_,h5,_⟩:=h.ob.ex;exact ht _ ⟨a,C t.kind,dx,fs,rfl,⟨_,t.kind_lt,rfl⟩,ha,h5 m hm,q⟩
end
theorem iw:∀(ns:List Int),plainDs (ns.map PyData.int)=true
 | []=>by simp [plainDs]
 | n::ns=>by simp only [List.map_cons,plainDs,aQ,iw ns,Bool.and_self]
end My
namespace My
open PySem PySem.W L2
def lH:V->V->Bool
 | x,.int j=>decide (1<=j)&&inB 0 j x
 | _,_=>false
theorem qU {x y:V}(h:∀ i,y ≠ .int i):lH x y=false:=by
 cases y with
 | int i=>exact absurd rfl (h i)
 | _=>rfl
section
variable {P:Program}{w:World}{K:Frag}{mg:Str->Option Value}{base:Heap}
abbrev j4:Stmt:=bR 13
def ke (K:Frag):Sp:=λ vs H Q _=>∃ x,vs=[x]/\Th K H x/\Q (.bl (CQ x)) H
theorem Fz:ad ["thing"] ["thing"] (aa j4):=aJ
theorem pV {f:Addr}{fd:FuncData}(N:sd K)(F:Fun K "is_number" "is_number" j4 f fd)(mi:mg "isinstance" = none)(m1:mg "int" = none)(m2:mg "bool" = none):FnOk P w K mg base aq 1 f fd ["thing"] (ke K):=by
 refine F.ok Fz (λ vs H Q E h=>?_) (λ cdv A outer s H vs Q E hr h=>?_)
 ·obtain⟨c,rfl,_⟩:=h;rfl
 obtain⟨x,rfl,th,q⟩:=h;refine⟨_,bc (cZ (dJ (ai (cA N) rfl mi PyProof.Rows.boot_isinstance (ac (pv 0) (ac (gl rfl m1 PyProof.Rows.boot_int) ao)))
  (eu (qO (ai (cA N) rfl mi PyProof.Rows.boot_isinstance (ac (pv 0) (ac (gl rfl m2 PyProof.Rows.boot_bool) ao))))))),?_⟩
 rcases th with⟨i,rfl⟩ | ⟨n,t,b1,b2,kd,k1,k2,z⟩
 ·exact⟨_,rfl,_,_,_,_,rfl,.inl (.int i),Db,_,rfl,⟨_,rfl,_,_,_,_,rfl,.inl (.int i),BN,_,rfl,q⟩⟩
 ·rw [jG n] at q;refine⟨_,rfl,_,_,_,_,rfl,kd,k1,_,rfl,?_⟩;cases b1 with
  | false=>exact cH q
  | true =>
   refine cW ⟨_,rfl,_,_,_,_,rfl,kd,k2,_,rfl,?_⟩;have e:(!b2)=false:=z;rw [e];exact q
abbrev n9:Stmt:=bR 14
def fR (K:Frag):Sp:=λ vs H Q _=>∃ x lo hi,vs=[x,.int lo,.int hi]/\Th K H x/\Q (.bl (inB lo hi x)) H
theorem E3:ad ["thing","low","high"] ["thing","low","high"] (aa n9):=aJ
theorem sZ {f g:Addr}{fd gd:FuncData}(F:Fun K "is_whole" "is_whole" n9 f fd)(G:FnOk P w K mg base aq 1 g gd ["thing"] (ke K))(bG:Binds K gd ["thing"] [])(kG:keepIn K (.ref g)=true)(mG:mg "is_number" = some (.ref g)) :
  FnOk P w K mg base aq 2 f fd ["thing","low","high"] (fR K):=by
 refine F.ok E3 (λ vs H Q E h=>?_) (λ cdv A outer s H vs Q E hr h=>?_)
 ·obtain⟨c,lo,hi,rfl,_⟩:=h;rfl
 obtain⟨x,lo,hi,rfl,th,q⟩:=h;refine⟨_,bc (cZ (dJ (bK G hr rfl mG kG bG .nil ah (ac (pv 0) ao)) (dJ (bY vH (pv 1) (pv 0) (au _)) (eu (bY vH (pv 0) (pv 2) (au _)))))),?_⟩;refine⟨_,rfl,x,rfl,th,_,rfl,?_⟩;rcases th with⟨i,rfl⟩ | ⟨n,_⟩
 ·refine cW ⟨_,rfl,_,rfl,_,_,rfl,rfl,_,rfl,?_⟩;refine nq (λ c=>?_) (λ c=>?_)
  ·refine⟨_,rfl,_,rfl,_,_,rfl,rfl,?_⟩;have q':Q (.bl (decide (lo<=i)&&decide (i<=hi))) H:=q;rw [decide_eq_true (of_decide_eq_true c),Bool.true_and] at q';exact q'
  ·have q':Q (.bl (decide (lo<=i)&&decide (i<=hi))) H:=q;rw [decide_eq_false (λ z=>c (decide_eq_true z)),Bool.false_and] at q';exact q'
 ·rw [jG n];rw [zr n] at q;exact cH q
abbrev ux:Stmt:=bR 17
def vT:Sp:=λ vs H Q _=>∃ a b:Nat,vs=[.int a,.int b]/\Q (.int (Nat.gcd a b)) H
theorem scG:ad ["one","other"] ["one","other"] (aa ux):=aJ
def ER:St->Nat
 | [_,some (.int b)]=>b.toNat
 | _=>0
theorem yn {f:Addr}{fd:FuncData}(F:Fun K "greatest_common" "greatest_common" ux f fd):FnOk P w K mg base aq 1 f fd ["one","other"] vT:=by
 refine F.ok scG (λ vs H Q E h=>?_) (λ cdv A outer s H vs Q E hr h=>?_)
 ·obtain⟨c,lo,rfl,_⟩:=h;rfl
 obtain⟨a,b,rfl,q⟩:=h;have nd:=scG.nd;refine⟨_,bZ (kU PassesOwn.never (av ft (pv 1) az (au _)) (bc (zk (i:=0) (j:=1) rfl nd rfl rfl (by decide) rfl rfl (ac (pv 1) (ac (aj dG (pv 0) (pv 1)) ao)) rfl))) (bc (cZ (pv 0))),?_⟩
 refine rP (λ σ H'=>H'=H/\∃ x y:Nat,σ=[some (.int x),some (.int y)]/\Nat.gcd x y=Nat.gcd a b) (λ σ _=>ER σ) ⟨rfl,a,b,rfl,rfl⟩ ?_ ?_
 ·rintro σ H' ⟨rfl,x,y,rfl,e⟩;refine⟨_,rfl,_,_,rfl,rfl,_,rfl,?_⟩;refine nq (λ c=>?_) (λ c=>?_)
  ·have c':(0:Int)<(y:Int):=of_decide_eq_true c;refine⟨_,rfl,_,rfl,_,rfl,_,_,rfl,rfl,c',_,_,rfl,⟨rfl,y,x%y,?_,?_⟩,?_⟩
   ·show [some (V.int y),some (V.int ((x:Int)%(y:Int)))]=_;rw [show((x:Int)%(y:Int))=((x%y:Nat):Int) from by simp]
   ·rw [<- e,Nat.gcd_comm x y,Nat.gcd_rec y x,Nat.gcd_comm]
   ·show((x:Int)%(y:Int)).toNat<(y:Int).toNat;have:=Int.emod_lt_of_pos (x:Int) c';omega
  ·have c':¬ (0:Int)<(y:Int):=λ z=>c (decide_eq_true z);have y0:y=0:=by omega
   subst y0;rw [Nat.gcd_zero_right] at e;refine⟨_,rfl,?_⟩;rw [e];exact q
 ·rintro σ H Q Q' m ⟨x,e,i,j,h1,h2,b,hb,q⟩;exact⟨x,e,i,j,h1,h2,b,hb,m _ _ q⟩
abbrev nY:Stmt:=bR 18
def qM (K:Frag):Sp:=λ vs H Q _=>∃ x y,vs=[x,y]/\Th K H x/\Th K H y/\Q (.bl (lH x y)) H
theorem D6:ad ["top","bottom"] ["top","bottom"] (aa nY):=aJ
theorem sf {f g k:Addr}{fd gd kd:FuncData}(F:Fun K "is_part" "is_part" nY f fd)(G:FnOk P w K mg base aq 1 g gd ["thing"] (ke K))(bG:Binds K gd ["thing"] [])(kG:keepIn K (.ref g)=true)(mG:mg "is_number" = some (.ref g))
  (W:FnOk P w K mg base aq 2 k kd ["thing","low","high"] (fR K))(bW:Binds K kd ["thing","low","high"] [])(kW:keepIn K (.ref k)=true)(mW:mg "is_whole" = some (.ref k)):FnOk P w K mg base aq 3 f fd ["top","bottom"] (qM K):=by
 refine F.ok D6 (λ vs H Q E h=>?_) (λ cdv A outer s H vs Q E hr h=>?_)
 ·obtain⟨x,y,rfl,_⟩:=h;rfl
 obtain⟨x,y,rfl,tx,ty,q⟩:=h;have hr1:=hr.mono (show 1<=2 by decide)
 refine⟨_,bc (cZ (dJ (bK G hr1 rfl mG kG bG .nil ah (ac (pv 1) ao)) (dJ (bY vS (pv 1) az (au _)) (eu (bK W hr rfl mW kW bW .nil ah (ac (pv 0) (ac az (ac (pv 1) ao)))))))),?_⟩;refine⟨_,rfl,y,rfl,ty,_,rfl,?_⟩;rcases ty with⟨j,rfl⟩ | ⟨n,_⟩
 ·refine cW ⟨_,rfl,_,_,rfl,rfl,_,rfl,?_⟩;have q':Q (.bl (decide (1<=j)&&inB 0 j x)) H:=q;refine nq (λ c=>?_) (λ c=>?_)
  ·rw [decide_eq_true (of_decide_eq_true c),Bool.true_and] at q';exact⟨_,rfl,_,rfl,x,0,j,rfl,tx,q'⟩
  ·rw [decide_eq_false (λ z=>c (decide_eq_true z)),Bool.false_and] at q';exact q'
 ·rw [jG n];rw [qU n] at q;exact cH q
abbrev uJ:Stmt:=bR 20
def vU:Sp:=λ vs H Q _=>∃ x d,vs=[x]/\Rds H x d/\Q (.bl (dq d)) H
theorem scISh:ad ["thing","top","bottom"] ["thing"] (aa uJ):=aJ
theorem mf {d1 d2:PyData}{H:Hp}{u v:V}(r1:Rds H u d1)(r2:Rds H v d2):lH u v=false->dq (.tuple [d1,d2])=false:=by
 intro h;cases r1 with
 | int i =>
  cases r2 with
  | int j =>
   have h':(decide (1<=j)&&(decide (0<=i)&&decide (i<=j)))=false:=h;show((decide (1<=j)&&(decide (0<=i)&&decide (i<=j)))&&_)=false;rw [h'];rfl
  | _=>rfl
 | _=>cases r2 <;> rfl
theorem pU {x y:V}(h:lH x y=true):∃ a b:Nat,x=.int a/\y=.int b/\1<=b/\a<=b:=by
 cases y with
 | int j =>
  have h':(decide (1<=j)&&inB 0 j x)=true:=h;rw [Bool.and_eq_true,decide_eq_true_iff] at h';obtain⟨h1,h2⟩:=h';cases x with
  | int i =>
   have h3:(decide (0<=i)&&decide (i<=j))=true:=h2;rw [Bool.and_eq_true,decide_eq_true_iff,decide_eq_true_iff] at h3;refine⟨i.toNat,j.toNat,?_,?_,by omega,by omega⟩
   ·congr 1;omega
   ·congr 1;omega
  | _=>cases h2
 | _=>cases h
theorem yj {f a1 a2:Addr}{fd d1 d2:FuncData}(N:sd K)(F:Fun K "is_share" "is_share" uJ f fd)(A1:Df P w K mg base aq 3 "is_part" ["top","bottom"] (qM K) a1 d1)(A2:Df P w K mg base aq 1 "greatest_common" ["one","other"] vT a2 d2)
  (mi:mg "isinstance" = none)(mt:mg "tuple" = none)(ml:mg "len" = none):FnOk P w K mg base aq 4 f fd ["thing"] vU:=by
 refine F.ok scISh (λ vs H Q E h=>?_) (λ cdv A outer s H vs Q E hr h=>?_)
 ·obtain⟨v,d,rfl,_⟩:=h;rfl
 obtain⟨v,d,rfl,rd,q⟩:=h;have nd:=scISh.nd;have hr1:Room 1 _:=hr.mono (by decide)
 refine⟨_,bZ (bB (PW.pt (gk (cg (bw (ai (cA N) rfl mi PyProof.Rows.boot_isinstance (ac (pv 0) (ac (gl rfl mt PyProof.Rows.boot_tuple) ao))))) (eB (av fK (ai ar rfl ml PySem.boot_len (ac (pv 0) ao)) az (au _))))) (bc (cZ rY)) gz)
  (bZ (fQ (pv 0) (bI rfl (dX (bU (i:=1) nd rfl (Or.inl rfl)) (dX (bU (i:=2) nd rfl (Or.inl rfl)) ba))))
  (bc (cZ (dJ (bK A1.G hr rfl A1.m A1.kp A1.b .nil ah (ac (pv 1) (ac (pv 2) ao))) (eu (bY cT (bK A2.G hr1 rfl A2.m A2.kp A2.b .nil ah (ac (pv 1) (ac (pv 2) ao))) az (au _))))))),?_⟩
 refine⟨_,rfl,_,_,_,_,rfl,rd.kd,rd.isT,_,rfl,?_⟩;cases e:xO d with
 | false =>
  refine cW (cW ?_);have z:dq d=false:=by cases d <;> first | rfl | cases e
  rw [z] at q;exact q
 | true =>
  obtain⟨ds,rfl⟩:∃ ds,d=.tuple ds:=by cases d <;> first | exact⟨_,rfl⟩ | cases e
  obtain⟨a,xs,rfl,ha,rs⟩:=fG rd;refine cH ⟨_,rfl,a,_,rfl,.inr (SqT.of ha),rfl,_,rfl,?_⟩;have len:=rs.length;by_cases l2:xs.length=2
  ·obtain⟨u,v,rfl⟩:∃ u v,xs=[u,v]:=by
    match xs,l2 with
    | [u,v],_=>exact⟨u,v,rfl⟩
   cases rs with
   | cons r1 rs =>
    cases rs with
    | cons r2 rs =>
     cases rs;refine cH ⟨_,rfl,a,_,rfl,SqT.of ha,rfl,_,_,rfl,_,_,rfl,rfl,?_⟩;refine⟨_,rfl,_,rfl,u,v,rfl,r1.th,r2.th,_,rfl,?_⟩;cases pv:lH u v with
     | false =>
      rw [mf r1 r2 pv] at q;exact cH q
     | true =>
      obtain⟨x,y,rfl,rfl,y1,xy⟩:=pU pv;cases r1;cases r2;refine cW ⟨_,rfl,_,rfl,x,y,rfl,rfl,?_⟩;have q':Q (.bl ((decide ((1:Int)<=(y:Int))&&(decide ((0:Int)<=(x:Int))&&decide ((x:Int)<=(y:Int))))&&decide (Nat.gcd (x:Int).toNat (y:Int).toNat=1))) H:=q;rw [decide_eq_true (show(1:Int)<=(y:Int) by omega),decide_eq_true (show(0:Int)<=(x:Int) by omega),decide_eq_true (show(x:Int)<=(y:Int) by omega),Int.toNat_natCast,Int.toNat_natCast,Bool.and_self,Bool.and_self,Bool.true_and] at q'
      have ee:decide (V.int ((Nat.gcd x y:Nat):Int)=V.int 1)=decide (Nat.gcd x y=1):=by
       by_cases g:Nat.gcd x y=1
       ·rw [decide_eq_true g,g];rfl
       ·rw [decide_eq_false g,decide_eq_false];intro z;injection z with z
        omega
      rw [ee];exact q'
  ·have e1:(!decide (V.int (xs.length:Nat)=V.int 2))=true:=by
    rw [decide_eq_false]
    ·rfl
    ·intro h;injection h with h
     omega
   rw [e1];refine cW ?_;have z:dq (.tuple ds)=false:=by
    match ds,len,l2 with
    | [],_,_=>rfl
    | [_],_,_=>simp [dq]
    | [_,_],l,n=>exact absurd l n
    | _::_::_::_,_,_=>simp [dq]
   rw [z] at q;exact q
abbrev DB:Stmt:=bR 30
def qA (CN:Addr):Sp:=λ vs H Q E=>∃ x d lo hi,vs=[x,.int lo,.int hi]/\Rds H x d/\(jB lo hi d=true->Q .non H)/\(jB lo hi d=false->cF CN "found" x H E)
theorem E6:ad ["thing","low","high"] ["thing","low","high"] (aa DB):=aJ
theorem CV {f a1 D CN fC:Addr}{fd d1 fdC:FuncData}(F:Fun K "need_number" "need_number" DB f fd)(B:BaseC K D)(T:fz K mg D "NoNumber" "found" CN fC fdC)(A1:Df P w K mg base aq 2 "is_whole" ["thing","low","high"] (fR K) a1 d1):FnOk P w K mg base (cC P w) 3 f fd ["thing","low","high"] (qA CN):=by
 refine la F E6 (λ vs H Q E h=>?_) (λ cdv A outer s H vs Q E hr h=>?_)
 ·obtain⟨_,_,_,_,rfl,_⟩:=h;rfl
 obtain⟨x,d,lo,hi,rfl,rd,q1,q2⟩:=h;refine⟨_,bc (bB (cg (bw (bK A1.G hr rfl A1.m A1.kp A1.b .nil ah (ac (pv 0) (ac (pv 1) (ac (pv 2) ao)))))) (bc (cz B T.cls (T.ok P w base) hr T.bi rfl T.mgC (pv 0))) gz),?_⟩;refine⟨_,rfl,_,rfl,_,rfl,x,lo,hi,rfl,rd.th,_,rfl,?_⟩;rw [rd.inB];cases e:jB lo hi d with
 | true=>exact cH (q1 e)
 | false=>exact cW ⟨_,rfl,λ e' dx h1 h2 nd=>eR nd (q2 e e' dx h1 h2 nd)⟩
abbrev DE:Stmt:=bR 31
def zh (CS:Addr):Sp:=λ vs H Q E=>∃ x d,vs=[x]/\Rds H x d/\(c6 d=true->Q .non H)/\(c6 d=false->cF CS "found" x H E)
theorem EW:ad ["thing"] ["thing"] (aa DE):=aJ
theorem lK {d:PyData}(h:dq d=true):∃ a b,d=.tuple [.int a,.int b]:=by
 match d,h with
 | .tuple [.int a,.int b],_=>exact⟨a,b,rfl⟩
theorem Ct {f a1 a2 D CS fC:Addr}{fd d1 d2 fdC:FuncData}{t:Tok}(F:Fun K "need_coin" "need_coin" DE f fd)(B:BaseC K D)(T:fz K mg D "NoShare" "found" CS fC fdC)(A1:Df P w K mg base aq 2 "is_whole" ["thing","low","high"] (fR K) a1 d1)(A2:Df P w K mg base aq 4 "is_share" ["thing"] vU a2 d2)(mB:mg "MOST_BOTTOM" = some (.int 100 t)) :
  FnOk P w K mg base (cC P w) 5 f fd ["thing"] (zh CS):=by
 refine la F EW (λ vs H Q E h=>?_) (λ cdv A outer s H vs Q E hr h=>?_)
 ·obtain⟨_,_,rfl,_⟩:=h;rfl
 obtain⟨x,d,rfl,rd,q1,q2⟩:=h;have hr2:Room 2 _:=hr.mono (by decide)
 refine⟨_,bc (bB (PW.pt (gk (cg (bw (bK A2.G hr rfl A2.m A2.kp A2.b .nil ah (ac (pv 0) ao)))) (eB (cg (bw (bK A1.G hr2 rfl A1.m A1.kp A1.b .nil ah (ac (c8 kD (pv 0) az) (ac az (ac (bS (v:=.int 100) rfl mB ⟨_,rfl⟩) ao)))))))))
  (bc (cz B T.cls (T.ok P w base) hr2 T.bi rfl T.mgC (pv 0))) gz),?_⟩
 refine⟨_,rfl,x,d,rfl,rd,_,rfl,?_⟩;cases e:dq d with
 | false =>
  have z:c6 d=false:=by
   match d,e with
   | .tuple [.int a,.int b],e=>show(dq (.tuple [.int a,.int b])&&_)=false;rw [e];rfl
   | .none,_ | .bool _,_ | .int _,_ | .str _,_ | .list _,_ | .dict _,_=>rfl
   | .tuple [],_=>rfl
   | .tuple [_],_=>simp [c6]
   | .tuple (_::_::_::_),_=>simp [c6]
   | .tuple [.int _,.none],_ | .tuple [.int _,.bool _],_ | .tuple [.int _,.str _],_ | .tuple [.int _,.list _],_ | .tuple [.int _,.tuple _],_ | .tuple [.int _,.dict _],_=>rfl
   | .tuple [.none,_],_ | .tuple [.bool _,_],_ | .tuple [.str _,_],_ | .tuple [.list _,_],_ | .tuple [.tuple _,_],_ | .tuple [.dict _,_],_=>rfl
  exact cW (cW ⟨_,rfl,λ e' dx h1 h2 nd=>eR nd (q2 z e' dx h1 h2 nd)⟩)
 | true =>
  obtain⟨a,b,rfl⟩:=lK e;obtain⟨p,xs,rfl,hp,rs⟩:=fG rd;cases rs with
  | cons r1 rs =>
   cases rs with
   | cons r2 rs =>
    cases rs;cases r1;cases r2;refine cH ⟨_,rfl,p,_,_,_,rfl,rfl,SqT.of hp,dL (j:=1) rfl,_,2,100,rfl,.inl ⟨b,rfl⟩,_,rfl,?_⟩;have ec:c6 (.tuple [.int a,.int b])=inB 2 100 (.int b):=by
     show(dq (.tuple [.int a,.int b])&&(decide (2<=b)&&decide (b<=100)))=_;rw [e,Bool.true_and];rfl
    cases z:inB 2 100 (.int b) with
    | true=>exact cH (q1 (by rw [ec,z]))
    | false=>exact cW ⟨_,rfl,λ e' dx h1 h2 nd=>eR nd (q2 (by rw [ec,z]) e' dx h1 h2 nd)⟩
abbrev DK:Stmt:=bR 32
def tN:Sp:=λ vs H Q _=>∃ i:Int,vs=[.int i]/\0<=i/\i<=20/\∀ l H',Ext H H'->Rds H' (.ref l) (eH [cy 0 i.toNat])->Q (.ref l) H'
theorem Fl:ad ["folk"] ["folk"] (aa DK):=aJ
theorem Ca {f:Addr}{fd:FuncData}(F:Fun K "one_part" "one_part" DK f fd)(mt:mg "tuple" = none)(mr:mg "range" = none):FnOk P w K mg base aq 1 f fd ["folk"] tN:=by
 refine F.ok Fl (λ vs H Q E h=>?_) (λ cdv A outer s H vs Q E hr h=>?_)
 ·obtain⟨_,rfl,_⟩:=h;rfl
 obtain⟨i,rfl,h1,h2,q⟩:=h;refine⟨_,bc (cZ (bJ (ac (aM (i6 rfl) rfl mt PyProof.Rows.boot_tuple (ac (aM i3 rfl mr PyProof.Rows.boot_range (ac (pv 0) ao)) ao)) ao))),?_⟩;refine⟨_,rfl,i,rfl,λ r hr=>⟨r,0,i,rfl,aR,⟨by omega,by omega,by omega,by omega⟩,by omega,λ l hl=>⟨by show 1<=sizeLine;decide,λ m hm=>?_⟩⟩⟩
 have x2:=Ext.new (o:=.tup [.ref l]) hm;refine q m _ (((Ext.new hr).trans (Ext.new hl)).trans x2) (.tup aR (.cons (.tup (x2 _ _ aR) ?_) .nil));rw [Int.sub_zero,jI];exact cI _ _
end
def sw:PyData->Bool
 | .tuple [a,b]=>jB (-99) 99 a&&tM b
 | _=>false
def Ot (K:Frag)(H:Hp)(v:V)(b:Bool):Prop:=(∃ d,Rds H v d/\b=sw d)\/(NoK K H v "tuple" /\ b=false)
theorem Ot.ext {K:Frag}{H H':Hp}{v:V}{b:Bool}(h:Ot K H v b)(x:Ext H H'):Ot K H' v b:=by
 rcases h with⟨d,r,e⟩ | ⟨n,e⟩
 ·exact .inl ⟨d,r.mono x,e⟩
 ·exact .inr ⟨n.ext x,e⟩
theorem tT {d:PyData}(h:sw d=true):∃(x:Int)(b:Bool),d=.tuple [.int x,.bool b]/\-99<=x/\x<=99:=by
 match d,h with
 | .tuple [a,b],h =>
  have h':(jB (-99) 99 a&&tM b)=true:=h;rw [Bool.and_eq_true] at h';obtain⟨i,rfl,h1,h2⟩:=eL h'.1;cases b with
  | bool b=>exact⟨i,b,rfl,h1,h2⟩
  | _=>cases h'.2
theorem Ot.two {K:Frag}{H:Hp}{v:V}(h:Ot K H v true):∃ a n s,v=.ref a/\H a=some (.tup [.int n,.bl s]):=by
 rcases h with⟨d,r,e⟩ | ⟨_,e⟩
 ·obtain⟨n,s,rfl,_⟩:=tT e.symm;cases r with
  | tup ha rs =>
   cases rs with
   | cons r1 rs =>
    cases rs with
    | cons r2 rs =>
     cases rs;cases r1;cases r2;exact⟨_,_,_,rfl,ha⟩
 ·cases e
def rZ (K:Frag)(H:Hp)(xs:List V)(bs:List Bool):Prop:=xs.length=bs.length/\∀(i:Nat) x,xs[i]?=some x->∃ b,bs[i]?=some b/\Ot K H x b
section
variable {P:Program}{w:World}{K:Frag}{mg:Str->Option Value}{base:Heap}
abbrev Dz:Stmt:=bR 50
def Dc (K:Frag):Sp:=λ vs H Q _=>∃ v b,vs=[v]/\Ot K H v b/\Q (.bl b) H
theorem scIO:ad ["thing","number","sure"] ["thing"] (aa Dz):=aJ
theorem Av {f a1:Addr}{fd d1:FuncData}{t1 t2:Tok}(N:sd K)(F:Fun K "is_outcome" "is_outcome" Dz f fd)(A1:Df P w K mg base aq 2 "is_whole" ["thing","low","high"] (fR K) a1 d1)(mL:mg "LEAST_NUMBER" = some (.int (-99) t1))(mM:mg "MOST_NUMBER" = some (.int 99 t2))
  (mi:mg "isinstance" = none)(mt:mg "tuple" = none)(ml:mg "len" = none)(mb:mg "bool" = none):FnOk P w K mg base aq 3 f fd ["thing"] (Dc K):=by
 refine F.ok scIO (λ vs H Q E h=>?_) (λ cdv A outer s H vs Q E hr h=>?_)
 ·obtain⟨v,b,rfl,_⟩:=h;rfl
 obtain⟨v,b,rfl,ot,q⟩:=h;have nd:=scIO.nd;refine⟨_,bZ (bB (PW.pt (gk (cg (bw (ai (cA N) rfl mi PyProof.Rows.boot_isinstance (ac (pv 0) (ac (gl rfl mt PyProof.Rows.boot_tuple) ao))))) (eB (av fK (ai ar rfl ml PySem.boot_len (ac (pv 0) ao)) az (au _))))) (bc (cZ rY)) gz)
  (bZ (fQ (pv 0) (bI rfl (dX (bU (i:=1) nd rfl (Or.inl rfl)) (dX (bU (i:=2) nd rfl (Or.inl rfl)) ba))))
  (bc (cZ (dJ (bK A1.G hr rfl A1.m A1.kp A1.b .nil ah (ac (pv 1) (ac (bS (v:=.int (-99)) rfl mL ⟨_,rfl⟩) (ac (bS (v:=.int 99) rfl mM ⟨_,rfl⟩) ao)))) (eu (ai (cA N) rfl mi PyProof.Rows.boot_isinstance (ac (pv 2) (ac (gl rfl mb PyProof.Rows.boot_bool) ao)))))))),?_⟩
 rcases ot with⟨d,rd,rfl⟩ | ⟨⟨t,kd,kt⟩,rfl⟩
 rotate_left
 ·exact⟨_,rfl,_,_,_,_,rfl,kd,kt,_,rfl,cW (cW q)⟩
 refine⟨_,rfl,_,_,_,_,rfl,rd.kd,rd.isT,_,rfl,?_⟩;cases e:xO d with
 | false =>
  refine cW (cW ?_);have z:sw d=false:=by cases d <;> first | rfl | cases e
  rw [z] at q;exact q
 | true =>
  obtain⟨ds,rfl⟩:∃ ds,d=.tuple ds:=by cases d <;> first | exact⟨_,rfl⟩ | cases e
  obtain⟨a,xs,rfl,ha,rs⟩:=fG rd;refine cH ⟨_,rfl,a,_,rfl,.inr (SqT.of ha),rfl,_,rfl,?_⟩;have len:=rs.length;by_cases l2:xs.length=2
  ·obtain⟨u,v,rfl⟩:∃ u v,xs=[u,v]:=by
    match xs,l2 with
    | [u,v],_=>exact⟨u,v,rfl⟩
   cases rs with
   | cons r1 rs =>
    cases rs with
    | cons r2 rs =>
     cases rs;refine cH ⟨_,rfl,a,_,rfl,SqT.of ha,rfl,_,_,rfl,_,_,rfl,rfl,?_⟩;refine⟨_,rfl,u,-99,99,rfl,r1.th,_,rfl,?_⟩;rw [r1.inB]
     rename_i d1 d2
     have qq:Q (.bl (jB (-99) 99 d1&&tM d2)) H:=q;cases e1:jB (-99) 99 d1 with
     | false =>
      rw [e1] at qq;exact cH qq
     | true =>
      rw [e1] at qq;exact cW ⟨_,rfl,_,_,_,_,rfl,r2.kd,r2.isB,qq⟩
  ·have e1:(!decide (V.int (xs.length:Nat)=V.int 2))=true:=by
    rw [decide_eq_false]
    ·rfl
    ·intro h;injection h with h
     omega
   rw [e1];refine cW ?_;have z:sw (.tuple ds)=false:=by
    match ds,len,l2 with
    | [],_,_=>rfl
    | [_],_,_=>rfl
    | [_,_],l,n=>exact absurd l n
    | _::_::_::_,_,_=>rfl
   rw [z] at q;exact q
abbrev DF:Stmt:=bR 51
def wO (K:Frag)(C:Addr):Sp:=λ vs H Q E=>∃(v:V)(b:Bool)(i:Nat),vs=[v,.int (i:Nat)]/\Ot K H v b/\(b=true->Q .non H)/\(b=false->cF C "place" (.int (i:Nat)) H E)
theorem E9:ad ["thing","place"] ["thing","place"] (aa DF):=aJ
theorem Cj {f D C fC a1:Addr}{fd fdC d1:FuncData}(F:Fun K "need_outcome" "need_outcome" DF f fd)(B:BaseC K D)(T:fz K mg D "NoOutcome" "place" C fC fdC)(A1:Df P w K mg base aq 3 "is_outcome" ["thing"] (Dc K) a1 d1):FnOk P w K mg base (cC P w) 4 f fd ["thing","place"] (wO K C):=by
 refine la F E9 (λ vs H Q E h=>?_) (λ cdv A outer s H vs Q E hr h=>?_)
 ·obtain⟨v,d,n,rfl,_⟩:=h;rfl
 obtain⟨v,d,i,rfl,rd,q1,q2⟩:=h;have hr2:=hr.mono (show 2<=3 by decide)
 refine⟨_,bc (bB (cg (bw (bK A1.G hr rfl A1.m A1.kp A1.b .nil ah (ac (pv 0) ao)))) (bc (cz B T.cls (T.ok P w base) hr2 T.bi rfl T.mgC (pv 1))) gz),?_⟩;refine⟨_,rfl,v,d,rfl,rd,_,rfl,?_⟩;cases e:d with
 | false=>exact cW ⟨_,rfl,λ e' dx h1 h2 nd=>eR nd (q2 e e' dx h1 h2 nd)⟩
 | true=>exact cH (q1 e)
abbrev vb:Stmt:=bR 52
def vL (K:Frag)(CF CO:Addr):Sp:=λ vs H Q E=>∃(v:V),vs=[v]/\((NoK K H v "list" /\ cF CF "found" v H E)\/∃ a xs bs,v=.ref a/\H a=some (.lst xs)/\rZ K H xs bs/\(bs.all id=true->∀ H',Ext H H'->Q .non H')/\∀ i,fB bs i->∀ H',Ext H H'->cF CO "place" (.int (i:Nat)) H' E)
theorem scNOs:ad ["thing","place","outcome"] ["thing"] (aa vb):=aJ
theorem xI {f D CF fC CO a1:Addr}{fd fdC d1:FuncData}(N:sd K)(F:Fun K "need_outcomes" "need_outcomes" vb f fd)(B:BaseC K D)(T:fz K mg D "NoFolk" "found" CF fC fdC)(A1:Df P w K mg base (cC P w) 4 "need_outcome" ["thing","place"] (wO K CO) a1 d1)
  (mi:mg "isinstance" = none)(ml:mg "list" = none)(me:mg "enumerate" = none):FnOk P w K mg base (cC P w) 5 f fd ["thing"] (vL K CF CO):=by
 refine la F scNOs (λ vs H Q E h=>?_) (λ cdv A outer s H vs Q E hr h=>?_)
 ·obtain⟨v,rfl,_⟩:=h;rfl
 obtain⟨v,rfl,h⟩:=h;have nd:=scNOs.nd;have hr2:=hr.mono (show 2<=4 by decide)
 refine⟨_,bZ (bB (cg (bw (ai (cA N) rfl mi PyProof.Rows.boot_isinstance (ac (pv 0) (ac (gl rfl ml PyProof.Rows.boot_list) ao))))) (bc (cz B T.cls (T.ok P w base) hr2 T.bi rfl T.mgC (pv 0))) gz)
  (bc (cJ PassesOwn.leaving rfl (gX rfl me (ac (pv 0) ao)) (bI rfl (dX (bU (i:=1) nd rfl (Or.inl rfl)) (dX (bU (i:=2) nd rfl (Or.inl rfl)) ba)))
   (bc (aw (bK A1.G hr rfl A1.m A1.kp A1.b .nil cU (ac (pv 2) (ac (pv 1) ao))))))),?_⟩
 rcases h with⟨⟨t,kd,kt⟩,q1⟩ | ⟨a,xs,bs,rfl,ha,⟨ln,ot⟩,qn,qe⟩
 ·exact⟨_,rfl,_,_,_,_,rfl,kd,kt,_,rfl,cW ⟨_,rfl,λ e' dx h1 h2 nd=>eR nd (q1 e' dx h1 h2 nd)⟩⟩
 refine⟨_,rfl,_,_,_,_,rfl,.inl (.lst ha),rfl,_,rfl,cH ?_⟩;refine⟨_,rfl,a,rfl,⟨_,SqL.of ha⟩,lO (xs:=xs) (λ i σ H'=>Ext H H'/\(∀(j:Nat) b,j<i->bs[j]?=some b->b=true)/\∃ o1 o2,σ=[some (.ref a),o1,o2]) ⟨Ext.refl _,λ j d h=>absurd h (Nat.not_lt_zero _),_,_,rfl⟩ ?_ ?_ ?_⟩
 ·rintro i σ H' _ ⟨x',_⟩;exact SqL.of (x' _ _ ha)
 ·rintro i v σ H' k ev ⟨x',good,o1,o2,rfl⟩ hk;have xk:=Ext.new (o:=.tup [.int (i:Nat),v]) hk;obtain⟨d,ed,rv⟩:=ot i v ev;refine⟨k,_,rfl,SqT.of aR,rfl,_,_,rfl,_,_,rfl,rfl,?_⟩;refine⟨_,rfl,_,rfl,v,d,i,rfl,rv.ext (x'.trans xk),λ o=>?_,λ o=>?_⟩
  ·refine⟨x'.trans xk,λ j d' hj hd=>?_,_,_,rfl⟩;rcases Nat.lt_or_ge j i with lt | ge
   ·exact good j d' lt hd
   ·have e0:j=i:=by omega
    subst e0;rw [ed] at hd;cases hd;exact o
  ·exact qe i ⟨good,by rw [ed,o]⟩ _ (x'.trans xk)
 ·rintro σ H' ⟨x',good,o1,o2,rfl⟩;refine qn ?_ H' x';rw [List.all_eq_true];intro d hd;obtain⟨j,hj,e⟩:=List.getElem_of_mem hd;exact good j d (by rw [ln];exact hj) (by rw [List.getElem?_eq_getElem hj,e])
end
def pL (n1:Int)(s1:Bool)(n2:Int)(s2:Bool):Int:=if(s2&&decide (n1>n2))=true then 1 else if(s1&&decide (n2>n1))=true then -1 else 0
section
variable {P:Program}{w:World}{K:Frag}{mg:Str->Option Value}{base:Heap}
abbrev DJ:Stmt:=bR 54
def Ce:Sp:=λ vs H Q _=>∃(a1 a2:Addr)(n1 n2:Int)(s1 s2:Bool),vs=[.ref a1,.ref a2]/\H a1=some (.tup [.int n1,.bl s1])/\H a2=some (.tup [.int n2,.bl s2])/\Q (.bl (s2&&decide (n1>n2))) H
theorem EA:ad ["one","other"] ["one","other"] (aa DJ):=aJ
theorem Dj {f:Addr}{fd:FuncData}(F:Fun K "surely_greater" "surely_greater" DJ f fd):FnOk P w K mg base aq 1 f fd ["one","other"] Ce:=by
 refine F.ok EA (λ vs H Q E h=>?_) (λ cdv A outer s H vs Q E hr h=>?_)
 ·obtain⟨_,_,_,_,_,_,rfl,_⟩:=h;rfl
 obtain⟨a1,a2,n1,n2,s1,s2,rfl,h1,h2,q⟩:=h;refine⟨_,bc (cZ (dJ (c8 kD (pv 1) az) (eu (bY ft (c8 kD (pv 0) az) (c8 kD (pv 1) az) (au _))))),?_⟩;refine⟨_,rfl,a2,_,_,_,rfl,rfl,SqT.of h2,dL (j:=1) rfl,_,rfl,?_⟩;cases s2 with
 | false=>exact cH q
 | true=>exact cW ⟨_,rfl,a1,_,_,_,rfl,rfl,SqT.of h1,dL (j:=0) rfl,_,rfl,a2,_,_,_,rfl,rfl,SqT.of h2,dL (j:=0) rfl,_,_,rfl,rfl,q⟩
abbrev DG:Stmt:=bR 55
def lI (K:Frag)(CO:Addr):Sp:=λ vs H Q E=>∃(v1 v2:V)(b1 b2:Bool),vs=[v1,v2]/\Ot K H v1 b1/\Ot K H v2 b2/\(b1=false->cF CO "place" (.int (0:Nat)) H E)/\(b1=true->b2=false->cF CO "place" (.int (1:Nat)) H E) /\
 ∀ a1 a2 n1 n2 s1 s2,v1=.ref a1->v2=.ref a2->H a1=some (.tup [.int n1,.bl s1])->H a2=some (.tup [.int n2,.bl s2])->b1=true->b2=true->Q (.int (pL n1 s1 n2 s2)) H
theorem Fr:ad ["one","other"] ["one","other"] (aa DG):=aJ
theorem Bo {f CO a1 a2:Addr}{fd d1 d2:FuncData}(F:Fun K "stands_to" "stands_to" DG f fd)(A1:Df P w K mg base (cC P w) 4 "need_outcome" ["thing","place"] (wO K CO) a1 d1)(A2:Df P w K mg base aq 1 "surely_greater" ["one","other"] Ce a2 d2):FnOk P w K mg base (cC P w) 5 f fd ["one","other"] (lI K CO):=by
 refine la F Fr (λ vs H Q E h=>?_) (λ cdv A outer s H vs Q E hr h=>?_)
 ·obtain⟨_,_,_,_,rfl,_⟩:=h;rfl
 obtain⟨v1,v2,b1,b2,rfl,o1,o2,e1,e2,q⟩:=h;have hr1:Room 1 _:=hr.mono (by decide)
 refine⟨_,bZ (aw (bK A1.G hr rfl A1.m A1.kp A1.b .nil cU (ac (pv 0) (ac az ao)))) (bZ (aw (bK A1.G hr rfl A1.m A1.kp A1.b .nil cU (ac (pv 1) (ac az ao))))
  (bZ (bB (bw (bK A2.G hr1 rfl A2.m A2.kp A2.b .nil ah (ac (pv 0) (ac (pv 1) ao)))) (bc (cZ az)) gz)
  (bZ (bB (bw (bK A2.G hr1 rfl A2.m A2.kp A2.b .nil ah (ac (pv 1) (ac (pv 0) ao)))) (bc (cZ (Cs xh az))) gz)
  (bc (cZ az))))),?_⟩
 refine⟨_,rfl,v1,b1,0,rfl,o1,λ h1=>⟨_,rfl,v2,b2,1,rfl,o2,λ h2=>?_,λ h2=>e2 h1 h2⟩,λ h1=>e1 h1⟩;subst h1 h2;obtain⟨p1,n1,s1,rfl,t1⟩:=o1.two;obtain⟨p2,n2,s2,rfl,t2⟩:=o2.two;have qq:=q p1 p2 n1 n2 s1 s2 rfl rfl t1 t2 rfl rfl;unfold pL at qq;refine⟨_,rfl,_,rfl,p1,p2,n1,n2,s1,s2,rfl,t1,t2,_,rfl,?_⟩;cases g1:s2&&decide (n1>n2) with
 | true=>rw [g1,if_pos rfl] at qq;exact cW qq
 | false =>
  rw [g1,if_neg (by decide)] at qq
  refine cH ⟨_,rfl,_,rfl,p2,p1,n2,n1,s2,s1,rfl,t2,t1,_,rfl,?_⟩;cases g2:s1&&decide (n2>n1) with
  | true=>rw [g2,if_pos rfl] at qq;exact cW ⟨1,rfl,qq⟩
  | false=>rw [g2,if_neg (by decide)] at qq;exact cH qq
abbrev t7:Stmt:=bR 53
def vw (K:Frag)(CF CO:Addr):Sp:=λ vs H Q E=>∃(v:V)(n:Int),vs=[v,.int n]/\((NoK K H v "list" /\ cF CF "found" v H E)\/∃ a xs bs,v=.ref a/\H a=some (.lst xs)/\rZ K H xs bs/\(bs.all id=true->∀ H',Ext H H'->if(xs.length:Int)=n then Q .non H' else cF CF "found" (.int (xs.length:Nat)) H' E)/\∀ i,fB bs i->∀ H',Ext H H'->cF CO "place" (.int (i:Nat)) H' E)
theorem B3:ad ["thing","folk"] ["thing","folk"] (aa t7):=aJ
theorem zC {f D CF fC CO a1:Addr}{fd fdC d1:FuncData}(F:Fun K "need_outcomes_of" "need_outcomes_of" t7 f fd)(B:BaseC K D)(T:fz K mg D "NoFolk" "found" CF fC fdC)(A1:Df P w K mg base (cC P w) 5 "need_outcomes" ["thing"] (vL K CF CO) a1 d1)(ml:mg "len" = none):FnOk P w K mg base (cC P w) 6 f fd ["thing","folk"] (vw K CF CO):=by
 refine la F B3 (λ vs H Q E h=>?_) (λ cdv A outer s H vs Q E hr h=>?_)
 ·obtain⟨v,n,rfl,_⟩:=h;rfl
 obtain⟨v,n,rfl,h⟩:=h;have hr2:=hr.mono (show 2<=5 by decide)
 refine⟨_,bZ (aw (bK A1.G hr rfl A1.m A1.kp A1.b .nil cU (ac (pv 0) ao)))
  (bc (bB (av fK (ai ar rfl ml PySem.boot_len (ac (pv 0) ao)) (pv 1) (au _)) (bc (cz B T.cls (T.ok P w base) hr2 T.bi rfl T.mgC (ai ar rfl ml PySem.boot_len (ac (pv 0) ao)))) gz)),?_⟩
 rcases h with⟨nk,q1⟩ | ⟨a,xs,bs,rfl,ha,ot,qn,qe⟩
 ·exact⟨_,rfl,v,rfl,.inl ⟨nk,q1⟩⟩
 ·refine⟨_,rfl,_,rfl,.inr ⟨a,xs,bs,rfl,ha,ot,λ al H' x'=>?_,qe⟩⟩;have q:=qn al H' x';refine⟨_,rfl,a,xs,rfl,.inl (SqL.of (x' _ _ ha)),_,rfl,rfl,_,rfl,?_⟩;by_cases e:(xs.length:Int)=n
  ·rw [if_pos e] at q;rw [decide_eq_true (by rw [e])]
   exact cH q
  ·rw [if_neg e] at q;rw [decide_eq_false (λ z=>e (V.int.inj z))];exact cW ⟨_,rfl,a,xs,rfl,.inl (SqL.of (x' _ _ ha)),λ e' dx h1 h2 nd=>eR nd (q e' dx h1 h2 nd)⟩
abbrev tH:Stmt:=bR 57
def BY (H:Hp)(v:V)(o:Int × Bool):Prop:=∃ a,v=.ref a/\H a=some (.tup [.int o.1,.bl o.2])
def pk (H:Hp)(xs:List V)(os:List (Int × Bool)):Prop:=xs.length=os.length/\∀(i:Nat) x o,xs[i]?=some x->os[i]?=some o->BY H x o
def rT (CU:Addr):Sp:=λ vs H Q E=>∃ a xs os,vs=[.ref a]/\H a=some (.lst xs)/\pk H xs os/\((os.map (·.2)).all id=true->∀ H',Ext H H'->Q .non H')/\∀ i,fB (os.map (·.2)) i->∀ H',Ext H H'->cF CU "place" (.int (i:Nat)) H' E
theorem scNSu:ad ["outcomes","place","outcome"] ["outcomes"] (aa tH):=aJ
theorem w4 {f D CU fC:Addr}{fd fdC:FuncData}(F:Fun K "need_sure" "need_sure" tH f fd)(B:BaseC K D)(T:fz K mg D "NotSure" "place" CU fC fdC)(me:mg "enumerate" = none):FnOk P w K mg base (cC P w) 3 f fd ["outcomes"] (rT CU):=by
 refine la F scNSu (λ vs H Q E h=>?_) (λ cdv A outer s H vs Q E hr h=>?_)
 ·obtain⟨_,_,_,rfl,_⟩:=h;rfl
 obtain⟨a,xs,os,rfl,ha,⟨ln,oc⟩,qn,qe⟩:=h;have nd:=scNSu.nd;have hr2:=hr;refine⟨_,bc (cJ PassesOwn.leaving rfl (gX rfl me (ac (pv 0) ao)) (bI rfl (dX (bU (i:=1) nd rfl (Or.inl rfl)) (dX (bU (i:=2) nd rfl (Or.inl rfl)) ba)))
   (bc (bB (cg (bw (c8 kD (pv 2) az))) (bc (cz B T.cls (T.ok P w base) hr2 T.bi rfl T.mgC (pv 1))) gz))),?_⟩
 refine⟨_,rfl,a,rfl,⟨_,SqL.of ha⟩,lO (xs:=xs) (λ i σ H'=>Ext H H'/\(∀(j:Nat) b,j<i->(os.map (·.2))[j]?=some b->b=true)/\∃ o1 o2,σ=[some (.ref a),o1,o2]) ⟨Ext.refl _,λ j d h=>absurd h (Nat.not_lt_zero _),_,_,rfl⟩ ?_ ?_ ?_⟩
 ·rintro i σ H' _ ⟨x',_⟩;exact SqL.of (x' _ _ ha)
 ·rintro i v σ H' k ev ⟨x',good,o1,o2,rfl⟩ hk;have xk:=Ext.new (o:=.tup [.int (i:Nat),v]) hk;have li:i<os.length:=by rw [<- ln];exact(List.getElem?_eq_some_iff.mp ev).1
  obtain⟨b,rfl,hb⟩:=oc i v _ ev (List.getElem?_eq_getElem li);have em:(os.map (·.2))[i]?=some os[i].2:=by rw [List.getElem?_map,List.getElem?_eq_getElem li];rfl
  refine⟨k,_,rfl,SqT.of aR,rfl,_,_,rfl,_,_,rfl,rfl,?_⟩;refine⟨_,rfl,b,_,_,_,rfl,rfl,SqT.of (xk _ _ (x' _ _ hb)),dL (j:=1) rfl,_,rfl,?_⟩;cases hs:os[i].2 with
  | true =>
   refine cH ⟨x'.trans xk,λ j d' hj hd=>?_,_,_,rfl⟩;rcases Nat.lt_or_ge j i with lt | ge
   ·exact good j d' lt hd
   ·have e0:j=i:=by omega
    subst e0;rw [em,hs] at hd;cases hd;rfl
  | false =>
   refine cW ⟨_,rfl,λ e' dx h1 h2 nd=>eR nd (qe i ⟨good,by rw [em,hs]⟩ _ (x'.trans xk) e' dx h1 h2 nd)⟩
 ·rintro σ H' ⟨x',good,o1,o2,rfl⟩;refine qn ?_ H' x';rw [List.all_eq_true];intro d hd;obtain⟨j,hj,e⟩:=List.getElem_of_mem hd;exact good j d (by rw [ln];simpa using hj) (by rw [List.getElem?_eq_getElem hj,e])
variable {C:Nat->Addr}{CR:Addr}
abbrev su:Stmt:=ay (bR 36) 0
abbrev t5:Stmt:=ay (bR 36) 1
abbrev sP:Stmt:=ay (bR 36) 2
abbrev tq:Stmt:=ay (bR 36) 4
abbrev ug:Stmt:=ay (bR 36) 5
def fg (v1 v2 v3 v4:V)(fs:List (Str × V)):List (Str × V):=bH "parts" v4 (bH "mark" v3 (bH "first_state" v2 (bH "size" v1 fs)))
def ij (C:Nat->Addr):Sp:=λ vs H Q _=>∃ x v1 v2 v3 v4 i dx fs,vs=[.ref x,v1,v2,v3,v4]/\i<5/\H x=some (.ins (C i) dx fs)/\fs.length<=5/\Q .non (ae H x (.ins (C i) dx (fg v1 v2 v3 v4 fs)))
theorem Cr:ad ["self","size","first_state","mark","parts"] ["self","size","first_state","mark","parts"] (aa su):=aJ
theorem f9 (f:Str)(v:V):∀ fs:List (Str × V),(bH f v fs).length<=fs.length+1
 | []=>Nat.le_refl _
 | (g,x)::r=>by
  have:=f9 f v r;show(if g=f then(g,v)::r else(g,x)::bH f v r).length<=_
  split <;> simp only [List.length_cons] <;> omega
theorem xB {f:Addr}{fd:FuncData}(Z:KR K C CR)(F:Fun K "__init__" "Rule.__init__" su f fd):FnOk P w K mg base aq 1 f fd ["self","size","first_state","mark","parts"] (ij C):=by
 refine F.ok Cr (λ vs H Q E h=>?_) (λ cdv A outer s H vs Q E hr h=>?_)
 ·obtain⟨_,_,_,_,_,_,_,_,rfl,_⟩:=h;rfl
 obtain⟨x,v1,v2,v3,v4,i,dx,fs,rfl,hi,hx,l5,q⟩:=h;refine⟨_,bZ (dC (pv 0) (pv 1) rfl) (bZ (dC (pv 0) (pv 2) rfl) (bZ (dC (pv 0) (pv 3) rfl) (bc (dC (pv 0) (pv 4) rfl)))),?_⟩;have c:=Z.cls i hi;have n:=Z.no i hi;have k1:=f9 "size" v1 fs;have k2:=f9 "first_state" v2 (bH "size" v1 fs);have k3:=f9 "mark" v3 (bH "first_state" v2 (bH "size" v1 fs));refine⟨_,rfl,_,rfl,x,C i,dx,fs,rfl,hx,c,n _ (by decide +kernel),by omega,?_⟩
 refine⟨_,rfl,_,rfl,x,C i,dx,_,rfl,aR,c,n _ (by decide +kernel),by omega,?_⟩
 rw [eN];refine⟨_,rfl,_,rfl,x,C i,dx,_,rfl,aR,c,n _ (by decide +kernel),by omega,?_⟩
 rw [eN];refine⟨_,rfl,_,rfl,x,C i,dx,_,rfl,aR,c,n _ (by decide +kernel),by omega,?_⟩
 rw [eN];exact q
def j8 (C:Nat->Addr):Sp:=λ vs H Q _=>∃ v t,vs=[v]/\Ru C H t v/\Q (.int t.folk) H
theorem AL:ad ["self"] ["self"] (aa t5):=aJ
theorem yI {f:Addr}{fd:FuncData}(Z:KR K C CR)(F:Fun K "folk" "Rule.folk" t5 f fd):FnOk P w K mg base aq 1 f fd ["self"] (j8 C):=by
 refine F.ok AL (λ vs H Q E h=>?_) (λ cdv A outer s H vs Q E hr h=>?_)
 ·obtain⟨_,_,rfl,_⟩:=h;rfl
 obtain⟨v,t,rfl,ru,q⟩:=h;obtain⟨a,dx,fs,rfl,ha,h1,_⟩:=ru.ob.ex;exact⟨_,bc (cZ (vQ (pv 0) rfl)),_,rfl,a,_,dx,fs,_,rfl,ha,Z.cls _ t.kind_lt,Z.no _ t.kind_lt _ (by decide +kernel),h1,q⟩
def hW (C:Nat->Addr):Sp:=λ vs H Q _=>∃ v t G,vs=[v]/\Ext G H/\Ru C G t v/\∀ b,Rds G b t.begin->Q b H
theorem A7:ad ["self"] ["self"] (aa sP):=aJ
theorem yU {f:Addr}{fd:FuncData}(Z:KR K C CR)(F:Fun K "begin" "Rule.begin" sP f fd):FnOk P w K mg base aq 1 f fd ["self"] (hW C):=by
 refine F.ok A7 (λ vs H Q E h=>?_) (λ cdv A outer s H vs Q E hr h=>?_)
 ·obtain⟨_,_,_,rfl,_⟩:=h;rfl
 obtain⟨v,t,G,rfl,xG,ru,q⟩:=h;obtain⟨a,dx,fs,rfl,ha,_,⟨b,h2,r2⟩,_⟩:=ru.ob.ex;exact⟨_,bc (cZ (vQ (pv 0) rfl)),_,rfl,a,_,dx,fs,_,rfl,xG _ _ ha,Z.cls _ t.kind_lt,Z.no _ t.kind_lt _ (by decide +kernel),h2,q b r2⟩
def ib (C:Nat->Addr):Sp:=λ vs H Q _=>∃ v t G,vs=[v]/\Ext G H/\Ru C G t v/\∀ b,Rds G b t.told->Q b H
theorem BW:ad ["self"] ["self"] (aa tq):=aJ
theorem yo {f:Addr}{fd:FuncData}(Z:KR K C CR)(F:Fun K "told" "Rule.told" tq f fd):FnOk P w K mg base aq 1 f fd ["self"] (ib C):=by
 refine F.ok BW (λ vs H Q E h=>?_) (λ cdv A outer s H vs Q E hr h=>?_)
 ·obtain⟨_,_,_,rfl,_⟩:=h;rfl
 obtain⟨v,t,G,rfl,xG,ru,q⟩:=h;obtain⟨a,dx,fs,rfl,ha,_,_,⟨b,h2,r2⟩,_⟩:=ru.ob.ex;exact⟨_,bc (cZ (vQ (pv 0) rfl)),_,rfl,a,_,dx,fs,_,rfl,xG _ _ ha,Z.cls _ t.kind_lt,Z.no _ t.kind_lt _ (by decide +kernel),h2,q b r2⟩
def qT (C:Nat->Addr):Sp:=λ vs H Q _=>∃ v t,vs=[v]/\Ru C H t v/\t.parts.length<=20/\(∀ p∈t.parts,p.length<=20)/\∀(l:Addr)(bs:List Addr)(H':Hp),Ext H H'->H l=none->H' l=some (.lst (bs.map V.ref))->l ∉ bs->(∀ b∈bs,H b=none)->bs.length=t.parts.length->(∀(i:Nat) b p,bs[i]?=some b->t.parts[i]?=some p->H' b=some (.lst (p.map V.int)))->Q (.ref l) H'
theorem Cg:ad ["self"] ["self"] (aa ug):=aJ
abbrev yF:Scope:={ kind:=.function,names:=[(".0",.local),("part",.local),("list",.globalImplicit)],isGenerator:=false,isCoroutine:=false }
theorem Cd {X:Cx}:aU X yF [] ["part"] [] []:=by
 refine⟨rfl,rfl,by decide +kernel,by decide +kernel,by decide +kernel,(λ z c h=>nomatch h),(λ z h=>?_),by decide +kernel,(λ k z h=>by simp at h),rfl⟩
 exfalso;have h':List.lookup z [((".0" : Str),NameKind.local),(("part" : Str),NameKind.local),(("list" : Str),NameKind.globalImplicit)]=some .cell\/List.lookup z [((".0" : Str),NameKind.local),(("part" : Str),NameKind.local),(("list" : Str),NameKind.globalImplicit)]=some .free:=h;simp only [List.lookup_cons,List.lookup_nil] at h'
 repeat' (split at h')
 all_goals simp at h'
theorem FP:((["part"]:List Str)++([]:List Str)).Nodup:=by decide +kernel
def sj (K:Frag):List V->Hp->VK->Prop:=λ xs H Q=>∃ p ys,xs=[.ref p]/\(SqL K H p ys\/SqT K H p ys)/\∀ l,H l=none->Q (.ref l) (ae H l (.lst ys))
theorem yK {f:Addr}{fd:FuncData}(Z:KR K C CR)(F:Fun K "blocks" "Rule.blocks" ug f fd)(ml:mg "list" = none):FnOk P w K mg base aq 1 f fd ["self"] (qT C):=by
 refine F.ok Cg (λ vs H Q E h=>?_) (λ cdv A outer s H vs Q E hr h=>?_)
 ·obtain⟨_,_,rfl,_⟩:=h;rfl
 obtain⟨v,t,rfl,ru,l20,p20,q⟩:=h;obtain⟨a,dx,fs,rfl,ha,_,_,_,⟨b,h2,r2⟩,_⟩:=ru.ob.ex;refine⟨_,bc (cZ (bT (te:=gU (sj K) (am (af 0) aL)) (g:=aP 0) rfl Cd (nv (vQ (pv 0) rfl)) (λ s H C fp=>by exact bU (i:=0) FP rfl (.inl rfl)) (λ s H C fp=>by exact aM jT rfl ml PyProof.Rows.boot_list (ac (pv 0) ao)))),?_⟩
 obtain⟨p,xs,rfl,hp,rs⟩:=fG r2;have lx:=rs.length;rw [List.length_map] at lx;refine⟨_,rfl,a,_,dx,fs,_,rfl,ha,Z.cls _ t.kind_lt,Z.no _ t.kind_lt _ (by decide +kernel),h2,p,rfl,⟨_,SqT.of hp⟩,λ D hD=>?_⟩
 refine nZ (a:=p) (xs:=xs) (λ i ys H'=>Ext H H'/\∃ bs:List Addr,ys=bs.map V.ref/\D ∉ bs/\(∀ b∈bs,H b=none)/\∀(j:Nat) b q,bs[j]?=some b->t.parts[j]?=some q->H' b=some (.lst (q.map V.int))) (by rw [sizeLine_eq];omega) ⟨Ext.new hD,[],rfl,by simp,by simp,by simp⟩ (λ i ys H' pv=>SqT.of (pv.1 _ _ hp)) ?_ ?_
 ·rintro i x ys H' ex ly hDD ⟨x',bs,rfl,nD,fr,ct⟩ os los R k;obtain⟨o0,rfl⟩:∃ o0,os=[o0]:=by
   match os,los with
   | [o0],_=>exact⟨o0,rfl⟩
  have hi:i<t.parts.length:=by have:=(List.getElem?_eq_some_iff.mp ex).1;omega
  obtain⟨c,rfl,hc⟩:=ia rs ex (List.getElem?_eq_getElem hi);refine⟨⟨[some (.ref c)],rfl,rfl⟩,_,rfl,c,_,rfl,.inr (SqT.of (x' _ _ hc)),λ m hm=>?_⟩;have x2:=Ext.new (o:=.lst ((t.parts[i]).map V.int)) hm;have nm:m≠D:=λ e=>by rw [e,hDD] at hm;cases hm
  have hm0:H m=none:=by
   cases e:H m with
   | none=>rfl
   | some o=>rw [x' _ _ e] at hm;cases hm
  have hDD2:=x2 _ _ hDD;have lb:bs.length=i:=by rw [List.length_map] at ly;exact ly
  refine k _ _ hDD2 ⟨aO _ (x'.trans x2) hD,bs ++ [m],by rw [List.map_append];rfl,?_,λ b hb=>?_,λ j b q hb hq=>?_⟩
  ·intro hmem;rcases List.mem_append.mp hmem with h | h
   ·exact nD h
   ·exact nm (List.mem_singleton.mp h).symm
  ·rcases List.mem_append.mp hb with h | h
   ·exact fr b h
   ·rw [List.mem_singleton.mp h];exact hm0
  ·rcases Nat.lt_or_ge j bs.length with lt | ge
   ·rw [List.getElem?_append_left lt] at hb;have nb:b≠D:=λ e=>nD (e ▸ List.mem_of_getElem? hb);rw [ag nb];exact x2 _ _ (ct j b q hb hq)
   ·rw [List.getElem?_append_right ge] at hb;have j0:j=bs.length:=by
     rcases Nat.lt_or_ge (j-bs.length) 1 with z | z
     ·omega
     ·rw [List.getElem?_eq_none (by simpa using z)] at hb;cases hb
    subst j0;rw [Nat.sub_self] at hb;cases hb;rw [lb,List.getElem?_eq_getElem hi] at hq;cases hq;rw [ag nm];exact aR
 ·rintro ys H' ly hDD ⟨x',bs,rfl,nD,fr,ct⟩;rw [List.length_map] at ly;exact q D bs H' x' hD hDD nD fr (by omega) ct
end
theorem cB {f g:Str}{v:V}{fs:List (Str × V)}:(bH f v fs).lookup g=if g=f then some v else fs.lookup g:=fD f g v fs
section
variable {v1 v2 v3 v4:V}{fs:List (Str × V)}
theorem oE:(fg v1 v2 v3 v4 fs).lookup ("size" : Str)=some v1:=by
 unfold fg;rw [cB,if_neg (by decide +kernel),cB,if_neg (by decide +kernel),cB,if_neg (by decide +kernel),cB,if_pos rfl]
theorem p6:(fg v1 v2 v3 v4 fs).lookup ("first_state" : Str)=some v2:=by
 unfold fg;rw [cB,if_neg (by decide +kernel),cB,if_neg (by decide +kernel),cB,if_pos rfl]
theorem pG:(fg v1 v2 v3 v4 fs).lookup ("mark" : Str)=some v3:=by
 unfold fg;rw [cB,if_neg (by decide +kernel),cB,if_pos rfl]
theorem mj:(fg v1 v2 v3 v4 fs).lookup ("parts" : Str)=some v4:=by
 unfold fg;rw [cB,if_pos rfl]
theorem cM {g:Str}(h:g ≠ "size" /\ g ≠ "first_state" /\ g ≠ "mark" /\ g ≠ "parts"):(fg v1 v2 v3 v4 fs).lookup g=fs.lookup g:=by
 unfold fg;rw [cB,if_neg h.2.2.2,cB,if_neg h.2.2.1,cB,if_neg h.2.1,cB,if_neg h.1]
theorem rE {g:Str}(h:g∈gn):g ≠ "size" /\ g ≠ "first_state" /\ g ≠ "mark" /\ g ≠ "parts" := by
 have:∀ g∈gn,g ≠ "size" /\ g ≠ "first_state" /\ g ≠ "mark" /\ g ≠ "parts" := by decide +kernel
 exact this g h
theorem xA {g:Str}{ns:List Str}(h:g∈gn)(hn:∀ n∈fs.map (·.1),n∈gA):fs.lookup g=none:=by
 have nf:∀ g∈gn,∀ n∈gA,g≠n:=by decide +kernel
 cases e:fs.lookup g with
 | none=>rfl
 | some v =>
  exfalso;have:∀(l:List (Str × V)),l.lookup g=some v->g∈l.map (·.1):=by
   intro l
   induction l with
   | nil=>intro h;cases h
   | cons y l ih =>
    intro h;obtain⟨k,x⟩:=y;rw [List.lookup_cons] at h;cases e:g==k with
    | true=>rw [beq_iff_eq.mp e];exact List.mem_cons_self ..
    | false=>rw [e] at h;exact List.mem_cons_of_mem _ (ih h)
  exact nf g h g (hn g (this fs e)) rfl
theorem gc {Cl a dx:Addr}{H:Hp}{fk:Int}{bg tl pt:PyData}{X:List (Str × V)->Prop}(ha:H a=some (.ins Cl dx (fg (.int fk) v2 v3 v4 fs)))(r2:Rds H v2 bg)(r3:Rds H v3 tl)(r4:Rds H v4 pt)(hn:∀ n∈fs.map (·.1),n∈gA)(hx:X (fg (.int fk) v2 v3 v4 fs)):Ob Cl H (.ref a) fk bg tl pt X :=
 ⟨a,dx,_,rfl,ha,oE,⟨_,p6,r2⟩,⟨_,pG,r3⟩,⟨_,mj,r4⟩,λ m hm=>by rw [cM (rE hm)];exact xA (ns:=[]) hm hn,hx⟩
variable {P:Program}{w:World}{K:Frag}{mg:Str->Option Value}{base:Heap}{C:Nat->Addr}{CR CN CS:Addr}
abbrev ui:Stmt:=ay (bR 37) 0
abbrev uj:Stmt:=ay (bR 38) 0
abbrev vg:Stmt:=ay (bR 39) 0
def nV (C:Nat->Addr)(CN:Addr):Sp:=λ vs H Q E=>∃ x u1 u2 d1 d2 dx,vs=[.ref x,u1,u2]/\H x=some (.ins (C 0) dx [])/\Rds H u1 d1/\Rds H u2 d2/\(jB 1 20 d1=false->cF CN "found" u1 H E)/\(∀ n,d1=.int n->1<=n->n<=20->jB 0 n d2=false->cF CN "found" u2 H E) /\
 ∀ n k,d1=.int n->d2=.int k->(R0.split n k).ok->∀ H',Kept H H' x->Ru0 C H' (.split n k) (.ref x)->Q .non H'
theorem AS:ad ["self","folk","ones"] ["self","folk","ones"] (aa ui):=aJ
variable {S g a1 a2 a3:Addr}{gd d1 d2 d3:FuncData}{t:Tok}
theorem yV {f:Addr}{fd:FuncData}(F:Fun K "__init__" "Split.__init__" ui f fd)(Cf:dR K S "__init__" g)(G:FnOk P w K mg base aq 1 g gd ["self","size","first_state","mark","parts"] (ij C))(bG:Binds K gd ["self","size","first_state","mark","parts"] [])(mS:mg "Rule" = some (.ref S))
  (A1:Df P w K mg base (cC P w) 3 "need_number" ["thing","low","high"] (qA CN) a1 d1)(A2:Df P w K mg base aq 1 "one_part" ["folk"] tN a2 d2)(mF:mg "MOST_FOLK" = some (.int 20 t)):FnOk P w K mg base (cC P w) 4 f fd ["self","folk","ones"] (nV C CN):=by
 refine la F AS (λ vs H Q E h=>?_) (λ cdv A outer s H vs Q E hr h=>?_)
 ·obtain⟨_,_,_,_,_,_,rfl,_⟩:=h;rfl
 obtain⟨x,u1,u2,e1,e2,dx,rfl,hx,r1,r2,q1,q2,q⟩:=h;have hr1:Room 1 _:=hr.mono (by decide)
 refine⟨_,bZ (aw (bK A1.G hr rfl A1.m A1.kp A1.b .nil cU (ac (pv 1) (ac az (ac (bS (v:=.int 20) rfl mF ⟨_,rfl⟩) ao))))) (bZ (aw (bK A1.G hr rfl A1.m A1.kp A1.b .nil cU (ac (pv 2) (ac az (ac (pv 1) ao)))))
  (bc (aw (bF Cf G hr1 rfl mS bG .nil ah (ac (pv 0) (ac (pv 1) (ac (pv 2) (ac (bJ (ac bh (ac (pv 1) (ac (pv 2) ao)))) (ac (bK A2.G hr1 rfl A2.m A2.kp A2.b .nil ah (ac (pv 1) ao)) ao))))))))),?_⟩
 refine⟨_,rfl,u1,e1,1,20,rfl,r1,λ h1=>?_,λ h1=>q1 h1⟩;obtain⟨n,rfl,n1,n20⟩:=eL h1;cases r1;refine⟨_,rfl,_,rfl,u2,e2,0,n,rfl,r2,λ h2=>?_,λ h2=>q2 n rfl n1 n20 h2⟩;obtain⟨k,rfl,k0,kn⟩:=eL h2;cases r2;refine⟨_,rfl,_,rfl,_,rfl,_,rfl,_,rfl,by show 3<=sizeLine;decide,λ m hm=>⟨_,rfl,n,rfl,by omega,n20,λ l H2 x2 rl=>?_⟩⟩
 have xm:=Ext.new (o:=.tup [.str "split",.int n,.int k]) hm;have x12:=xm.trans x2;have hm2:=x2 _ _ (show ae H m (.tup [.str "split",.int n,.int k]) m=_ from aR);have hx2:=x12 _ _ hx;refine⟨x,_,_,_,_,0,dx,[],rfl,by decide,hx2,by decide,q n k rfl rfl ⟨n1,n20,k0,kn⟩ _ ((x12.kept x).trans (be _)) ?_⟩
 have kk:Kept H2 (ae H2 x (.ins (C 0) dx (fg (.int n) (.int k) (.ref m) (.ref l) []))) x:=be _;exact gc aR (.int _) ((Rds.tup hm2 (.cons (.str _) (.cons (.int _) (.cons (.int _) .nil)))).kept hx2 kk) (rl.kept hx2 kk) (by simp) trivial
def lu (C:Nat->Addr)(CN CS:Addr):Sp:=λ vs H Q E=>∃ x u1 u2 d1 d2 dx,vs=[.ref x,u1,u2]/\H x=some (.ins (C 1) dx [])/\Rds H u1 d1/\Rds H u2 d2/\(jB 1 10 d1=false->cF CN "found" u1 H E)/\(jB 1 10 d1=true->c6 d2=false->cF CS "found" u2 H E) /\
 ∀ n a b,d1=.int n->d2=.tuple [.int a,.int b]->(R0.pairs n a b).ok->∀ H',Kept H H' x->Ru0 C H' (.pairs n a b) (.ref x)->Q .non H'
theorem AM:ad ["self","pairs","coin"] ["self","pairs","coin"] (aa uj):=aJ
theorem iI {d:PyData}(h:c6 d=true):∃ a b,d=.tuple [.int a,.int b]:=by
 match d,h with
 | .tuple [.int a,.int b],_=>exact⟨a,b,rfl⟩
theorem xN {f:Addr}{fd:FuncData}(Z:KR K C CR)(F:Fun K "__init__" "Pairs.__init__" uj f fd)(Cf:dR K S "__init__" g)(G:FnOk P w K mg base aq 1 g gd ["self","size","first_state","mark","parts"] (ij C))(bG:Binds K gd ["self","size","first_state","mark","parts"] [])(mS:mg "Rule" = some (.ref S))
  (A1:Df P w K mg base (cC P w) 3 "need_number" ["thing","low","high"] (qA CN) a1 d1)(A2:Df P w K mg base aq 1 "one_part" ["folk"] tN a2 d2)(A3:Df P w K mg base (cC P w) 5 "need_coin" ["thing"] (zh CS) a3 d3)(mF:mg "MOST_PAIRS" = some (.int 10 t)):FnOk P w K mg base (cC P w) 6 f fd ["self","pairs","coin"] (lu C CN CS):=by
 refine la F AM (λ vs H Q E h=>?_) (λ cdv A outer s H vs Q E hr h=>?_)
 ·obtain⟨_,_,_,_,_,_,rfl,_⟩:=h;rfl
 obtain⟨x,u1,u2,e1,e2,dx,rfl,hx,r1,r2,q1,q2,q⟩:=h;have hr1:Room 1 _:=hr.mono (by decide)
 have hr3:Room 3 _:=hr.mono (by decide)
 refine⟨_,bZ (aw (bK A1.G hr3 rfl A1.m A1.kp A1.b .nil cU (ac (pv 1) (ac az (ac (bS (v:=.int 10) rfl mF ⟨_,rfl⟩) ao))))) (bZ (aw (bK A3.G hr rfl A3.m A3.kp A3.b .nil cU (ac (pv 2) ao))) (bZ (dC (pv 0) (pv 2) rfl)
  (bc (aw (bF Cf G hr1 rfl mS bG .nil ah (ac (pv 0) (ac (aj dB az (pv 1)) (ac qB (ac (bJ (ac bh (ac (pv 1) (ac (pv 2) ao)))) (ac (bK A2.G hr1 rfl A2.m A2.kp A2.b .nil ah (ac (aj dB az (pv 1)) ao)) ao)))))))))),?_⟩
 refine⟨_,rfl,u1,e1,1,10,rfl,r1,λ h1=>?_,λ h1=>q1 h1⟩;refine⟨_,rfl,u2,e2,rfl,r2,λ h2=>?_,λ h2=>q2 h1 h2⟩;obtain⟨n,rfl,n1,n10⟩:=eL h1;obtain⟨a,b,rfl⟩:=iI h2;cases r1;refine⟨_,rfl,_,rfl,x,C 1,dx,[],rfl,hx,Z.cls 1 (by decide),Z.no 1 (by decide) _ (by decide +kernel),by decide,?_⟩
 have k1:Kept H (ae H x (.ins (C 1) dx (bH "coin" u2 []))) x:=be _;have r2':=r2.kept hx k1;have hx1:ae H x (.ins (C 1) dx (bH "coin" u2 [])) x=some (.ins (C 1) dx [("coin",u2)]):=aR;generalize ae H x (.ins (C 1) dx (bH "coin" u2 []))=H1 at k1 r2' hx1 ⊢;have cm:CMul 2 n:=.inl ⟨by decide,by decide⟩
 refine⟨_,rfl,_,rfl,_,_,rfl,rfl,cm,_,rfl,_,rfl,by show 3<=sizeLine;decide,λ m hm=>⟨_,rfl,_,_,rfl,rfl,cm,2*n,rfl,by omega,by omega,λ l H2 x2 rl=>?_⟩⟩
 have xm:=Ext.new (o:=.tup [.str "pairs",.int n,u2]) hm;have x12:=xm.trans x2;have hm2:=x2 _ _ (show ae H1 m (.tup [.str "pairs",.int n,u2]) m=_ from aR);have hx2:=x12 _ _ hx1;have r22:=r2'.mono x12;refine⟨x,_,_,_,_,1,dx,[("coin",u2)],rfl,by decide,hx2,(by show 1<=5;decide),q n a b rfl rfl ⟨n1,n10,h2⟩ _ ((k1.trans (x12.kept x)).trans (be _)) ?_⟩
 have kk:Kept H2 (ae H2 x (.ins (C 1) dx (fg (.int (2*n)) .non (.ref m) (.ref l) [("coin",u2)]))) x:=be _;refine gc aR .non ((Rds.tup hm2 (.cons (.str _) (.cons (.int _) (.cons r22 .nil)))).kept hx2 kk) (rl.kept hx2 kk) (λ n hn=>?_) ⟨u2,?_,r22.kept hx2 kk⟩
 ·have e:n = "coin" := by simpa using hn
  rw [e]
  decide +kernel
 ·rw [cM (by decide +kernel)]
  rfl
def kX (C:Nat->Addr)(CN CS:Addr):Sp:=λ vs H Q E=>∃ x u1 u2 u3 d1 d2 d3 dx,vs=[.ref x,u1,u2,u3]/\H x=some (.ins (C 2) dx [])/\Rds H u1 d1/\Rds H u2 d2/\Rds H u3 d3/\(jB 1 20 d1=false->cF CN "found" u1 H E)/\(jB 1 20 d1=true->c6 d2=false->cF CS "found" u2 H E)/\(jB 1 20 d1=true->c6 d2=true->jB 1 20 d3=false->cF CN "found" u3 H E) /\
 ∀ n a b f,d1=.int n->d2=.tuple [.int a,.int b]->d3=.int f->(R0.coins n a b f).ok->∀ H',Kept H H' x->Ru0 C H' (.coins n a b f) (.ref x)->Q .non H'
theorem Dg:ad ["self","folk","coin","far"] ["self","folk","coin","far"] (aa vg):=aJ
theorem wf {f:Addr}{fd:FuncData}{t2:Tok}(Z:KR K C CR)(F:Fun K "__init__" "Coins.__init__" vg f fd)(Cf:dR K S "__init__" g)(G:FnOk P w K mg base aq 1 g gd ["self","size","first_state","mark","parts"] (ij C))(bG:Binds K gd ["self","size","first_state","mark","parts"] [])(mS:mg "Rule" = some (.ref S))
  (A1:Df P w K mg base (cC P w) 3 "need_number" ["thing","low","high"] (qA CN) a1 d1)(A2:Df P w K mg base aq 1 "one_part" ["folk"] tN a2 d2)(A3:Df P w K mg base (cC P w) 5 "need_coin" ["thing"] (zh CS) a3 d3)(mF:mg "MOST_FOLK" = some (.int 20 t))(mR:mg "MOST_FAR" = some (.int 20 t2)):FnOk P w K mg base (cC P w) 6 f fd ["self","folk","coin","far"] (kX C CN CS):=by
 refine la F Dg (λ vs H Q E h=>?_) (λ cdv A outer s H vs Q E hr h=>?_)
 ·obtain⟨_,_,_,_,_,_,_,_,rfl,_⟩:=h;rfl
 obtain⟨x,u1,u2,u3,e1,e2,e3,dx,rfl,hx,r1,r2,r3,q1,q2,q3,q⟩:=h;have hr1:Room 1 _:=hr.mono (by decide)
 have hr3:Room 3 _:=hr.mono (by decide)
 refine⟨_,bZ (aw (bK A1.G hr3 rfl A1.m A1.kp A1.b .nil cU (ac (pv 1) (ac az (ac (bS (v:=.int 20) rfl mF ⟨_,rfl⟩) ao))))) (bZ (aw (bK A3.G hr rfl A3.m A3.kp A3.b .nil cU (ac (pv 2) ao))) (bZ (aw (bK A1.G hr3 rfl A1.m A1.kp A1.b .nil cU (ac (pv 3) (ac az (ac (bS (v:=.int 20) rfl mR ⟨_,rfl⟩) ao)))))
  (bZ (dC (pv 0) (pv 2) rfl) (bZ (dC (pv 0) (pv 3) rfl)
  (bc (aw (bF Cf G hr1 rfl mS bG .nil ah (ac (pv 0) (ac (pv 1) (ac az (ac (bJ (ac bh (ac (pv 1) (ac (pv 2) (ac (pv 3) ao))))) (ac (bK A2.G hr1 rfl A2.m A2.kp A2.b .nil ah (ac (pv 1) ao)) ao)))))))))))),?_⟩
 refine⟨_,rfl,u1,e1,1,20,rfl,r1,λ h1=>?_,λ h1=>q1 h1⟩;refine⟨_,rfl,u2,e2,rfl,r2,λ h2=>?_,λ h2=>q2 h1 h2⟩;refine⟨_,rfl,u3,e3,1,20,rfl,r3,λ h3=>?_,λ h3=>q3 h1 h2 h3⟩;obtain⟨n,rfl,n1,n20⟩:=eL h1;obtain⟨a,b,rfl⟩:=iI h2;obtain⟨k,rfl,k1',k20⟩:=eL h3;cases r1;cases r3;refine⟨_,rfl,_,rfl,x,C 2,dx,[],rfl,hx,Z.cls 2 (by decide),Z.no 2 (by decide) _ (by decide +kernel),by decide,?_⟩
 have k1:Kept H (ae H x (.ins (C 2) dx (bH "coin" u2 []))) x:=be _;have r2':=r2.kept hx k1;have hx1:ae H x (.ins (C 2) dx (bH "coin" u2 [])) x=some (.ins (C 2) dx [("coin",u2)]):=aR;generalize ae H x (.ins (C 2) dx (bH "coin" u2 []))=H1 at k1 r2' hx1 ⊢;refine⟨_,rfl,_,rfl,x,C 2,dx,[("coin",u2)],rfl,hx1,Z.cls 2 (by decide),Z.no 2 (by decide) _ (by decide +kernel),(by show 1<1000;decide),?_⟩
 have ef:bH "far" (.int k) [(("coin" : Str),u2)]=[(("coin" : Str),u2),(("far" : Str),.int k)]:=by
  show(if("coin" : Str) = "far" then _ else _)=_
  rw [if_neg (by decide +kernel)]
  rfl
 rw [ef];have kf:Kept H1 (ae H1 x (.ins (C 2) dx [("coin",u2),("far",.int k)])) x:=be _;have r2'':=r2'.kept hx1 kf;have hx1':ae H1 x (.ins (C 2) dx [("coin",u2),("far",.int k)]) x=some (.ins (C 2) dx [("coin",u2),("far",.int k)]):=aR;generalize ae H1 x (.ins (C 2) dx [("coin",u2),("far",.int k)])=H1' at kf r2'' hx1' ⊢;refine⟨_,rfl,_,rfl,_,rfl,_,rfl,_,rfl,by show 4<=sizeLine;decide,λ m hm=>⟨_,rfl,n,rfl,by omega,n20,λ l H2 x2 rl=>?_⟩⟩
 have xm:=Ext.new (o:=.tup [.str "coins",.int n,u2,.int k]) hm;have x12:=xm.trans x2;have hm2:=x2 _ _ (show ae H1' m (.tup [.str "coins",.int n,u2,.int k]) m=_ from aR);have hx2:=x12 _ _ hx1';have r22:=r2''.mono x12;refine⟨x,_,_,_,_,2,dx,[("coin",u2),("far",.int k)],rfl,by decide,hx2,(by show 2<=5;decide),q n a b k rfl rfl rfl ⟨n1,n20,h2,k1',k20⟩ _ (((k1.trans kf).trans (x12.kept x)).trans (be _)) ?_⟩
 have kk:Kept H2 (ae H2 x (.ins (C 2) dx (fg (.int n) (.int 0) (.ref m) (.ref l) [("coin",u2),("far",.int k)]))) x:=be _;refine gc aR (.int _) ((Rds.tup hm2 (.cons (.str _) (.cons (.int _) (.cons r22 (.cons (.int _) .nil))))).kept hx2 kk) (rl.kept hx2 kk) (λ n hn=>?_) ⟨⟨u2,?_,r22.kept hx2 kk⟩,?_⟩
 ·have e:n = "coin" \/ n = "far" := by simpa using hn
  rcases e with e | e <;> rw [e] <;> decide +kernel
 ·rw [cM (by decide +kernel)]
  rfl
 ·rw [cM (by decide +kernel)]
  rfl
end
theorem vz {H:Hp}{p:Addr}{o:HO}:Ext (wo H p) (wo (ae H p o) p):=λ b u e=>by
 have n:=gR e;exact bD n (by rw [ag n];exact ak H p _ _ e)
theorem Ext.kp {G H H':Hp}{x:Addr}(e:Ext G H)(n:G x=none)(k:Kept H H' x):Ext G H':=λ b o h=>k b o (e b o h) λ z=>by rw [z,n] at h;cases h
section
variable {X:Cx}
def vh:List V->Hp->VK->Prop:=λ vs H Q=>∃ i j:Int,vs=[.int i,.int j]/\∀ r,H r=none->Q (.ref r) (ae H r (.rng i j))
theorem jo:cG X (.type "range") vh:=by
 intro pins s σ H xs us Q I r h;obtain⟨i,j,rfl,q⟩:=h;obtain⟨u,v,rfl,⟨t,rfl⟩,t',rfl⟩:=ik r;refine call_range_2 ⟨.ref s.heap.objs.size,_,I.laid (t':=s.toks+1) (o:=.rng i j) (λ b o e=>Heap.get?_push_of_some _ e) (Nat.le_refl _) ?_,rfl,q _ (I.hok.fresh (Nat.le_refl _))⟩;exact⟨_,_,_,Heap.get?_push_size _ rfl⟩
variable {pins:List (Addr × Obj)}{σ:St}{H:Hp}{s:Shared}{A:Around}{Q:Value->Shared->Prop}{E:Value->Shared->Prop}{b:Bool}{tp:Addr}{dd:Option Addr}{its:List Value}{n:Nat}{sl:Array (Option Value)}
theorem ng {x:V}{u t:Value}(I:Inv X pins σ H s)(rx:RelV x u)(ty:TyOf X.K H x t)(htp:s.heap.get? tp=some ⟨.type "tuple",dd,.seq its.toArray n,sl⟩)(e:PySem.W.kitAny X.K t its=some b)(h:∀ tk,Q (.bool b) { s with toks:=tk }) :
  wpAny (model X.prog X.w) A (call (.builtin "isinstance") [u,.ref tp]) Q E s:=by
 cases ty with
 | non=>cases (show u=Value.none from rx);exact PySem.W.kia_tup PySem.W.kitx_none I.kIn True.intro htp e (λ z=>nomatch z) h
 | bl y=>cases (show u=Value.bool y from rx);exact PySem.W.kia_tup PySem.W.kitx_bool I.kIn True.intro htp e (λ z=>nomatch z) h
 | int i=>obtain⟨t,q⟩:=(show ∃ t,u=Value.int i t from rx);cases q;exact PySem.W.kia_tup PySem.W.kitx_int I.kIn True.intro htp e (λ z=>nomatch z) h
 | str y=>obtain⟨t,q⟩:=(show ∃ t,u=Value.str y t from rx);cases q;exact PySem.W.kia_tup PySem.W.kitx_str I.kIn True.intro htp e (λ z=>nomatch z) h
 | flt y=>obtain⟨t,q⟩:=(show ∃ t,u=Value.float y t from rx);cases q;exact PySem.W.kia_tup PySem.W.kitx_float I.kIn True.intro htp e (λ z=>nomatch z) h
 | @lst a xs ea =>
  cases (show u=Value.ref a from rx);obtain⟨_,_,n,_,h1⟩:=(show ObjOk X.prog X.w H s.heap a (.lst xs) from I.hok a _ ea);exact PySem.W.kia_tup PySem.W.kitx_list I.kIn ⟨_,h1,rfl⟩ htp e (λ z=>nomatch z) h
 | @frz a ob xs ea =>
  cases (show u=Value.ref a from rx);obtain⟨_,_,_,n,_,h1⟩:=(show ObjOk X.prog X.w H s.heap a (.frz ob (.lst xs)) from I.hok a _ ea);exact PySem.W.kia_tup PySem.W.kitx_list I.kIn ⟨_,h1,rfl⟩ htp e (λ z=>nomatch z) h
 | @tup a xs ea =>
  cases (show u=Value.ref a from rx);obtain⟨_,_,_,p⟩:=(show ObjOk X.prog X.w H s.heap a (.tup xs) from I.hok a _ ea);obtain⟨o,h1,h2,_⟩:=p;exact PySem.W.kia_tup PySem.W.kitx_tuple I.kIn ⟨o,h1,h2⟩ htp e (λ z=>nomatch z) h
 | @dK a kvs ea =>
  cases (show u=Value.ref a from rx);obtain⟨_,_,vs,_,p⟩:=(show ObjOk X.prog X.w H s.heap a (.dK kvs) from I.hok a _ ea);obtain⟨o,es,ep,h1,h2,_⟩:=p;exact PySem.W.kia_tup PySem.W.kitx_dict I.kIn ⟨o,h1,h2.1⟩ htp e (λ z=>nomatch z) h
 | @dT a kvs ea =>
  cases (show u=Value.ref a from rx);obtain⟨_,_,xs,_,o,es,ep,h1,h2,_⟩:=(show ObjOk X.prog X.w H s.heap a (.dT kvs) from I.hok a _ ea);exact PySem.W.kia_tup PySem.W.kitx_dict I.kIn ⟨o,h1,h2.1⟩ htp e (λ z=>nomatch z) h
 | @ins a C dx fs ea cl ha hn htk hm =>
  cases (show u=Value.ref a from rx);obtain⟨mA,O,_⟩:=gh I.hok ea;obtain⟨od,J,_⟩:=O.look;exact PySem.W.kia_tup (PySem.W.kitx_own (cl.get _) cl.hd ha hn htk hm) I.kIn J htp e (λ z=>nomatch z) h
def AY (K:Frag):List V->Hp->VK->Prop:=λ vs H Q=>∃(x:V)(p:Addr)(cs:List Addr)(t:Value)(b:Bool),vs=[x,.ref p]/\TyOf K H x t/\H p=some (.tup (cs.map V.ref))/\kitAny K t (cs.map Value.ref)=some b/\Q (.bl b) H
theorem pf:cG X (.builtin "isinstance") (AY X.K):=by
 intro pins s σ H xs us Q I r h;obtain⟨x,p,cs,t,b,rfl,ty,hp,e,q⟩:=h;obtain⟨u,u',rfl,ru,ru'⟩:=ik r;cases (show u'=Value.ref p from ru');obtain⟨_,its,rv,⟨o,h1,h2,n,h3⟩⟩:=(show ObjOk X.prog X.w H s.heap p (.tup (cs.map V.ref)) from I.hok p _ hp);have ei:=jc rv;subst ei;obtain⟨c0,d0,dt0,sl0⟩:=o;have hc0:c0=.type "tuple" := h2;have hd0:dt0=.seq (cs.map Value.ref).toArray n:=h3;subst hc0;subst hd0;exact ng I ru ty h1 e λ tk=>⟨.bl b,H,I.tok _,rfl,q⟩
end
def BlkK (K:Frag)(C:Nat->Addr)(H:Hp)(v:V)(b:Bool):Prop:=∃ t,TyOf K H v t/\kitAny K t [.ref (C 0),.ref (C 1),.ref (C 2)]=some b
theorem BlkK.ext {K:Frag}{C:Nat->Addr}{H H':Hp}{v:V}{b:Bool}(h:BlkK K C H v b)(x:Ext H H'):BlkK K C H' v b:=by
 obtain⟨t,k,e⟩:=h;exact⟨t,My.TyOf.ext k x,e⟩
theorem tY {K:Frag}{t a b c:Value}{x y z:Bool}(h1:kitOne K t a=some x)(h2:kitOne K t b=some y)(h3:kitOne K t c=some z):kitAny K t [a,b,c]=some (x||(y||z)):=by
 cases x <;> cases y <;> cases z <;> simp [kitAny,h1,h2,h3]
theorem Ob.ty {K:Frag}{C:Nat->Addr}{CR:Addr}{H:Hp}{i:Nat}{v:V}{fk:Int}{bg tl pt:PyData}{X:List (Str × V)->Prop}(Z:KR K C CR)(hi:i<5)(h:Ob (C i) H v fk bg tl pt X):TyOf K H v (.ref (C i)):=by
 obtain⟨a,dx,fs,rfl,ha,_⟩:=h.ex;exact .ins ha (Z.cls i hi) (Z.ha i hi) Z.hn Z.htk (Z.hm i hi)
theorem q9 {K:Frag}{C:Nat->Addr}{CR:Addr}{H:Hp}{t:Rl}{v:V}(Z:KR K C CR)(h:Ru C H t v):BlkK K C H v (t.kind==0||(t.kind==1||t.kind==2)) :=
 ⟨_,h.ob.ty Z t.kind_lt,tY (Z.kk _ 0 t.kind_lt (by decide)) (Z.kk _ 1 t.kind_lt (by decide)) (Z.kk _ 2 t.kind_lt (by decide))⟩
theorem FU {J:It}{tt:TT}{cap:St}{D:Addr}{H1:Hp}{Q:Hp->Prop}{xs:List V}(p:V->Bool)(hz:xs.length<sizeLine)(hD:H1 D=none)(go:∀ i H,Ext H1 H->i<xs.length->J.go i H)(st:∀ H,Ext H1 H->J.stop xs.length H)(yl:∀ i H x H',Ext H1 H->J.yld i H x H'->H'=H/\xs[i]?=some x)
  (hs:∀(i:Nat) x H,xs[i]?=some x->Ext H1 H->∀ R:Bool->Hp->Prop,(∀ H',Ext H H'->R (p x) H')->tt (some x::cap) H R)(hd:∀ H,Ext H1 H->H D=some (.lst (xs.filter p))->Q H) :
  ∃ W:Nat->Nat->List V->Hp->Prop,(∃ m,W 0 m [] (ae H1 D (.lst []))) /\
   ∀ i m ys H2,W i m ys H2->H2 D=some (.lst ys)/\((J.stop i H2/\Q H2)\/(J.go i H2/\ys.length<sizeLine /\
    ∀ x H3,J.yld i H2 x H3->∀ os:St,os.length=1->aP 0 x (os++cap) H3 λ σ2 H0=>(∃ os':St,os'.length=1/\σ2=os'++cap)/\tt σ2 H0 λ b H5=>(b=false->∃ m',m'<m/\W (i+1) m' ys H5) /\
     (b=true->af 0 σ2 H5 λ y H4=>H4 D=some (.lst ys)/\∃ m',m'<m/\W (i+1) m' (ys ++ [y]) (ae H4 D (.lst (ys ++ [y])))))):=by
 refine⟨λ i m ys H=>m=xs.length-i/\i<=xs.length/\H D=some (.lst ys)/\ys=(xs.take i).filter p/\Ext H1 H,⟨xs.length,by simp,Nat.zero_le _,aR,rfl,Ext.new hD⟩,?_⟩
 rintro i m ys H ⟨rfl,hi,hD',rfl,x1⟩;refine⟨hD',?_⟩;by_cases hlt:i<xs.length
 ·refine .inr ⟨go i H x1 hlt,?_,λ x H' hyl os los=>?_⟩
  ·have:=List.length_filter_le p (xs.take i);rw [List.length_take] at this;omega
  obtain⟨rfl,hx⟩:=yl i H x H' x1 hyl;obtain⟨o0,rfl⟩:∃ o0,os=[o0]:=by
   match os,los with
   | [o0],_=>exact⟨o0,rfl⟩
  refine⟨⟨[some x],rfl,rfl⟩,hs i x H' hx x1 _ λ H5 x5=>⟨λ e=>?_,λ e=>?_⟩⟩
  ·refine⟨xs.length-(i+1),by omega,rfl,hlt,x5 _ _ hD',?_,x1.trans x5⟩
   rw [aA hx,List.filter_append,List.filter_cons_of_neg (by rw [e];decide),List.filter_nil,List.append_nil]
  ·refine⟨x,rfl,x5 _ _ hD',xs.length-(i+1),by omega,rfl,hlt,aR,?_,aO _ (x1.trans x5) hD⟩
   rw [aA hx,List.filter_append,List.filter_cons_of_pos e,List.filter_nil]
 ·have e:i=xs.length:=by omega
  subst e;refine .inl ⟨st H x1,hd H x1 ?_⟩;rw [List.take_length] at hD';exact hD'
theorem cS (p:Int->Bool)(pv:V->Bool)(h:∀ i,pv (.int i)=p i):∀ ns:List Int,(ns.map V.int).filter pv=(ns.filter p).map V.int
 | []=>rfl
 | n::ns=>by
  rw [List.map_cons];cases e:p n with
  | true=>rw [List.filter_cons_of_pos (by rw [h];exact e),List.filter_cons_of_pos e,cS p pv h ns];rfl
  | false=>rw [List.filter_cons_of_neg (by rw [h,e];decide),List.filter_cons_of_neg (by rw [e];decide),cS p pv h ns]
theorem RdsAll.filter {G:Hp}{α:Type}{f:α->PyData}{p:α->Bool}{pv:V->Bool}:∀{ys:List V}{qs:List α},RdsAll G ys (qs.map f)->(∀(i:Nat) y q,ys[i]?=some y->qs[i]?=some q->pv y=p q)->RdsAll G (ys.filter pv) ((qs.filter p).map f)
 | [],[],_,_=>.nil
 | [],_::_,h,_=>by cases h
 | _::_,[],h,_=>by cases h
 | y::ys,q::qs,h,k=>by
  cases h with
  | cons r t =>
   have e0:=k 0 y q rfl rfl;have ih:=RdsAll.filter t λ i y' q' a b=>k (i+1) y' q' a b;cases e:p q with
   | true=>rw [List.filter_cons_of_pos (by rw [e0];exact e),List.filter_cons_of_pos e];exact .cons r ih
   | false=>rw [List.filter_cons_of_neg (by rw [e0,e];decide),List.filter_cons_of_neg (by rw [e];decide)];exact ih
def Sm (ps:List (List Int)):Prop:=ps.length<=20/\∀ p∈ps,p.length<=20
theorem dy:∀(ns:List Int)(s:Int),(bM s ns).length=ns.length
 | [],_=>rfl
 | n::ns,s=>by show(bM (s+n) ns).length+1=_;rw [dy ns];rfl
theorem io:∀(ns:List Int)(s:Int),(∀ n∈ns,n<=20)->∀ p∈bM s ns,p.length<=20
 | [],_,_,_,h=>by cases h
 | n::ns,s,hn,p,h=>by
  rcases List.mem_cons.mp h with rfl | h
  ·have:=hn n (List.mem_cons_self ..);unfold cy;simp only [List.length_map,List.length_range];omega
  ·exact io ns _ (λ m hm=>hn m (List.mem_cons_of_mem _ hm)) p h
theorem Sm.cut {ps:List (List Int)}(m:Int)(h:Sm ps):Sm (fv m ps):=by
 unfold fv;refine⟨Nat.le_trans (List.length_filter_le _ _) (by rw [List.length_map];exact h.1),λ p hp=>?_⟩
 obtain⟨q,hq,rfl⟩:=List.mem_map.mp (List.mem_filter.mp hp).1;exact Nat.le_trans (List.length_filter_le _ _) (h.2 q hq)
theorem Rl.sm:∀{t:Rl},t.ok->Sm t.parts
 | .one r,h=>by
  have:=R0.folk_ok h;refine⟨by show 1<=20;decide,λ p hp=>?_⟩
  rw [List.mem_singleton.mp hp];unfold cy;simp only [List.length_map,List.length_range];omega
 | .blocks rs,h=>by
  obtain⟨h1,h6,ok,s20⟩:=h;refine⟨by show(bM 0 (rs.map R0.folk)).length<=20;rw [dy,List.length_map];omega,io _ _ λ n hn=>?_⟩
  obtain⟨r,hr,rfl⟩:=List.mem_map.mp hn;exact(R0.folk_ok (ok r hr)).2
 | .first t m,h=>(Rl.sm h.1).cut m
theorem iq (n:Int):∀(ns:List Int)(s:Int),bM s (ns ++ [n])=bM s ns ++ [cy (s+ns.sum) n.toNat]
 | [],s=>by simp [bM]
 | m::ns,s=>by
  show cy s m.toNat::bM (s+m) (ns ++ [n])=_;rw [iq n ns (s+m),List.sum_cons,Int.add_assoc];rfl
structure Ms (P:Program)(w:World)(K:Frag)(mg:Str->Option Value)(base:Heap)(C:Nat->Addr):Prop where
 folk:cq P w K mg base aq 1 "folk" ["self"] (oJ C) (λ _=>j8 C)
 begin:cq P w K mg base aq 1 "begin" ["self"] (oJ C) (λ _=>hW C)
 told:cq P w K mg base aq 1 "told" ["self"] (oJ C) (λ _=>ib C)
 blocks:cq P w K mg base aq 1 "blocks" ["self"] (oJ C) (λ _=>qT C)
section
variable {P:Program}{w:World}{K:Frag}{mg:Str->Option Value}{base:Heap}{C:Nat->Addr}{CR:Addr}
abbrev sI:Stmt:=bR 40
def qV (K:Frag)(C:Nat->Addr):Sp:=λ vs H Q _=>∃ v b,vs=[v]/\BlkK K C H v b/\∀ H',Ext H H'->Q (.bl b) H'
theorem Bq:ad ["thing"] ["thing"] (aa sI):=aJ
theorem z8 {f:Addr}{fd:FuncData}(F:Fun K "may_be_block" "may_be_block" sI f fd)(m0:mg "Split" = some (.ref (C 0)))(m1:mg "Pairs" = some (.ref (C 1)))(m2:mg "Coins" = some (.ref (C 2)))(mi:mg "isinstance" = none):FnOk P w K mg base aq 1 f fd ["thing"] (qV K C):=by
 refine F.ok Bq (λ vs H Q E h=>?_) (λ cdv A outer s H vs Q E hr h=>?_)
 ·obtain⟨_,_,rfl,_⟩:=h;rfl
 obtain⟨v,b,rfl,bk,q⟩:=h;refine⟨_,bc (cZ (ai pf rfl mi PyProof.Rows.boot_isinstance (ac (pv 0) (ac (bJ (ac (bS (v:=.ref (C 0)) rfl m0 rfl) (ac (bS (v:=.ref (C 1)) rfl m1 rfl) (ac (bS (v:=.ref (C 2)) rfl m2 rfl) ao)))) ao)))),?_⟩;refine⟨_,rfl,by show 3<=sizeLine;decide,λ p hp=>?_⟩
 have x1:=Ext.new (o:=.tup [.ref (C 0),.ref (C 1),.ref (C 2)]) hp;obtain⟨t,ty,ka⟩:=bk.ext x1;exact⟨v,p,[C 0,C 1,C 2],t,b,rfl,ty,aR,ka,q _ x1⟩
abbrev DH:Stmt:=bR 41
def lX (K:Frag)(C:Nat->Addr)(H:Hp)(xs:List V)(bs:List Bool):Prop:=xs.length=bs.length/\∀(i:Nat) x b,xs[i]?=some x->bs[i]?=some b->BlkK K C H x b
def B1 (n:Nat)(bs:List Bool):Bool:=(decide (1<=n)&&decide (n<=6))&&bs.all id
def As (K:Frag)(C:Nat->Addr):Sp:=λ vs H Q _=>∃ v,vs=[v]/\((NoK K H v "list" /\ ∀ H',Ext H H'->Q (.bl false) H')\/∃ a xs bs,v=.ref a/\H a=some (.lst xs)/\xs.length<1000/\lX K C H xs bs/\∀ H',Ext H H'->Q (.bl (B1 xs.length bs)) H')
theorem Fc:ad ["thing"] ["thing"] (aa DH):=aJ
abbrev Be:Scope:={ kind:=.function,names:=[(".0",.local),("rule",.local),("may_be_block",.globalImplicit)],isGenerator:=false,isCoroutine:=false }
theorem wK {X:Cx}:aU X Be [] ["rule"] [] []:=by
 refine⟨rfl,rfl,by decide +kernel,by decide +kernel,by decide +kernel,(λ z c h=>nomatch h),(λ z h=>?_),by decide +kernel,(λ k z h=>by simp at h),rfl⟩
 exfalso;have h':List.lookup z [((".0" : Str),NameKind.local),(("rule" : Str),NameKind.local),(("may_be_block" : Str),NameKind.globalImplicit)]=some .cell\/List.lookup z [((".0" : Str),NameKind.local),(("rule" : Str),NameKind.local),(("may_be_block" : Str),NameKind.globalImplicit)]=some .free:=h;simp only [List.lookup_cons,List.lookup_nil] at h'
 repeat' (split at h')
 all_goals simp at h'
theorem Ag:((["rule"]:List Str)++([]:List Str)).Nodup:=by decide +kernel
theorem AJ {f a1 a2:Addr}{fd d1 d2:FuncData}{t:Tok}(N:sd K)(F:Fun K "are_block_rules" "are_block_rules" DH f fd)(A1:Df P w K mg base aq 1 "may_be_block" ["thing"] (qV K C) a1 d1)(A2:Df P w K mg base aq 2 "is_whole" ["thing","low","high"] (fR K) a2 d2)(mR:mg "MOST_RULES" = some (.int 6 t))
  (mi:mg "isinstance" = none)(ml:mg "list" = none)(mn:mg "len" = none)(ma:mg "all" = none):FnOk P w K mg base aq 3 f fd ["thing"] (As K C):=by
 refine F.ok Fc (λ vs H Q E h=>?_) (λ cdv A outer s H vs Q E hr h=>?_)
 ·obtain⟨_,rfl,_⟩:=h;rfl
 obtain⟨v,rfl,h⟩:=h;have hr1:Room 1 _:=hr.mono (by decide)
 refine⟨_,bZ (bB (PW.pt (gk (cg (bw (ai (cA N) rfl mi PyProof.Rows.boot_isinstance (ac (pv 0) (ac (gl rfl ml PyProof.Rows.boot_list) ao))))) (eB (cg (bw (bK A2.G hr rfl A2.m A2.kp A2.b .nil ah (ac (ai ar rfl mn PySem.boot_len (ac (pv 0) ao)) (ac az (ac (bS (v:=.int 6) rfl mR ⟨_,rfl⟩) ao))))))))) (bc (cZ rY)) gz)
  (bc (cZ (ai (lL rfl) rfl ma PyProof.Rows.boot_all (ac (bT (te:=fY (qV K C) [] E0 (am (af 0) aL)) (g:=aP 0) rfl wK (aE (pv 0)) (λ s H C fp=>by exact bU (i:=0) Ag rfl (.inl rfl)) (λ s H C fp=>by exact bK A1.G hr1 rfl A1.m A1.kp A1.b .nil ah (ac (pv 0) ao))) ao)))),?_⟩
 rcases h with⟨⟨t,kd,kt⟩,q⟩ | ⟨a,xs,bs,rfl,ha,l1000,⟨lb,bk⟩,q⟩
 ·exact⟨_,rfl,_,_,_,_,rfl,kd,kt,_,rfl,cW (cW (q H (Ext.refl _)))⟩
 refine⟨_,rfl,_,_,_,_,rfl,.inl (.lst ha),rfl,_,rfl,cH ?_⟩;refine⟨_,rfl,a,xs,rfl,.inl (SqL.of ha),_,1,6,rfl,.inl ⟨_,rfl⟩,_,rfl,?_⟩;have ei:inB 1 6 (.int (xs.length:Nat))=(decide (1<=xs.length)&&decide (xs.length<=6)):=by
  show(decide ((1:Int)<=(xs.length:Nat))&&decide (((xs.length:Nat):Int)<=6))=_
  congr 1 <;> exact decide_eq_decide.mpr (by omega)
 rw [ei];unfold B1 at q;cases e:decide (1<=xs.length)&&decide (xs.length<=6) with
 | false =>
  rw [e,Bool.false_and] at q;exact cW (q H (Ext.refl _))
 | true =>
  rw [e,Bool.true_and] at q;refine cH ⟨_,rfl,a,rfl,⟨_,SqL.of ha⟩,λ D hD=>?_⟩;refine bz (a:=a) (xs:=xs) (λ i ys H'=>Ext H H'/\ys=(bs.take i).map V.bl) (by rw [sizeLine_eq];omega) ⟨Ext.new hD,rfl⟩ (λ i ys H' pv=>SqL.of (pv.1 _ _ ha)) ?_ ?_
  ·rintro i x ys H' ex ly hDD ⟨x',rfl⟩ os los R k;obtain⟨o0,rfl⟩:∃ o0,os=[o0]:=by
    match os,los with
    | [o0],_=>exact⟨o0,rfl⟩
   have hi:i<bs.length:=by have:=(List.getElem?_eq_some_iff.mp ex).1;omega
   refine⟨⟨[some x],rfl,rfl⟩,_,rfl,x,_,rfl,(bk i x _ ex (List.getElem?_eq_getElem hi)).ext x',λ H4 x4=>k _ H4 (x4 _ _ hDD) ⟨aO _ (x'.trans x4) hD,?_⟩⟩;rw [aA (List.getElem?_eq_getElem hi),List.map_append];rfl
  ·rintro ys H' ly hDD ⟨x',rfl⟩;rw [lb,List.take_length] at hDD;exact⟨D,bs,rfl,SqL.of hDD,q H' x'⟩
abbrev DA:Stmt:=bR 33
def An (C:Nat->Addr):Sp:=λ vs H Q _=>∃(a:Addr)(xs:List V)(rs:List R0),vs=[.ref a]/\H a=some (.lst xs)/\All0 C H rs xs/\rs.length<=6/\(∀ r∈rs,r.ok)/\∀ l H',Ext H H'->Rds H' (.ref l) (eH (bM 0 (rs.map R0.folk)))->Q (.ref l) H'
abbrev Gh:List Str:=["rules","parts","start","rule","behind"]
theorem scPO:ad Gh ["rules"] (aa DA):=aJ
theorem rF {ns:List Int}{i:Nat}{n:Int}(h:ns[i]?=some n):(ns.take (i+1)).sum=(ns.take i).sum+n:=by
 rw [aA h,List.sum_append];simp
theorem nr {rs:List R0}(h6:rs.length<=6)(ok:∀ r∈rs,r.ok):∀ i,0<=(((rs.take i).map R0.folk).sum)/\((rs.take i).map R0.folk).sum<=120:=by
 have gen:∀(l:List R0),(∀ r∈l,r.ok)->0<=(l.map R0.folk).sum/\(l.map R0.folk).sum<=20*(l.length:Int):=by
  intro l
  induction l with
  | nil=>intro _;simp
  | cons r l ih =>
   intro h;have h1:=R0.folk_ok (h r (List.mem_cons_self ..));have h2:=ih λ x hx=>h x (List.mem_cons_of_mem _ hx);simp only [List.map_cons,List.sum_cons,List.length_cons];omega
 intro i;have:=gen (rs.take i) λ r hr=>ok r (List.mem_of_mem_take hr);have l:(rs.take i).length<=6:=by rw [List.length_take];omega
 omega
theorem BL {f:Addr}{fd:FuncData}(F:Fun K "parts_of" "parts_of" DA f fd)(M:Ms P w K mg base C)(mt:mg "tuple" = none)(mr:mg "range" = none):FnOk P w K mg base aq 2 f fd ["rules"] (An C):=by
 refine F.ok scPO (λ vs H Q E h=>?_) (λ cdv A outer s H vs Q E hr h=>?_)
 ·obtain⟨_,_,_,rfl,_⟩:=h;rfl
 obtain⟨a,xs,rs,rfl,ha,al,l6,ok,q⟩:=h;have nd:=scPO.nd;refine⟨_,bZ (gW (i:=1) nd rfl (Or.inl rfl) (dh ao)) (bZ (gW (i:=2) nd rfl (Or.inl rfl) az)
  (bZ (cJ PassesOwn.never rfl (aE (pv 0)) (bU (i:=3) nd rfl (Or.inl rfl)) (bZ (gW (i:=4) nd rfl (Or.inl rfl) (aj bo (pv 2) (bL (pv 3) M.folk hr ah)))
   (bZ (aw (jf PySem.F.plainAttrs_list PySem.F.slot_list_append PySem.F.type_list_append cn (pv 1) (ac (aM (i6 rfl) rfl mt PyProof.Rows.boot_tuple (ac (aM jo rfl mr PyProof.Rows.boot_range (ac (pv 2) (ac (pv 4) ao))) ao)) ao)))
   (bc (gW (i:=2) nd rfl (Or.inl rfl) (pv 4))))))
  (bc (cZ (aM bX rfl mt PyProof.Rows.boot_tuple (ac (pv 1) ao)))))),?_⟩
 refine⟨by show 0<=sizeLine;decide,λ p hp=>?_⟩
 have x1:=Ext.new (o:=.lst []) hp;have f1:ae H p (.lst []) p=some (.lst []):=aR;generalize ae H p (.lst [])=H1 at x1 f1 ⊢;have ap:a≠p:=λ e=>by rw [<- e,ha] at hp;cases hp
 refine⟨_,rfl,a,rfl,⟨_,SqL.of (x1 _ _ ha)⟩,dw (xs:=xs) (λ i σ H'=>Ext H H'/\(∃ qs,H' p=some (.lst qs)/\RdsAll (wo H' p) qs ((bM 0 ((rs.take i).map R0.folk)).map jS))/\∃ o3 o4,σ=[some (.ref a),some (.ref p),some (.int ((rs.take i).map R0.folk).sum),o3,o4]) ⟨x1,⟨[],f1,.nil⟩,_,_,rfl⟩ ?_ ?_ ?_⟩
 ·rintro i σ H' _ ⟨x',_⟩;exact SqL.of (x' _ _ ha)
 ·rintro i v σ H' ev ⟨x',⟨qs,hq,rq⟩,o3,o4,rfl⟩;have hi:i<rs.length:=by have:=(List.getElem?_eq_some_iff.mp ev).1;rw [al.1];exact this
  have er:=List.getElem?_eq_getElem hi;have ru:=(al.2 i _ v er ev).ext x';have em:(rs.map R0.folk)[i]?=some rs[i].folk:=by rw [List.getElem?_map,er];rfl
  have st:((rs.take (i+1)).map R0.folk).sum=((rs.take i).map R0.folk).sum+rs[i].folk:=by
   rw [List.map_take,List.map_take];exact rF em
  have b1:=nr l6 ok i;have b2:=R0.folk_ok (ok _ (List.getElem_mem hi));have lq:qs.length<=6:=by
   have:=rq.length;rw [List.length_map] at this;have sl:∀(ns:List Int)(s:Int),(bM s ns).length=ns.length:=by
    intro ns
    induction ns with
    | nil=>intro s;rfl
    | cons n ns ih=>intro s;show(bM (s+n) ns).length+1=_;rw [ih];rfl
   rw [sl,List.length_map,List.length_take] at this;omega
  refine⟨_,rfl,bV (t:=.one rs[i]) (by decide +kernel) ru (λ R r=>⟨_,rfl,r⟩) ⟨v,.one rs[i],rfl,ru,_,_,rfl,rfl,?_⟩⟩
  refine⟨_,rfl,.inl ⟨rfl,_,SqL.of hq⟩,_,rfl,_,rfl,_,_,rfl,λ r hr=>⟨r,_,_,rfl,aR,⟨by show -(2^62)<=_;omega,by omega,by show -(2^62)<=_+R0.folk _;omega,by show _+R0.folk _<_;omega⟩,by show(_+R0.folk _-_).toNat<=_;omega,λ l hl=>?_⟩⟩
  have xr:=Ext.new (o:=.rng ((rs.take i).map R0.folk).sum (((rs.take i).map R0.folk).sum+rs[i].folk)) hr;have ed:(((rs.take i).map R0.folk).sum+rs[i].folk-((rs.take i).map R0.folk).sum).toNat=rs[i].folk.toNat:=by congr 1;omega
  have ed':(((rs.take i).map R0.folk).sum+(Rl.one rs[i]).folk-((rs.take i).map R0.folk).sum).toNat=rs[i].folk.toNat:=ed;rw [ed',jI];have hl':ae H' r (.rng ((rs.take i).map R0.folk).sum (((rs.take i).map R0.folk).sum+rs[i].folk)) l=none:=hl;have xl:=Ext.new (o:=.tup ((cy ((rs.take i).map R0.folk).sum rs[i].folk.toNat).map V.int)) hl';have x2:=xr.trans xl;have hq2:=x2 _ _ hq;have np:l≠p:=λ e=>by rw [e,xr _ _ hq] at hl';cases hl'
  have hl2:ae (ae H' r (.rng ((rs.take i).map R0.folk).sum (((rs.take i).map R0.folk).sum+rs[i].folk))) l (.tup ((cy ((rs.take i).map R0.folk).sum rs[i].folk.toNat).map V.int)) l=some (.tup ((cy ((rs.take i).map R0.folk).sum rs[i].folk.toNat).map V.int)):=aR;refine⟨p,qs,.ref l,rfl,rfl,hq2,by rw [sizeLine_eq];omega,?_⟩
  show cj (af 4) (aP 2) _ [some (.ref a),some (.ref p),some (.int ((rs.take i).map R0.folk).sum),some v,some (.int (((rs.take i).map R0.folk).sum+rs[i].folk))] (ae (ae (ae H' r (.rng ((rs.take i).map R0.folk).sum (((rs.take i).map R0.folk).sum+rs[i].folk))) l (.tup ((cy ((rs.take i).map R0.folk).sum rs[i].folk.toNat).map V.int))) p (.lst (qs ++ [.ref l])));generalize ae (ae H' r (.rng ((rs.take i).map R0.folk).sum (((rs.take i).map R0.folk).sum+rs[i].folk))) l (.tup ((cy ((rs.take i).map R0.folk).sum rs[i].folk.toNat).map V.int))=H2 at x2 hq2 hl2 ⊢;refine⟨_,rfl,aO _ (x'.trans x2) hp,⟨_,aR,?_⟩,_,_,by rw [st];rfl⟩
  have e1:(bM 0 ((rs.take (i+1)).map R0.folk)).map jS=(bM 0 ((rs.take i).map R0.folk)).map jS ++ [jS (cy ((rs.take i).map R0.folk).sum rs[i].folk.toNat)]:=by
   rw [aA er,List.map_append,List.map_cons,List.map_nil,iq,List.map_append,Int.zero_add];rfl
  rw [e1];refine((RdsAll.mono (bq x2 p) rq).append (.cons (.tup (bD np hl2) (cI _ _)) .nil)|>RdsAll.mono vz)
 ·rintro σ H' ⟨x',⟨qs,hq,rq⟩,o3,o4,rfl⟩;have lr:xs.length=rs.length:=al.1.symm;rw [lr,List.take_length] at rq;refine⟨_,rfl,p,qs,rfl,.inl ⟨SqL.of hq,λ l hl=>?_⟩⟩;have xl:=Ext.new (o:=.tup qs) hl;exact q l _ (x'.trans xl) (.tup aR (RdsAll.mono ((ak H' p).trans xl) rq))
variable {prog:Program}{A:Around}{E:Value->Shared->Prop}{s:Shared}
theorem nP {it t:Addr}{i:Nat} {items}{x:Value}{Q:Value->Shared->Prop}(hit:s.heap.IsTupleIter it t i)(ht:s.heap.IsTuple t items)(hx:items[i]?=some x)
  (hQ:∀ h',h'.IsTupleIter it t (i+1)->Heap.SameBut it s.heap h'->Q x { s with heap:=h' }):wpAny (model prog w) A (Builtin.SmallTypes.nextOf (.ref it)) Q E s:=by
 obtain⟨⟨o,ho,hc,hd⟩,⟨ol,hol,_,nl,hdl⟩⟩:=And.intro (id hit) ht;unfold Builtin.SmallTypes.nextOf;refine wpAny_bind (wpAny_callSpecial?_slot (name:=Str.ofString "__next__") hit.typeIs F.slot_tuple_iterator_next (wpAny_call_entry F.slot_tuple_iterator_next hit.typeIs F.entry_tuple_iterator_next ?_ (F.args_tuple_iterator_next_1 _)));show wpAny _ _ (field (.ref it) 0>>=_) _ _ s;refine wpAny_bind (wpAny_field ho hd (x:=.ref t) rfl ?_);show wpAny _ _ (if(Value.ref t==Value.none)=true then _ else _) _ _ s;rw [if_neg (show ¬ ((Value.ref t==Value.none)=true) from Bool.false_ne_true)]
 show wpAny _ _ (field (.ref it) 1>>=_) _ _ s;refine wpAny_bind (wpAny_field ho hd (x:=.int i 0) rfl ?_);show wpAny _ _ (seqItems? (.ref t)>>=_) _ _ s;refine wpAny_bind (wpAny_seqItems hol hdl ?_);simp only [Int.toNat_natCast,hx];refine wpAny_bind (wpAny_setField ho hd (by simp) (wpAny_pure ⟨x,rfl,wpAny_pure (hQ _ ⟨_,Heap.get?_update_self _ ho (Obj.isFreed_of_fields (Obj.data_mapFields hd _)),(Obj.cls_mapFields ..).trans hc,?_⟩ (Heap.SameBut.update ..))⟩))
 rw [Obj.data_mapFields hd];simp [rawInt]
theorem qS {it t:Addr}{i:Nat} {items}{Q:Value->Shared->Prop}(hh:A.handled=none)(hit:s.heap.IsTupleIter it t i)(ht:s.heap.IsTuple t items)(hx:items[i]?=none)
  (hE:∀ h' e,Heap.ExtBut it s.heap h'->(∃ o,h'.get? e=some o/\o.cls=.type "StopIteration")->E (.ref e) { s with heap:=h' }):wpAny (model prog w) A (Builtin.SmallTypes.nextOf (.ref it)) Q E s:=by
 obtain⟨⟨o,ho,hc,hd⟩,⟨ol,hol,_,nl,hdl⟩⟩:=And.intro (id hit) ht;unfold Builtin.SmallTypes.nextOf;refine wpAny_bind (wpAny_callSpecial?_slot (name:=Str.ofString "__next__") hit.typeIs F.slot_tuple_iterator_next (wpAny_call_entry F.slot_tuple_iterator_next hit.typeIs F.entry_tuple_iterator_next ?_ (F.args_tuple_iterator_next_1 _)));show wpAny _ _ (field (.ref it) 0>>=_) _ _ s;refine wpAny_bind (wpAny_field ho hd (x:=.ref t) rfl ?_);show wpAny _ _ (if(Value.ref t==Value.none)=true then _ else _) _ _ s;rw [if_neg (show ¬ ((Value.ref t==Value.none)=true) from Bool.false_ne_true)]
 show wpAny _ _ (field (.ref it) 1>>=_) _ _ s;refine wpAny_bind (wpAny_field ho hd (x:=.int i 0) rfl ?_);show wpAny _ _ (seqItems? (.ref t)>>=_) _ _ s;refine wpAny_bind (wpAny_seqItems hol hdl ?_);simp only [Int.toNat_natCast,hx];refine wpAny_bind (wpAny_rule (wpAny_bind (wpAny_setField ho hd (by simp) ?_)));show wpAny _ _ (newExc (.type "StopIteration") []>>=_) _ _ _
 refine wpAny_bind ?_;simp only [newExc,newTuple];refine wpAny_bind (wpAny_newObj_type ?_ (by size_fits))
 refine wpAny_bind (m:=firstArgMember _ _) (wpAny_of_eq (a:=Value.none) (by first | rfl | (simp only [firstArgMember];rfl)) (wpAny_newObj_type ?_ (by size_fits)))
 simp only [raiseNew];refine wpAny_bind (wpAny_handled ?_)
 first | rw [show A.in1.handled=none from hh] | rw [hh]
 exact wpAny_bind (wpAny_pure (wpAny_throw (hE _ _ (((Heap.SameBut.update ..).extBut.push _).push _) ⟨_,Heap.get?_push_size _ rfl,rfl⟩)))
abbrev iR (h:Heap)(z TI TO:Addr)(f0 f1:Value):Prop:=h.get? z=some { cls:=.type "zip",dict:=none,data:=.fields #[f0,f1,.bool false,.ref TI,.ref TO],slots:=#[] }
def FF (f0:Value):Prop:=f0=.none\/∃ a:Int,f0=rawInt a
theorem ur {a:Addr}{Q:Option Obj->Shared->Prop}(h:Q (s.heap.get? a) s):wpAny (model prog w) A (loadIfAlive a) Q E s:=λ _ _ _=>by
 unfold loadIfAlive;rw [Sem.wp_loadIfAlive];exact h
theorem oo {z TI TO:Addr}{f0:Value}{b:Bool}{Q:Bool->Shared->Prop}(hz:iR s.heap z TI TO f0 (.bool b))(ow:FF f0)(h1:Q true s)
  (h2:∀ h',iR h' z TI TO f0 (.bool true)->Heap.SameBut z s.heap h'->Q false { s with heap:=h' }):wpAny (model prog w) A (Builtin.SmallTypes.ownedTupleIsFree (.ref z)) Q E s:=by
 unfold Builtin.SmallTypes.ownedTupleIsFree;refine wpAny_bind (wpAny_field hz rfl (x:=f0) rfl ?_);rcases ow with rfl | ⟨a,rfl⟩
 ·exact wpAny_pure h1
 ·show wpAny _ _ (loadIfAlive a.toNat>>=_) _ _ s;refine wpAny_bind (ur ?_);cases s.heap.get? a.toNat with
  | none=>exact wpAny_pure h1
  | some o =>
   show wpAny _ _ (field (.ref z) 1>>=_) _ _ s;refine wpAny_bind (wpAny_field hz rfl (x:=.bool b) rfl ?_);cases b with
   | true =>
    refine wpAny_pure ?_;have e:=h2 s.heap hz ⟨rfl,λ _ _=>rfl⟩;exact e
   | false =>
    show wpAny _ _ (setField (.ref z) 1 (.bool true)>>=_) _ _ s;exact wpAny_bind (wpAny_setField_rec hz (by simp) λ h' hz' hs'=>wpAny_pure (h2 h' hz' hs'))
structure sH (z TI TO i1 i2 l1 l2:Addr):Prop where
 a1:TI≠z
 a2:TO≠z
 a3:i1≠z
 a4:i2≠z
 a5:TI≠TO
 a6:TI≠i1
 a7:TI≠i2
 a8:TO≠i1
 a9:TO≠i2
 b1:i1≠i2
 b2:l1≠z
 b3:l1≠TO
 b4:l1≠i1
 b5:l1≠i2
 b6:l2≠z
 b7:l2≠TO
 b8:l2≠i1
 b9:l2≠i2
structure ZAt (h:Heap)(z TI TO i1 i2 l1 l2:Addr)(k:Nat):Prop where
 zo:∃ f0 b,iR h z TI TO f0 (.bool b)/\FF f0
 ti:IsPair h TI (.ref i1) (.ref i2)
 to:∃ a b,IsPair h TO a b
 j1:h.IsListIter i1 l1 k
 j2:h.IsTupleIter i2 l2 k
def gQ (h h':Heap)(z TO i1 i2:Addr):Prop:=∀ c o,c≠z->c≠TO->c≠i1->c≠i2->h.get? c=some o->h'.get? c=some o
theorem sr {z TI TO i1 i2 l1 l2:Addr}{k:Nat}{xs ys:Array Value}{x y:Value}{Q:Value->Shared->Prop}(D:sH z TI TO i1 i2 l1 l2)(hz:ZAt s.heap z TI TO i1 i2 l1 l2 k)(g1:s.heap.IsList l1 xs)(g2:s.heap.IsTuple l2 ys)(hx:xs[k]?=some x)(hy:ys[k]?=some y)
  (hQ:∀ h',ZAt h' z TI TO i1 i2 l1 l2 (k+1)->IsPair h' s.heap.objs.size x y->h'.objs.size=s.heap.objs.size+1->gQ s.heap h' z TO i1 i2->Q (.ref s.heap.objs.size) { s with heap:=h' }) :
  wpAny (model prog w) A (Builtin.«zip.__next__» ⟨[.ref z],[]⟩) (λ fin s'=>∃ v,fin=.done (.ret v)/\Q v s') E s:=by
 obtain⟨⟨f0,b,zo,ow⟩,ti,⟨ta,tb,to⟩,j1,j2⟩:=hz;show wpAny _ _ (field (.ref z) 2>>=_) _ _ _;refine wpAny_bind (wpAny_field zo rfl (x:=.bool false) rfl ?_);show wpAny _ _ (field (.ref z) 3>>=_) _ _ _;refine wpAny_bind (wpAny_field zo rfl (x:=.ref TI) rfl (wpAny_bind (wpAny_seqItems ti rfl ?_)));show wpAny _ _ (Builtin.SmallTypes.ownedTupleIsFree (.ref z)>>=_) _ _ _;refine wpAny_bind (oo zo ow ?_ λ h1 zo1 s1=>?_)
 ·simp only [if_true];refine wpAny_bind (wpAny_rule (wpAny_bind (wpAny_field zo rfl (x:=.ref TO) rfl (wpAny_bind (wpAny_setField_rec zo (by simp) λ h1 zo1 s1=>?_)))))
  have zo1:iR h1 z TI TO .ellipsis (.bool b):=zo1;have j1a:=j1.extBut s1.extBut D.a3;have j2a:=j2.extBut s1.extBut D.a4;have g1a:=g1.extBut s1.extBut D.b2;have g2a:=g2.extBut s1.extBut D.b6;have to1:IsPair h1 TO ta tb:=s1.extBut _ _ D.a2 to;refine wpAny_bind ?_;simp only [List.zipIdx_cons,List.zipIdx_nil,List.forIn_cons,List.forIn_nil];refine wpAny_bind (wpAny_bind (wpAny_onRaise ?_));show wpAny _ _ (Builtin.SmallTypes.nextOf (.ref i1)>>=_) _ _ _;refine wpAny_bind (wpAny_nextOf_list_item j1a g1a hx λ h2 j1b s2=>wpAny_pure ?_);have s2:Heap.SameBut i1 h1 h2:=s2;have to2:IsPair h2 TO ta tb:=s2.extBut _ _ D.a8 to1;refine wpAny_bind (wpAny_seqItems to2 rfl (wpAny_bind (wpAny_updateSeq_pair to2 λ h3 to3 s3=>wpAny_bind (wpAny_letGo (wpAny_pure ?_)))));have s3:Heap.SameBut TO h2 h3:=s3;have to3:IsPair h3 TO x tb:=to3;have j2b:=(j2a.extBut s2.extBut D.b1.symm).extBut s3.extBut D.a9.symm;have g2b:=(g2a.extBut s2.extBut D.b8).extBut s3.extBut D.b7;refine wpAny_bind (wpAny_bind (wpAny_onRaise ?_));show wpAny _ _ (Builtin.SmallTypes.nextOf (.ref i2)>>=_) _ _ _;refine wpAny_bind (nP j2b g2b hy λ h4 j2c s4=>wpAny_pure ?_);have s4:Heap.SameBut i2 h3 h4:=s4;have to4:IsPair h4 TO x tb:=s4.extBut _ _ D.a9 to3;refine wpAny_bind (wpAny_seqItems to4 rfl (wpAny_bind (wpAny_updateSeq_pair to4 λ h5 to5 s5=>wpAny_bind (wpAny_letGo (wpAny_pure (wpAny_pure ?_))))));have s5:Heap.SameBut TO h4 h5:=s5;have to5:IsPair h5 TO x y:=to5;have sz:h5.objs.size=s.heap.objs.size:=by rw [s5.1,s4.1,s3.1,s2.1,s1.1]
  have up:gQ s.heap h5 z TO i1 i2:=λ c o c1 c2 c3 c4 e=>s5.extBut _ _ c2 (s4.extBut _ _ c4 (s3.extBut _ _ c2 (s2.extBut _ _ c3 (s1.extBut _ _ c1 e))));have zo5:iR h5 z TI TO .ellipsis (.bool b):=s5.extBut _ _ D.a2.symm (s4.extBut _ _ D.a4.symm (s3.extBut _ _ D.a2.symm (s2.extBut _ _ D.a3.symm zo1)));have j1c:=((j1b.extBut s3.extBut D.a8.symm).extBut s4.extBut D.b1).extBut s5.extBut D.a8.symm;have j2d:=j2c.extBut s5.extBut D.a9.symm;refine wpAny_bind (wpAny_seqItems to5 rfl (wpAny_bind (wpAny_newTuple ?_)));show wpAny _ _ (Builtin.SmallTypes.ownedTupleHandOut (.ref z) (.ref h5.objs.size)>>=_) _ _ _;have zo6:iR (h5.push { cls:=.type "tuple",data:=.seq #[x,y] }) z TI TO .ellipsis (.bool b):=Heap.get?_push_of_some _ zo5;refine wpAny_bind ?_;unfold Builtin.SmallTypes.ownedTupleHandOut;refine wpAny_bind (wpAny_setField_rec zo6 (by simp) λ h7 zo7 s7=>?_)
  have zo7:iR h7 z TI TO (rawInt h5.objs.size) (.bool b):=zo7;refine wpAny_setField_rec zo7 (by simp) λ h8 zo8 s8=>wpAny_pure ⟨_,rfl,?_⟩
  have zo8:iR h8 z TI TO (rawInt h5.objs.size) (.bool false):=zo8;have up8:∀ c o,c≠z->h5.get? c=some o->h8.get? c=some o:=λ c o c1 e=>s8.extBut _ _ c1 (s7.extBut _ _ c1 (Heap.get?_push_of_some _ e));show Q (.ref h5.objs.size) _;have nz:s.heap.objs.size≠z:=by rw [<- sz];exact Nat.ne_of_gt (Heap.lt_size zo5)
  rw [sz];refine hQ _ ⟨⟨_,false,zo8,.inr ⟨_,rfl⟩⟩,up8 _ _ D.a1 (up _ _ D.a1 D.a5 D.a6 D.a7 ti),⟨x,y,up8 _ _ D.a2 to5⟩,j1c.at λ o e=>up8 _ o D.a3 e,j2d.at λ o e=>up8 _ o D.a4 e⟩ ?_ (by rw [s8.1,s7.1,Heap.size_push,sz]) λ c o c1 c2 c3 c4 e=>up8 c o c1 (up c o c1 c2 c3 c4 e)
  exact s8.extBut _ _ nz (s7.extBut _ _ nz (by rw [<- sz];exact Heap.get?_push_size _ rfl))
 ·simp only [Bool.false_eq_true,if_false];have j1a:=j1.extBut s1.extBut D.a3;have j2a:=j2.extBut s1.extBut D.a4;have g1a:=g1.extBut s1.extBut D.b2;have g2a:=g2.extBut s1.extBut D.b6;refine wpAny_bind ?_;rw [<- Array.forIn_toList];simp only [List.forIn_cons,List.forIn_nil];refine wpAny_bind (wpAny_bind (wpAny_holding ?_));show wpAny _ _ (Builtin.SmallTypes.nextOf (.ref i1)>>=_) _ _ _;refine wpAny_bind (wpAny_nextOf_list_item j1a g1a hx λ h2 j1b s2=>wpAny_pure (wpAny_pure ?_));have j2b:=j2a.extBut s2.extBut D.b1.symm;have g2b:=g2a.extBut s2.extBut D.b8;refine wpAny_bind (wpAny_bind (wpAny_holding ?_));show wpAny _ _ (Builtin.SmallTypes.nextOf (.ref i2)>>=_) _ _ _;refine wpAny_bind (nP j2b g2b hy λ h3 j2c s3=>wpAny_pure (wpAny_pure (wpAny_pure ?_)));show wpAny _ _ (newTuple [x,y]>>=_) _ _ _;have s2:Heap.SameBut i1 h1 h2:=s2;have s3:Heap.SameBut i2 h2 h3:=s3;have sz:h3.objs.size=s.heap.objs.size:=by rw [s3.1,s2.1,s1.1]
  have up:gQ s.heap h3 z TO i1 i2:=λ c o c1 c2 c3 c4 e=>s3.extBut _ _ c4 (s2.extBut _ _ c3 (s1.extBut _ _ c1 e));refine wpAny_bind (wpAny_newTuple (wpAny_pure ⟨_,rfl,?_⟩));show Q (.ref h3.objs.size) _;rw [sz];refine hQ _ ⟨⟨f0,true,Heap.get?_push_of_some _ (s3.extBut _ _ D.a4.symm (s2.extBut _ _ D.a3.symm zo1)),ow⟩,Heap.get?_push_of_some _ (up _ _ D.a1 D.a5 D.a6 D.a7 ti),⟨ta,tb,Heap.get?_push_of_some _ (s3.extBut _ _ D.a9 (s2.extBut _ _ D.a8 (s1.extBut _ _ D.a2 to)))⟩,(j1b.extBut s3.extBut D.b1).at λ o e=>Heap.get?_push_of_some _ e,j2c.at λ o e=>Heap.get?_push_of_some _ e⟩ ?_ (by rw [Heap.size_push,sz]) λ c o c1 c2 c3 c4 e=>Heap.get?_push_of_some _ (up c o c1 c2 c3 c4 e)
  rw [<- sz];exact Heap.get?_push_size _ rfl
theorem zE {z TI TO i1 i2 l1 l2:Addr}{k:Nat}{xs ys:Array Value}{Q:Fin->Shared->Prop}(hh:A.handled=none)(D:sH z TI TO i1 i2 l1 l2)(hz:ZAt s.heap z TI TO i1 i2 l1 l2 k)(g1:s.heap.IsList l1 xs)(g2:s.heap.IsTuple l2 ys)(hn:xs[k]?=none\/ys[k]?=none)
  (hE:∀ h' e,gQ s.heap h' z TO i1 i2->(∃ o,h'.get? e=some o/\o.cls=.type "StopIteration")->E (.ref e) { s with heap:=h' }) :
  wpAny (model prog w) A (Builtin.«zip.__next__» ⟨[.ref z],[]⟩) Q E s:=by
 obtain⟨⟨f0,b,zo,ow⟩,ti,⟨ta,tb,to⟩,j1,j2⟩:=hz;show wpAny _ _ (field (.ref z) 2>>=_) _ _ _;refine wpAny_bind (wpAny_field zo rfl (x:=.bool false) rfl ?_);show wpAny _ _ (field (.ref z) 3>>=_) _ _ _;refine wpAny_bind (wpAny_field zo rfl (x:=.ref TI) rfl (wpAny_bind (wpAny_seqItems ti rfl ?_)));show wpAny _ _ (Builtin.SmallTypes.ownedTupleIsFree (.ref z)>>=_) _ _ _;refine wpAny_bind (oo zo ow ?_ λ h1 zo1 s1=>?_)
 ·simp only [if_true];refine wpAny_bind (wpAny_rule (wpAny_bind (wpAny_field zo rfl (x:=.ref TO) rfl (wpAny_bind (wpAny_setField_rec zo (by simp) λ h1 zo1 s1=>?_)))))
  have zo1:iR h1 z TI TO .ellipsis (.bool b):=zo1;have j1a:=j1.extBut s1.extBut D.a3;have j2a:=j2.extBut s1.extBut D.a4;have g1a:=g1.extBut s1.extBut D.b2;have g2a:=g2.extBut s1.extBut D.b6;have to1:IsPair h1 TO ta tb:=s1.extBut _ _ D.a2 to;have leave:∀(h2:Heap)(e:Addr),iR h2 z TI TO .ellipsis (.bool b)->gQ s.heap h2 z TO i1 i2->(∃ o,h2.get? e=some o/\o.cls=.type "StopIteration")->wpAny (model prog w) A (setField (.ref z) 0 .none) (λ _ s'=>E (.ref e) s') E { s with heap:=h2 }:=λ h2 e z2 u2 he=>by
   obtain⟨oe,hoe,hce⟩:=he;have hez:e≠z:=λ q=>by subst q;rw [z2] at hoe;cases hoe;simp at hce
   exact wpAny_setField_rec z2 (by simp) λ h3 _ s3=>hE h3 e (λ c o c1 c2 c3 c4 q=>s3.extBut _ _ c1 (u2 c o c1 c2 c3 c4 q)) ⟨oe,s3.extBut _ _ hez hoe,hce⟩
  refine wpAny_bind ?_;simp only [List.zipIdx_cons,List.zipIdx_nil,List.forIn_cons,List.forIn_nil];refine wpAny_bind (wpAny_bind (wpAny_onRaise ?_));show wpAny _ _ (Builtin.SmallTypes.nextOf (.ref i1)>>=_) _ _ _;cases hx:xs[k]? with
  | none =>
   refine wpAny_bind (wpAny_nextOf_list_end hh j1a g1a hx λ h2 e s2 he=>?_);have s2:Heap.ExtBut i1 h1 h2:=s2;exact leave h2 e (s2 _ _ D.a3.symm zo1) (λ c o c1 c2 c3 c4 q=>s2 _ _ c3 (s1.extBut _ _ c1 q)) he
  | some x =>
   have hy:ys[k]?=none:=hn.resolve_left (by rw [hx];simp)
   refine wpAny_bind (wpAny_nextOf_list_item j1a g1a hx λ h2 j1b s2=>wpAny_pure ?_);have s2:Heap.SameBut i1 h1 h2:=s2;have to2:IsPair h2 TO ta tb:=s2.extBut _ _ D.a8 to1;refine wpAny_bind (wpAny_seqItems to2 rfl (wpAny_bind (wpAny_updateSeq_pair to2 λ h3 to3 s3=>wpAny_bind (wpAny_letGo (wpAny_pure ?_)))));have s3:Heap.SameBut TO h2 h3:=s3;have j2b:=(j2a.extBut s2.extBut D.b1.symm).extBut s3.extBut D.a9.symm;have g2b:=(g2a.extBut s2.extBut D.b8).extBut s3.extBut D.b7;refine wpAny_bind (wpAny_bind (wpAny_onRaise ?_));show wpAny _ _ (Builtin.SmallTypes.nextOf (.ref i2)>>=_) _ _ _;refine wpAny_bind (qS hh j2b g2b hy λ h4 e s4 he=>?_);have s4:Heap.ExtBut i2 h3 h4:=s4;exact leave h4 e (s4 _ _ D.a4.symm (s3.extBut _ _ D.a2.symm (s2.extBut _ _ D.a3.symm zo1))) (λ c o c1 c2 c3 c4 q=>s4 _ _ c4 (s3.extBut _ _ c2 (s2.extBut _ _ c3 (s1.extBut _ _ c1 q)))) he
 ·simp only [Bool.false_eq_true,if_false];have j1a:=j1.extBut s1.extBut D.a3;have j2a:=j2.extBut s1.extBut D.a4;have g1a:=g1.extBut s1.extBut D.b2;have g2a:=g2.extBut s1.extBut D.b6;refine wpAny_bind ?_;rw [<- Array.forIn_toList];simp only [List.forIn_cons,List.forIn_nil];refine wpAny_bind (wpAny_bind (wpAny_holding ?_));show wpAny _ _ (Builtin.SmallTypes.nextOf (.ref i1)>>=_) _ _ _;cases hx:xs[k]? with
  | none =>
   refine wpAny_bind (wpAny_nextOf_list_end hh j1a g1a hx λ h2 e s2 he=>?_);have s2:Heap.ExtBut i1 h1 h2:=s2;exact hE h2 e (λ c o c1 c2 c3 c4 q=>s2 _ _ c3 (s1.extBut _ _ c1 q)) he
  | some x =>
   have hy:ys[k]?=none:=hn.resolve_left (by rw [hx];simp)
   refine wpAny_bind (wpAny_nextOf_list_item j1a g1a hx λ h2 j1b s2=>wpAny_pure (wpAny_pure ?_));have s2:Heap.SameBut i1 h1 h2:=s2;have j2b:=j2a.extBut s2.extBut D.b1.symm;have g2b:=g2a.extBut s2.extBut D.b8;refine wpAny_bind (wpAny_bind (wpAny_holding ?_));show wpAny _ _ (Builtin.SmallTypes.nextOf (.ref i2)>>=_) _ _ _;refine wpAny_bind (qS hh j2b g2b hy λ h3 e s3 he=>?_);have s3:Heap.ExtBut i2 h2 h3:=s3;exact hE h3 e (λ c o c1 c2 c3 c4 q=>s3 _ _ c4 (s2.extBut _ _ c3 (s1.extBut _ _ c1 q))) he
end
theorem ZAt.keep {h h':Heap}{z TI TO i1 i2 l1 l2:Addr}{k:Nat}(a:ZAt h z TI TO i1 i2 l1 l2 k)(u:∀ b ∈ [z,TI,TO,i1,i2],∀ o,h.get? b=some o->h'.get? b=some o):ZAt h' z TI TO i1 i2 l1 l2 k:=by
 obtain⟨⟨f0,b,zo,ow⟩,ti,⟨ta,tb,to⟩,j1,j2⟩:=a;exact⟨⟨f0,b,u z (by simp) _ zo,ow⟩,u TI (by simp) _ ti,⟨ta,tb,u TO (by simp) _ to⟩,j1.at λ o e=>u i1 (by simp) o e,j2.at λ o e=>u i2 (by simp) o e⟩
section
variable {prog:Program}{w:World}{A:Around}{E:Value->Shared->Prop}{s:Shared}
theorem ZAt.ty {z TI TO i1 i2 l1 l2:Addr}{k:Nat}(a:ZAt s.heap z TI TO i1 i2 l1 l2 k):s.TypeIs (.ref z) "zip" := by
 obtain⟨⟨f0,b,zo,ow⟩,_⟩:=a;exact⟨_,zo,rfl⟩
theorem C7 {z TI TO i1 i2 l1 l2:Addr}{k:Nat}{xs ys:Array Value}{x y:Value}{Q:Value->Shared->Prop}(D:sH z TI TO i1 i2 l1 l2)(hz:ZAt s.heap z TI TO i1 i2 l1 l2 k)(g1:s.heap.IsList l1 xs)(g2:s.heap.IsTuple l2 ys)(hx:xs[k]?=some x)(hy:ys[k]?=some y)
  (hQ:∀ h',ZAt h' z TI TO i1 i2 l1 l2 (k+1)->IsPair h' s.heap.objs.size x y->h'.objs.size=s.heap.objs.size+1->gQ s.heap h' z TO i1 i2->Q (.ref s.heap.objs.size) { s with heap:=h' }) :
  wpAny (model prog w) A (Builtin.SmallTypes.nextOf (.ref z)) Q E s:=by
 unfold Builtin.SmallTypes.nextOf;exact wpAny_bind (wpAny_callSpecial?_slot (name:=Str.ofString "__next__") hz.ty F.slot_zip_next (wpAny_call_entry F.slot_zip_next hz.ty F.entry_zip_next (sr D hz g1 g2 hx hy λ h' a b c d=>wpAny_pure (hQ h' a b c d)) (F.args_zip_next_1 _)))
theorem A6 {z TI TO i1 i2 l1 l2:Addr}{k:Nat}{xs ys:Array Value}{Q:Value->Shared->Prop}(hh:A.handled=none)(D:sH z TI TO i1 i2 l1 l2)(hz:ZAt s.heap z TI TO i1 i2 l1 l2 k)(g1:s.heap.IsList l1 xs)(g2:s.heap.IsTuple l2 ys)(hn:xs[k]?=none\/ys[k]?=none)
  (hE:∀ h' e,gQ s.heap h' z TO i1 i2->(∃ o,h'.get? e=some o/\o.cls=.type "StopIteration")->E (.ref e) { s with heap:=h' }):wpAny (model prog w) A (Builtin.SmallTypes.nextOf (.ref z)) Q E s:=by
 unfold Builtin.SmallTypes.nextOf;exact wpAny_bind (wpAny_callSpecial?_slot (name:=Str.ofString "__next__") hz.ty F.slot_zip_next (wpAny_call_entry F.slot_zip_next hz.ty F.entry_zip_next (zE hh D hz g1 g2 hn hE) (F.args_zip_next_1 _)))
theorem Ar {e z TI TO i1 i2 l1 l2:Addr}{k:Nat}{xs ys:Array Value}{x y old:Value}{Q:Option Value->Shared->Prop}(D:sH z TI TO i1 i2 l1 l2)(he:IsEnum s.heap e z k old)(hz:ZAt s.heap z TI TO i1 i2 l1 l2 k)(g1:s.heap.IsList l1 xs)(g2:s.heap.IsTuple l2 ys)(hx:xs[k]?=some x)(hy:ys[k]?=some y)
  (ne:∀ b ∈ [z,TI,TO,i1,i2],b≠e)
  (hQ:∀ h',IsEnumOut h' e z ((k:Int)+1) (.ref s.heap.objs.size) (s.heap.objs.size+1)->ZAt h' z TI TO i1 i2 l1 l2 (k+1)->IsPair h' s.heap.objs.size x y->h'.get? (s.heap.objs.size+1)=some { cls:=.type "tuple",data:=.seq #[.int k s.toks,.ref s.heap.objs.size] } ->
   (∀ c o,c≠e->c≠z->c≠TO->c≠i1->c≠i2->s.heap.get? c=some o->h'.get? c=some o)->Q (some (.ref (s.heap.objs.size+1))) { s with heap:=h',toks:=s.toks+1 }) :
  wpAny (model prog w) A (pyNext (.ref e)) Q E s:=by
 have hT:s.TypeIs (.ref e) "enumerate" :=⟨_,he,rfl⟩;have el:=Heap.lt_size he;have nz:e≠z:=(ne z (by simp)).symm
 have nTO:e≠TO:=(ne TO (by simp)).symm
 have n1:e≠i1:=(ne i1 (by simp)).symm
 have n2:e≠i2:=(ne i2 (by simp)).symm
 unfold pyNext;refine wpAny_bind (wpAny_attempt (wpAny_callSpecial?_slot (name:=Str.ofString "__next__") hT F.slot_enumerate_next (wpAny_call_entry F.slot_enumerate_next hT F.entry_enumerate_next ?_ (F.args_enumerate_next_1 _))));show wpAny _ _ (field (.ref e) 2>>=_) _ _ _;refine wpAny_bind (wpAny_field he rfl (x:=.ref z) rfl (wpAny_bind (C7 D hz g1 g2 hx hy λ h1 za pr sz1 kz=>?_)));have he1:IsEnum h1 e z k old:=kz _ _ nz nTO n1 n2 he;show wpAny _ _ (field (.ref e) 3>>=_) _ _ _;refine wpAny_bind (wpAny_field he1 rfl (x:=rawInt k) rfl ?_);show wpAny _ _ (field (.ref e) 4>>=_) _ _ _;refine wpAny_bind (wpAny_field he1 rfl (x:=.none) rfl ?_);show wpAny _ _ (mkInt k>>=_) _ _ _;refine wpAny_bind (wpAny_mkInt ?_);show wpAny _ _ (setField (.ref e) 3 (rawInt ((k:Int)+1))>>=_) _ _ _;refine wpAny_bind (wpAny_setField_rec he1 (by simp) λ h2 he2 s2=>wpAny_bind (wpAny_setField_rec (show IsEnum h2 e z ((k:Int)+1) old from he2) (by simp) λ h3 he3 s3=>?_))
 have s2:Heap.SameBut e h1 h2:=s2;have s3:Heap.SameBut e h2 h3:=s3;have he3:IsEnum h3 e z ((k:Int)+1) old:=he3;have sz3:h3.objs.size=s.heap.objs.size+1:=by rw [s3.1,s2.1,sz1]
 show wpAny _ _ (newTuple [.int k s.toks,.ref s.heap.objs.size]>>=_) _ _ _;refine wpAny_bind (wpAny_newTuple ?_);have he4:IsEnum (h3.push { cls:=.type "tuple",data:=.seq #[.int k s.toks,.ref s.heap.objs.size] }) e z ((k:Int)+1) old:=Heap.get?_push_of_some _ he3;have t4:(h3.push { cls:=.type "tuple",data:=.seq #[.int k s.toks,.ref s.heap.objs.size] }).get? (s.heap.objs.size+1)=some { cls:=.type "tuple",data:=.seq #[.int k s.toks,.ref s.heap.objs.size] }:=by rw [<- sz3];exact Heap.get?_push_size _ rfl
 have u4:∀ c o,c≠e->h1.get? c=some o->(h3.push { cls:=.type "tuple",data:=.seq #[.int k s.toks,.ref s.heap.objs.size] }).get? c=some o:=λ c o ce q=>Heap.get?_push_of_some _ (s3.extBut _ _ ce (s2.extBut _ _ ce q));show wpAny _ _ (Builtin.SmallTypes.ownedTupleIsFree (.ref e)>>=_) _ _ _;rw [sz3];generalize (h3.push { cls:=.type "tuple",data:=.seq #[.int k s.toks,.ref s.heap.objs.size] })=h4 at he4 t4 u4;refine wpAny_bind ?_;unfold Builtin.SmallTypes.ownedTupleIsFree;refine wpAny_bind (wpAny_field he4 rfl (x:=.none) rfl (wpAny_pure ?_));simp only [if_true];refine wpAny_bind (wpAny_rule (wpAny_bind (wpAny_field he4 rfl (x:=old) rfl (wpAny_bind (wpAny_setField_rec he4 (by simp) λ h5 he5 s5=>?_)))))
 have s5:Heap.SameBut e h4 h5:=s5;have he5:IsEnum h5 e z ((k:Int)+1) (.ref s.heap.objs.size):=he5;show wpAny _ _ (Builtin.SmallTypes.ownedTupleHandOut (.ref e) (.ref (s.heap.objs.size+1))>>=_) _ _ _;refine wpAny_bind ?_;unfold Builtin.SmallTypes.ownedTupleHandOut;refine wpAny_bind (wpAny_setField_rec he5 (by simp) λ h6 he6 s6=>?_)
 have he6:IsEnumOut h6 e z ((k:Int)+1) (.ref s.heap.objs.size) (s.heap.objs.size+1):=he6;refine wpAny_setField_rec he6 (by simp) λ h7 he7 s7=>wpAny_bind (wpAny_letGo (wpAny_pure ⟨_,rfl,wpAny_pure ?_⟩))
 have s6:Heap.SameBut e h5 h6:=s6;have s7:Heap.SameBut e h6 h7:=s7;have u7:∀ c o,c≠e->h4.get? c=some o->h7.get? c=some o:=λ c o ce q=>s7.extBut _ _ ce (s6.extBut _ _ ce (s5.extBut _ _ ce q));have na:s.heap.objs.size≠e:=Nat.ne_of_gt el;have nb:s.heap.objs.size+1≠e:=Nat.ne_of_gt (Nat.lt_succ_of_lt el);exact hQ h7 he7 (za.keep λ b hb o q=>u7 b o (ne b hb) (u4 b o (ne b hb) q)) (u7 _ _ na (u4 _ _ na pr)) (u7 _ _ nb t4) λ c o ce c1 c2 c3 c4 q=>u7 c o ce (u4 c o ce (kz c o c1 c2 c3 c4 q))
theorem pS {e z TI TO i1 i2 l1 l2:Addr}{k:Nat}{i:Int}{xs ys:Array Value}{old:Value}{Q:Option Value->Shared->Prop}(hh:A.handled=none)(D:sH z TI TO i1 i2 l1 l2)(he:IsEnum s.heap e z i old)(hz:ZAt s.heap z TI TO i1 i2 l1 l2 k)(g1:s.heap.IsList l1 xs)(g2:s.heap.IsTuple l2 ys)(hn:xs[k]?=none\/ys[k]?=none)
  (hQ:∀ h',gQ s.heap h' z TO i1 i2->Q none { s with heap:=h' }):wpAny (model prog w) A (pyNext (.ref e)) Q E s:=by
 have hT:s.TypeIs (.ref e) "enumerate" :=⟨_,he,rfl⟩;unfold pyNext;refine wpAny_bind (wpAny_attempt (wpAny_callSpecial?_slot (name:=Str.ofString "__next__") hT F.slot_enumerate_next (wpAny_call_entry F.slot_enumerate_next hT F.entry_enumerate_next ?_ (F.args_enumerate_next_1 _))));show wpAny _ _ (field (.ref e) 2>>=_) _ _ _;refine wpAny_bind (wpAny_field he rfl (x:=.ref z) rfl (wpAny_bind (A6 hh D hz g1 g2 hn λ h' x kz hx'=>?_)));obtain⟨o,ho,hc⟩:=hx';exact wpAny_bind (wpAny_isInstance (T:="StopIteration") (b:=true) ⟨o,ho,hc⟩ isSubtype_stop (wpAny_pure (hQ _ kz)))
end
end My
namespace My
open PySem PySem.W L2
open PyProof.Rows (Call_ boot_enumerate)
open AutoSeq1 (wpAny_loadPart')
def Ai (h:Heap)(l1:Addr):Heap:=h.push { cls:=.type "list_iterator",data:=.fields #[.ref l1,.int 0 0] }
def wN (h:Heap)(l1 l2:Addr):Heap:=(Ai h l1).push { cls:=.type "tuple_iterator",data:=.fields #[.ref l2,.int 0 0] }
def wH (h:Heap)(l1 l2:Addr):Heap:=(wN h l1 l2).push { cls:=.type "tuple",data:=.seq #[.ref h.objs.size,.ref (Ai h l1).objs.size] }
def xo (h:Heap)(l1 l2:Addr):Heap:=(wH h l1 l2).push { cls:=.type "tuple",data:=.seq #[.none,.none] }
def tf (h:Heap)(l1 l2:Addr):Heap:=(xo h l1 l2).push { cls:=.type "zip",data:=.fields #[.none,.bool false,.bool false,.ref (wN h l1 l2).objs.size,.ref (wH h l1 l2).objs.size] }
theorem tS (l1 l2:Addr)(xs ys:Array Value):Meets (Builtin.«zip.__new__» ⟨[.type "zip",.ref l1,.ref l2],[]⟩) (λ _ R s=>s.heap.IsList l1 xs/\s.heap.IsTuple l2 ys/\R (.ok (.ret (.ref (xo s.heap l1 l2).objs.size))) { s with heap:=tf s.heap l1 l2 }) :=
 .of_wp λ prog w A R s h=>by
  obtain⟨hp,g,d,tk,os⟩:=s;obtain⟨hl1,hl2,h⟩:=h;have hsub:=sub_zip;have k1:Heap.IsList (Shared.heap ⟨hp,g,d,tk,os⟩) l1 xs:=hl1;have k2:Heap.IsTuple (Shared.heap ⟨hp.push { cls:=.type "list_iterator",data:=.fields #[.ref l1,.int 0 0] },g,d,tk,os⟩) l2 ys:=by
   obtain⟨o,ho,r⟩:=hl2;exact⟨o,Heap.get?_push_of_some _ ho,r⟩
  wp_walk using wpAny_pyIter_list k1,wpAny_pyIter_tuple k2
  exact⟨_,rfl,h⟩
theorem oC (z:Addr)(TI TO:Addr):Meets (Builtin.«enumerate.__new__» ⟨[.type "enumerate",.ref z],[]⟩) (λ _ R s=>IsZip s.heap z TI TO .none /\
   R (.ok (.ret (.ref s.heap.objs.size))) { s with heap:=s.heap.push { cls:=.type "enumerate",data:=.fields #[.none,.bool false,.ref z,rawInt 0,.none,.none] } }) :=
 .of_wp λ prog w A R s h=>by
  obtain⟨hp,g,d,tk,os⟩:=s;obtain⟨hl,h⟩:=h;have hsub:=sub_enumerate;have hL:IsZip (Shared.heap ⟨hp,g,d,tk,os⟩) z TI TO .none:=hl
  wp_walk using wpAny_loadPart' hl
  refine wpAny_stack_any λ st=>wpAny_pure ?_;split
  ·rename_i c _ _ _ _ _
   cases (c==Value.type "enumerate") <;>(wp_walk using wpAny_loadPart' hl,wpAny_pyIter_zip hL) <;> exact⟨_,rfl,h⟩
  ·wp_walk using wpAny_loadPart' hl,wpAny_pyIter_zip hL
   exact⟨_,rfl,h⟩
section
variable {prog:Program}{w:World}{A:Around}{E:Value->Shared->Prop}{s:Shared}
theorem pH {z TI TO:Addr}{Q:Value->Shared->Prop}(hz:IsZip s.heap z TI TO .none)
  (h:∀ h',IsEnum h' s.heap.objs.size z 0 .none->h'.objs.size=s.heap.objs.size+1->(∀ b o,s.heap.get? b=some o->h'.get? b=some o)->Q (.ref s.heap.objs.size) { s with heap:=h' }) :
  wpAny (model prog w) A (call (.type "enumerate") [.ref z]) Q E s:=by
 refine callType_new F.called_enumerate (by decide) (F.typeCall_enumerate_1 _) (F.newCall_enumerate_1 _) (λ obj=>F.args_object_init_2 obj _) F.entry_enumerate_new (oC z TI TO) ⟨hz,?_⟩
 have g:=Heap.get?_push_size s.heap (o:={ cls:=.type "enumerate",data:=.fields #[.none,.bool false,.ref z,rawInt 0,.none,.none] }) rfl;exact⟨⟨_,g,rfl⟩,h _ g (Heap.size_push ..) λ b o q=>Heap.get?_push_of_some _ q⟩
theorem tQ {l1 l2:Addr}{xs ys:Array Value}{Q:Value->Shared->Prop}(hl1:s.heap.IsList l1 xs)(hl2:s.heap.IsTuple l2 ys)
  (h:∀ h',IsZip h' (s.heap.objs.size+4) (s.heap.objs.size+2) (s.heap.objs.size+3) .none->ZAt h' (s.heap.objs.size+4) (s.heap.objs.size+2) (s.heap.objs.size+3) s.heap.objs.size (s.heap.objs.size+1) l1 l2 0->h'.objs.size=s.heap.objs.size+5 ->
   (∀ c o,s.heap.get? c=some o->h'.get? c=some o)->Q (.ref (s.heap.objs.size+4)) { s with heap:=h' }):wpAny (model prog w) A (call (.type "zip") [.ref l1,.ref l2]) Q E s:=by
 refine callType_new F.called_zip (by decide) (F.typeCall_zip_2 _ _) (F.newCall_zip_2 _ _) (λ obj=>F.args_object_init_3 obj _ _) F.entry_zip_new (tS l1 l2 xs ys) ⟨hl1,hl2,?_⟩
 have z1:(Ai s.heap l1).objs.size=s.heap.objs.size+1:=Heap.size_push ..;have z2:(wN s.heap l1 l2).objs.size=s.heap.objs.size+2:=by unfold wN;rw [Heap.size_push,z1]
 have z3:(wH s.heap l1 l2).objs.size=s.heap.objs.size+3:=by unfold wH;rw [Heap.size_push,z2]
 have z4:(xo s.heap l1 l2).objs.size=s.heap.objs.size+4:=by unfold xo;rw [Heap.size_push,z3]
 have z5:(tf s.heap l1 l2).objs.size=s.heap.objs.size+5:=by unfold tf;rw [Heap.size_push,z4]
 have u5:∀ c o,(xo s.heap l1 l2).get? c=some o->(tf s.heap l1 l2).get? c=some o:=λ c o q=>Heap.get?_push_of_some _ q;have u4:∀ c o,(wH s.heap l1 l2).get? c=some o->(tf s.heap l1 l2).get? c=some o:=λ c o q=>u5 c o (Heap.get?_push_of_some _ q);have u3:∀ c o,(wN s.heap l1 l2).get? c=some o->(tf s.heap l1 l2).get? c=some o:=λ c o q=>u4 c o (Heap.get?_push_of_some _ q);have u2:∀ c o,(Ai s.heap l1).get? c=some o->(tf s.heap l1 l2).get? c=some o:=λ c o q=>u3 c o (Heap.get?_push_of_some _ q);have u1:∀ c o,s.heap.get? c=some o->(tf s.heap l1 l2).get? c=some o:=λ c o q=>u2 c o (Heap.get?_push_of_some _ q);have g5:(tf s.heap l1 l2).get? (xo s.heap l1 l2).objs.size=some _:=Heap.get?_push_size _ rfl;have g4:=u5 _ _ (show(xo s.heap l1 l2).get? (wH s.heap l1 l2).objs.size=some _ from Heap.get?_push_size _ rfl);have g3:=u4 _ _ (show(wH s.heap l1 l2).get? (wN s.heap l1 l2).objs.size=some _ from Heap.get?_push_size _ rfl);have g2:=u3 _ _ (show(wN s.heap l1 l2).get? (Ai s.heap l1).objs.size=some _ from Heap.get?_push_size _ rfl);have g1:=u2 _ _ (show(Ai s.heap l1).get? s.heap.objs.size=some _ from Heap.get?_push_size _ rfl);show _/\_;rw [z2,z3,z4] at g5;rw [z1,z2] at g3;rw [z3] at g4;rw [z1] at g2;rw [z4];exact⟨⟨_,g5,rfl⟩,h _ g5 ⟨⟨_,_,g5,.inl rfl⟩,g3,⟨_,_,g4⟩,⟨_,g1,rfl,rfl⟩,⟨_,g2,rfl,rfl⟩⟩ z5 u1⟩
end
end My
namespace My
open PySem PySem.W L2
open PyProof.Rows (Call_ boot_enumerate)
section
variable {X:Cx}{pins:List (Addr × Obj)}{σ:St}{H:Hp}{s:Shared}{h':Heap}
theorem sR {t':Nat}{ch:List Addr}{xs ys:List V}(I:Inv X pins σ H s)(F:∀ b∈ch,cD X pins H b)(k:∀ b o,b ∉ ch->s.heap.get? b=some o->h'.get? b=some o)
  (o1:ObjOk X.prog X.w (ae (ae H s.heap.objs.size (.tup xs)) (s.heap.objs.size+1) (.tup ys)) h' s.heap.objs.size (.tup xs))(o2:ObjOk X.prog X.w (ae (ae H s.heap.objs.size (.tup xs)) (s.heap.objs.size+1) (.tup ys)) h' (s.heap.objs.size+1) (.tup ys)) :
  Inv X pins σ (ae (ae H s.heap.objs.size (.tup xs)) (s.heap.objs.size+1) (.tup ys)) { s with heap:=h',toks:=t' }:=by
 have f1:H s.heap.objs.size=none:=I.hok.fresh (Nat.le_refl _);have f2:H (s.heap.objs.size+1)=none:=I.hok.fresh (Nat.le_succ _);have up:∀ b u,H b=some u->ae (ae H s.heap.objs.size (.tup xs)) (s.heap.objs.size+1) (.tup ys) b=some u:=λ b u e=>by
  rw [ag (λ z=>by rw [z,f2] at e;cases e),ag (λ z=>by rw [z,f1] at e;cases e)]
  exact e
 have dn:∀ b,b<s.heap.objs.size->ae (ae H s.heap.objs.size (.tup xs)) (s.heap.objs.size+1) (.tup ys) b=H b:=λ b l=>by
  rw [ag (Nat.ne_of_lt (Nat.lt_succ_of_lt l)),ag (Nat.ne_of_lt l)]
 have nch:∀ b u,H b=some u->b ∉ ch:=λ b u e z=>by
  have:=(F b z).1;rw [this] at e;cases e
 refine I.step (g':=s.gens) (d':=s.drawn) (ch:=ch) (λ b hb=>?_) (λ b o _ _ hc e _=>k b o hc e) (λ b o _ _ hc e _=>⟨o.slots,k b o hc e⟩) (λ b o _ e n=>by rw [dn b (Heap.lt_size e)];exact n)
  (λ b o hc e=>⟨o,k b o hc e⟩) (λ b _ e=>up _ _ e) (λ _ _ _ e=>up _ _ e) (λ b ps e=>⟨#[],by rw [up _ _ e];simp⟩) (λ q=>?_) (λ m hm=>?_) (λ b u e=>?_) I.bare
 ·obtain⟨_,a,_,b',c,d⟩:=F b hb;exact⟨b',a,c,d⟩
 ·rw [dn _ (Nat.lt_trans (by decide:sysModules<mainGlobals) (I.mod.glob.keeps I.bk).lt)]
  exact q
 ·obtain⟨o,es,ep,ho,r⟩:=hm;exact⟨o,es,ep,k _ o (λ z=>(F _ z).2.1 rfl) ho,r⟩
 ·by_cases z2:b=s.heap.objs.size+1
  ·subst z2;rw [aR] at e;cases e;exact o2
  ·by_cases z1:b=s.heap.objs.size
   ·subst z1;rw [ag z2,aR] at e;cases e;exact o1
   ·rw [ag z2,ag z1] at e;refine(I.hok b u e).stay (λ c v hc q=>k c v ?_ q) (λ c q=>up _ _ q) λ c zs q=>up _ _ q;rcases hc with z | z
    ·rw [z];exact nch _ _ e
    ·exact nch _ _ z
theorem sY {t':Nat}{ch:List Addr}(I:Inv X pins σ H s)(F:∀ b∈ch,cD X pins H b)(k:∀ b o,b ∉ ch->s.heap.get? b=some o->h'.get? b=some o):Inv X pins σ H { s with heap:=h',toks:=t' }:=by
 have nch:∀ b u,H b=some u->b ∉ ch:=λ b u e z=>by
  have:=(F b z).1;rw [this] at e;cases e
 refine I.step (g':=s.gens) (d':=s.drawn) (ch:=ch) (λ b hb=>?_) (λ b o _ _ hc e _=>k b o hc e) (λ b o _ _ hc e _=>⟨o.slots,k b o hc e⟩) (λ _ _ _ _ n=>n)
  (λ b o hc e=>⟨o,k b o hc e⟩) (λ _ _ e=>e) (λ _ _ _ e=>e) (λ b ps e=>⟨#[],by rw [e];simp⟩) (λ q=>q) (λ m hm=>?_) (λ b u e=>?_) I.bare
 ·obtain⟨_,a,_,b',c,d⟩:=F b hb;exact⟨b',a,c,d⟩
 ·obtain⟨o,es,ep,ho,r⟩:=hm;exact⟨o,es,ep,k _ o (λ z=>(F _ z).2.1 rfl) ho,r⟩
 ·refine(I.hok b u e).stay (λ c v hc q=>k c v ?_ q) (λ _ q=>q) λ _ _ q=>q;rcases hc with z | z
  ·rw [z];exact nch _ _ e
  ·exact nch _ _ z
end
def BE (K:Frag)(a b:Addr):It :=
 ⟨λ i H=>∃ xs ys x y,SqL K H a xs/\SqT K H b ys/\xs[i]?=some x/\ys[i]?=some y,
   λ i H v H'=>∃ q p x y,v=.ref p/\H q=none/\H p=none/\p≠q/\H'=ae (ae H q (.tup [x,y])) p (.tup [.int i,.ref q])/\∀ xs ys,SqL K H a xs->SqT K H b ys->xs[i]?=some x/\ys[i]?=some y,
   λ i H=>∃ xs ys,SqL K H a xs/\SqT K H b ys/\(xs.length<=i\/ys.length<=i)⟩
theorem qc {P:Program}{w:World}{K:Frag}{elts:List Expr} {x1}{pos:Pos}(a b e z TI TO i1 i2:Addr)(D:sH z TI TO i1 i2 a b)(ne:∀ c ∈ [z,TI,TO,i1,i2],c≠e) :
  nt P w K (.Tuple elts x1 pos) (BE K a b) [e,z,TI,TO,i1,i2] e (λ i h=>(∃ old,IsEnum h e z i old)/\ZAt h z TI TO i1 i2 a b i) where
 mem:=by simp
 obj:=λ i h st c hc=>by
  obtain⟨⟨old,h1⟩,⟨f0,bb,zo,ow⟩,ti,⟨ta,tb,to⟩,⟨oa,ha,ca,da⟩,⟨ob,hb,cb,db⟩⟩:=st;simp only [List.mem_cons,List.not_mem_nil,or_false] at hc;rcases hc with rfl | rfl | rfl | rfl | rfl | rfl
  ·exact⟨_,h1,λ v q=>by cases q⟩
  ·exact⟨_,zo,λ v q=>by cases q⟩
  ·exact⟨_,ti,λ v q=>by cases q⟩
  ·exact⟨_,to,λ v q=>by cases q⟩
  ·exact⟨oa,ha,λ v q=>by rw [da] at q;cases q⟩
  ·exact⟨ob,hb,λ v q=>by rw [db] at q;cases q⟩
 keep:=λ i h h' st k=>⟨⟨_,k e (by simp) _ st.1.choose_spec⟩,st.2.keep λ c hc o q=>k c (List.mem_cons_of_mem _ hc) o q⟩
 item:=by
  intro X hP hw hK hc i pins s σ H E I hf st hg;subst hP hw hK;obtain⟨xs,ys,x,y,hq,hq2,hx,hy⟩:=hg;obtain⟨its,rv,p,hz⟩:=I.list hq;obtain⟨jts,rv2,p2,hz2⟩:=I.tuple hq2;obtain⟨u,hu,ru⟩:=rv.get hx;obtain⟨v,hv,rv'⟩:=rv2.get hy;obtain⟨⟨old,he⟩,za⟩:=st;have p2':s.heap.IsTuple b jts.toArray:=by
   obtain⟨o,q,c,n,d⟩:=p2;exact⟨o,q,c,n,d⟩
  refine Ar D he za p.isList p2' (x:=u) (y:=v) (by simpa using hu) (by simpa using hv) ne λ h1 eo za1 pr tu kk=>?_
  refine⟨_,rfl,wpAny_letOwnedTupleGo_enum (s:={ s with heap:=h1,toks:=s.toks+1 }) eo λ h2 he2 sb=>?_⟩
  have sb':Heap.SameBut e h1 h2:=sb;have el:=Heap.lt_size he;have na:s.heap.objs.size≠e:=Nat.ne_of_gt el;have nb:s.heap.objs.size+1≠e:=Nat.ne_of_gt (Nat.lt_succ_of_lt el);have pr2:IsPair h2 s.heap.objs.size u v:=(sb'.2 _ na).trans pr;have tu2:=(sb'.2 _ nb).trans tu;have f1:H s.heap.objs.size=none:=I.hok.fresh (Nat.le_refl _);have f2:H (s.heap.objs.size+1)=none:=I.hok.fresh (Nat.le_succ _);refine⟨.ref (s.heap.objs.size+1),ae (ae H s.heap.objs.size (.tup [x,y])) (s.heap.objs.size+1) (.tup [.int i,.ref s.heap.objs.size]),?_,rfl,⟨_,_,x,y,rfl,f1,f2,Nat.succ_ne_self _,rfl,λ xs' ys' g1 g2=>⟨by rw [I.list_inj g1 hq];exact hx,by rw [I.tuple_inj g2 hq2];exact hy⟩⟩,⟨⟨_,he2⟩,za1.keep λ c hc o q=>(sb'.2 c (ne c hc)).trans q⟩,λ c hc=>?_⟩
  ·refine sR (t':=s.toks+1) (ch:=[e,z,TI,TO,i1,i2]) I hf (λ c o hc q=>?_) ?_ ?_
   ·simp only [List.mem_cons,List.not_mem_nil,or_false,not_or] at hc;exact(sb'.2 c hc.1).trans (kk c o hc.1 hc.2.1 hc.2.2.2.1 hc.2.2.2.2.1 hc.2.2.2.2.2 q)
   ·exact⟨by show 2<=sizeLine;decide,[u,v],.cons ru (.cons rv' .nil),⟨_,pr2,rfl,_,rfl⟩⟩
   ·exact⟨by show 2<=sizeLine;decide,[.int i s.toks,.ref s.heap.objs.size],.cons ⟨_,rfl⟩ (.cons rfl .nil),⟨_,tu2,rfl,_,rfl⟩⟩
  ·have q:=hf c hc;have st1:c<s.heap.objs.size:=by
    obtain⟨⟨f0,bb,zo,ow⟩,ti,⟨ta,tb,to⟩,⟨oa,ha,_,_⟩,⟨ob,hb,_,_⟩⟩:=za;simp only [List.mem_cons,List.not_mem_nil,or_false] at hc;rcases hc with rfl | rfl | rfl | rfl | rfl | rfl
    ·exact el
    ·exact Heap.lt_size zo
    ·exact Heap.lt_size ti
    ·exact Heap.lt_size to
    ·exact Heap.lt_size ha
    ·exact Heap.lt_size hb
   rw [ag (Nat.ne_of_lt (Nat.lt_succ_of_lt st1)),ag (Nat.ne_of_lt st1)];exact q.1
 done:=by
  intro X hP hw hK hc i pins s σ H E I hf st hg;subst hP hw hK;obtain⟨xs,ys,hq,hq2,hn⟩:=hg;obtain⟨its,rv,p,hz⟩:=I.list hq;obtain⟨jts,rv2,p2,hz2⟩:=I.tuple hq2;obtain⟨⟨old,he⟩,za⟩:=st;have p2':s.heap.IsTuple b jts.toArray:=by
   obtain⟨o,q,c,n,d⟩:=p2;exact⟨o,q,c,n,d⟩
  have l1:=rv.length;have l2:=rv2.length;refine pS (I.ok.hd hc) D he za p.isList p2' ?_ λ h1 kk=>⟨rfl,sY (t':=s.toks) (ch:=[e,z,TI,TO,i1,i2]) I hf λ c o hc' q=>?_⟩
  ·rcases hn with h | h
   ·exact .inl (by simp;omega)
   ·exact .inr (by simp;omega)
  ·simp only [List.mem_cons,List.not_mem_nil,or_false,not_or] at hc';exact kk c o hc'.2.1 hc'.2.2.2.1 hc'.2.2.2.2.1 hc'.2.2.2.2.2 q
 self:=λ _ _ _ _ _ st h=>wpAny_pyIter_enum st.1.choose_spec h
end My
namespace My
open PySem PySem.W L2
open PyProof.Rows (Call_ boot_enumerate)
theorem uc {n l t:Nat}(h1:l<n)(h2:t<n):sH (n+4) (n+2) (n+3) n (n+1) l t:=by
 constructor <;>(show(_:Nat)≠(_:Nat)) <;> omega
theorem u9 {c m n:Nat}(hm:m=n+5)(hc:c ∈ [n+4,n+2,n+3,n,n+1]):c≠m:=by
 simp only [List.mem_cons,List.not_mem_nil,or_false] at hc;omega
theorem uo {c m n:Nat}(hm:m=n+5)(hc:c ∈ [m,n+4,n+2,n+3,n,n+1]):n<=c:=by
 simp only [List.mem_cons,List.not_mem_nil,or_false] at hc;omega
section
variable {X:Cx}
def Gr (K:Frag)(ta:TA):TI:=λ σ H R=>ta σ H λ vs H1=>∃ l t,vs=[.ref l,.ref t]/\(∃ xs,SqL K H1 l xs)/\(∃ ys,SqT K H1 t ys)/\R (BE K l t) H1
theorem Al {elts:List Expr} {x1}{pt:Pos}{a b:Expr}{ta:TA}{p p2 pos pos2:Pos}(hg:Gl X "enumerate")(hm:X.mg "enumerate" = none)(hg2:Gl X "zip")(hm2:X.mg "zip" = none)(ha:PA X [a,b] ta)
  (hs:starEach [.Call (.Name "zip" p2) [a,b] [] pos2] X.env=[(false,eval (.Call (.Name "zip" p2) [a,b] [] pos2) X.env)]:=by rfl)(he:starEach (a :: [b]) X.env=(false,eval a X.env)::starEach [b] X.env:=by rfl)(hpl:(backTo pos2 (starEach [b] X.env)).any (·.1)=false:=by rfl) :
  PI X (.Tuple elts x1 pt) (.Call (.Name "enumerate" p) [.Call (.Name "zip" p2) [a,b] [] pos2] [] pos) (Gr X.K ta):=by
 intro pins s σ H R I h;refine Call_ (fw I hg hm boot_enumerate (PyProof.Rows.callWith_type1 ?_ hs rfl));rw [hs];show wpAny _ _ (spliced ((false,eval (.Call (.Name "zip" p2) [a,b] [] pos2) X.env) :: [])) _ _ s;refine Calls.spliced_cons (wpAny_Call_Name_kw (fw I hg2 hm2 PyProof.Rows.boot_zip (PyProof.Rows.callWith_type1 (aK (ha pos2 pins s σ H _ I h) λ us s1 ⟨vs,H1,I1,r1,q1⟩=>?_) he hpl)));obtain⟨l,t,rfl,⟨xs,hq⟩,⟨ys,hq2⟩,q⟩:=q1;cases r1 with
 | cons r rr =>
  cases r;cases rr with
  | cons r' rr' =>
   cases r';cases rr';obtain⟨its,rv,pl,hz⟩:=I1.list hq;obtain⟨jts,rv2,p2',hz2⟩:=I1.tuple hq2;have ht:s1.heap.IsTuple t jts.toArray:=by
    obtain⟨o,q,c,n,d⟩:=p2';exact⟨o,q,c,n,d⟩
   have lt1:l<s1.heap.objs.size:=by
    obtain⟨o,q,_⟩:=pl.isList;exact Heap.lt_size q
   have lt2:t<s1.heap.objs.size:=by
    obtain⟨o,q,_⟩:=ht;exact Heap.lt_size q
   refine tQ pl.isList ht λ h2 iz za sz2 k2=>Calls.spliced_nil ?_;refine pH (s:={ s1 with heap:=h2 }) iz λ h3 en sz3 k3=>?_
   have sz3:h3.objs.size=h2.objs.size+1:=sz3;have en:IsEnum h3 h2.objs.size (s1.heap.objs.size+4) 0 .none:=en;have k3:∀ b o,h2.get? b=some o->h3.get? b=some o:=k3;refine wpAny_pyIter_enum en ?_;have D:sH (s1.heap.objs.size+4) (s1.heap.objs.size+2) (s1.heap.objs.size+3) s1.heap.objs.size (s1.heap.objs.size+1) l t:=uc lt1 lt2;refine⟨h2.objs.size,[h2.objs.size,s1.heap.objs.size+4,s1.heap.objs.size+2,s1.heap.objs.size+3,s1.heap.objs.size,s1.heap.objs.size+1],_,_,H1,rfl,I1.kept (t':=s1.toks) (λ c o e=>k3 _ _ (k2 _ _ e)),qc l t _ _ _ _ _ _ D (λ c hc=>?_),⟨⟨_,en⟩,za.keep λ c _ o e=>k3 c o e⟩,λ c hc=>?_,q⟩
   ·exact u9 (show h2.objs.size=s1.heap.objs.size+5 from sz2) hc
   ·have le:s1.heap.objs.size<=c:=uo (show h2.objs.size=s1.heap.objs.size+5 from sz2) hc;exact I1.fpOk le (I1.hok.fresh le)
end
theorem wX {K:Frag}{a b:Addr}{xs ys:List V}{g:TG}{tb:TS}{D:cw}{σ:St}{H:Hp}(Pv:Nat->St->Hp->Prop)(h0:Pv 0 σ H)(hl:∀ i σ H,i<=min xs.length ys.length->Pv i σ H->SqL K H a xs/\SqT K H b ys)
  (hs:∀ i x y σ H q p,xs[i]?=some x->ys[i]?=some y->Pv i σ H->H q=none->H p=none->p≠q->g (.ref p) σ (ae (ae H q (.tup [x,y])) p (.tup [.int i,.ref q])) λ σ2 H2=>tb { D with nx:=Pv (i+1),ct:=Pv (i+1),bk:=D.nx } σ2 H2)(hd:∀ σ H,Pv (min xs.length ys.length) σ H->D.nx σ H) :
  ∃ W:Nat->Nat->St->Hp->Prop,(∃ m,W 0 m σ H)/\∀ i m σ H,W i m σ H ->
   ((BE K a b).stop i H/\D.nx σ H)\/((BE K a b).go i H/\∃ N:St->Hp->Prop,(∀ σ' H',N σ' H'->∃ m',m'<m/\W (i+1) m' σ' H')/\∀ x H',(BE K a b).yld i H x H'->g x σ H' λ σ2 H2=>tb { D with nx:=N,ct:=N,bk:=D.nx } σ2 H2):=by
 refine⟨λ i m σ H=>m=min xs.length ys.length-i/\i<=min xs.length ys.length/\Pv i σ H,⟨min xs.length ys.length,by omega,Nat.zero_le _,h0⟩,?_⟩
 rintro i m σ H ⟨rfl,hi,pv⟩;obtain⟨q1,q2⟩:=hl i σ H hi pv;by_cases hlt:i<min xs.length ys.length
 ·have l1:i<xs.length:=by omega
  have l2:i<ys.length:=by omega
  refine .inr ⟨⟨xs,ys,xs[i],ys[i],q1,q2,List.getElem?_eq_getElem l1,List.getElem?_eq_getElem l2⟩,Pv (i+1),λ σ' H' n=>⟨min xs.length ys.length-(i+1),by omega,rfl,hlt,n⟩,λ v H' yl=>?_⟩
  obtain⟨q,p,x,y,rfl,hq,hp,ne,rfl,at'⟩:=yl;obtain⟨e1,e2⟩:=at' xs ys q1 q2;exact hs i x y σ H q p e1 e2 pv hq hp ne
 ·have e:i=min xs.length ys.length:=by omega
  subst e;exact .inl ⟨⟨xs,ys,q1,q2,by omega⟩,hd σ H pv⟩
end My
namespace My
open PySem PySem.W L2
def R0.word:R0->Str
 | .split _ _ => "split"
 | .pairs _ _ _ => "pairs"
 | .coins _ _ _ _ => "coins"
theorem R0.word_ne (r:R0):r.word ≠ "first" /\ r.word ≠ "blocks" := by
 cases r with
 | split n k=>exact⟨(by decide +kernel:(("split" : String):Str)≠(("first" : String):Str)),(by decide +kernel:(("split" : String):Str)≠(("blocks" : String):Str))⟩
 | pairs n x y=>exact⟨(by decide +kernel:(("pairs" : String):Str)≠(("first" : String):Str)),(by decide +kernel:(("pairs" : String):Str)≠(("blocks" : String):Str))⟩
 | coins n x y f=>exact⟨(by decide +kernel:(("coins" : String):Str)≠(("first" : String):Str)),(by decide +kernel:(("coins" : String):Str)≠(("blocks" : String):Str))⟩
def R0.isP:R0->Bool
 | .pairs _ _ _=>true
 | _=>false
theorem R0.word_p (r:R0):decide (V.str r.word=V.str "pairs")=r.isP:=by
 cases r with
 | split n k=>exact decide_eq_false λ z=>absurd (V.str.inj z) (by decide +kernel:(("split" : String):Str)≠(("pairs" : String):Str))
 | pairs n x y=>exact decide_eq_true rfl
 | coins n x y f=>exact decide_eq_false λ z=>absurd (V.str.inj z) (by decide +kernel:(("coins" : String):Str)≠(("pairs" : String):Str))
def Rl.base:Rl->List R0
 | .one r=>[r]
 | .blocks rs=>rs
 | .first t _=>t.base
def Rl.high:Rl->Nat
 | .first t _=>t.high+1
 | _=>0
theorem kh {H:Hp}{v:V}{ds:List PyData}(r:Rds H v (.tuple ds)):∃ a xs,v=.ref a/\H a=some (.tup xs)/\RdsAll H xs ds:=by
 cases r with
 | tup ha rs=>exact⟨_,_,rfl,ha,rs⟩
theorem f8 {H:Hp}{v:V}{z:Str}{ds:List PyData}(r:Rds H v (.tuple (.str z::ds))):∃ a xs,v=.ref a/\H a=some (.tup (.str z::xs))/\RdsAll H xs ds:=by
 obtain⟨a,xs,rfl,ha,rs⟩:=kh r;cases rs with
 | cons r1 rs=>cases r1;exact⟨a,_,rfl,ha,rs⟩
theorem R0.mark {H:Hp}{v:V}{r:R0}(h:Rds H v r.told):∃ a xs,v=.ref a/\H a=some (.tup (.str r.word::xs)):=by
 cases r with
 | split n k=>obtain⟨a,xs,e,ha,_⟩:=f8 h;exact⟨a,xs,e,ha⟩
 | pairs n x y=>obtain⟨a,xs,e,ha,_⟩:=f8 h;exact⟨a,xs,e,ha⟩
 | coins n x y f=>obtain⟨a,xs,e,ha,_⟩:=f8 h;exact⟨a,xs,e,ha⟩
theorem mN {H:Hp}{v:V}{t:Rl}{m:Int}(h:Rds H v (Rl.first t m).told):∃ a u w,v=.ref a/\H a=some (.tup [.str "first",u,w])/\Rds H u t.told:=by
 obtain⟨a,xs,rfl,ha,rs⟩:=f8 h;cases rs with | cons r2 rs=>cases rs with | cons r3 rs=>cases rs;exact⟨a,_,_,rfl,ha,r2⟩
theorem k9 {H:Hp}{v:V}{rs0:List R0}(h:Rds H v (Rl.blocks rs0).told):∃ a b ys,v=.ref a/\H a=some (.tup [.str "blocks",.ref b])/\H b=some (.tup ys)/\RdsAll H ys (rs0.map R0.told):=by
 obtain⟨a,xs,rfl,ha,rs⟩:=f8 h;cases rs with | cons r2 rs=>cases rs;obtain⟨b,ys,rfl,hb,ry⟩:=kh r2;exact⟨a,b,ys,rfl,ha,hb,ry⟩
section
variable {P:Program}{w:World}{K:Frag}{mg:Str->Option Value}{base:Heap}{C:Nat->Addr}{CR f a1:Addr}{fd d1:FuncData}
abbrev DO:Stmt:=bR 58
def Ay (C:Nat->Addr):Sp:=λ vs H Q _=>∃ v t,vs=[v]/\Ru C H t v/\∀ p ms H',Ext H H'->H' p=some (.tup ms)->RdsAll H' ms (t.base.map R0.told)->Q (.ref p) H'
theorem scBM:ad ["rule","mark"] ["rule"] (aa DO):=aJ
theorem B9 (F:Fun K "block_marks" "block_marks" DO f fd)(M:Ms P w K mg base C):FnOk P w K mg base aq 2 f fd ["rule"] (Ay C):=by
 refine F.ok scBM (λ vs H Q E h=>?_) (λ cdv A outer s H vs Q E hr h=>?_)
 ·obtain⟨_,_,rfl,_⟩:=h;rfl
 obtain⟨v,t,rfl,ru,q⟩:=h;have nd:=scBM.nd;refine⟨_,bZ (gW (i:=1) nd rfl (Or.inl rfl) (bL (pv 0) M.told hr ah))
  (bZ (kU PassesOwn.never (av cT (c8 kD (pv 1) az) bh (au _)) (bc (gW (i:=1) nd rfl (Or.inl rfl) (c8 kD (pv 1) az))))
  (bc (cZ (kB (av cT (c8 kD (pv 1) az) bh (au _)) (c8 kD (pv 1) az) (bJ (ac (pv 1) ao)))))),?_⟩
 refine bV (t:=t) (by decide +kernel) ru (λ R r=>⟨_,rfl,r⟩) ⟨v,t,H,rfl,Ext.refl _,ru,λ b rb=>?_⟩
 refine⟨λ n σ H'=>H'=H/\∃(t':Rl)(b':V),t'.high=n/\t'.base=t.base/\Rds H b' t'.told/\σ=[some v,some b'],⟨t.high,rfl,t,b,rfl,rfl,rb,rfl⟩,?_⟩;rintro n σ H' ⟨rfl,t',b',hh,hb,rb',rfl⟩;cases t' with
 | one r =>
  obtain⟨a,xs,rfl,ha⟩:=R0.mark rb';refine⟨_,rfl,a,_,_,_,rfl,rfl,SqT.of ha,dL (j:=0) rfl,rfl,_,rfl,?_⟩;rw [decide_eq_false (λ z=>r.word_ne.1 (V.str.inj z))];refine cH ⟨_,rfl,a,_,_,_,rfl,rfl,SqT.of ha,dL (j:=0) rfl,rfl,_,rfl,?_⟩;rw [decide_eq_false (λ z=>r.word_ne.2 (V.str.inj z))];refine cH ⟨_,rfl,by show 1<=sizeLine;decide,λ p hp=>?_⟩
  have x:=Ext.new (o:=.tup [.ref a]) hp;refine q p _ _ x aR ?_;rw [<- hb];exact .cons (rb'.mono x) .nil
 | blocks rs =>
  obtain⟨a,c,ys,rfl,ha,hc,ry⟩:=k9 rb';refine⟨_,rfl,a,_,_,_,rfl,rfl,SqT.of ha,dL (j:=0) rfl,rfl,_,rfl,?_⟩;rw [decide_eq_false (by intro z;exact absurd (V.str.inj z) (by decide +kernel))]
  refine cH ⟨_,rfl,a,_,_,_,rfl,rfl,SqT.of ha,dL (j:=0) rfl,rfl,_,rfl,?_⟩;rw [decide_eq_true rfl];refine cW ⟨_,rfl,a,_,_,_,rfl,rfl,SqT.of ha,dL (j:=1) rfl,?_⟩;refine q c ys _ (Ext.refl _) hc ?_;rw [<- hb];exact ry
 | first t2 m =>
  obtain⟨a,u,w',rfl,ha,ru'⟩:=mN rb';refine⟨_,rfl,a,_,_,_,rfl,rfl,SqT.of ha,dL (j:=0) rfl,rfl,_,rfl,?_⟩;rw [decide_eq_true rfl];refine cW ⟨λ σ' H2=>∃ m',m'<n/\H2=H'/\∃(t':Rl)(b':V),t'.high=m'/\t'.base=t.base/\Rds H' b' t'.told/\σ'=[some v,some b'],λ σ' H2 h=>?_,?_⟩
  ·obtain⟨m',lt,e,r⟩:=h;exact⟨m',lt,e,r⟩
  ·refine⟨_,rfl,a,_,_,_,rfl,rfl,SqT.of ha,dL (j:=1) rfl,?_⟩;exact⟨t2.high,by rw [<- hh];exact Nat.lt_succ_self _,rfl,t2,u,rfl,hb,ru',rfl⟩
def lS (t:Rl):List Bool:=List.zipWith (λ (p:List Int)(r:R0)=>r.isP&&decide (p.length%2=0)) t.parts t.base
abbrev DM:Stmt:=bR 59
def Ci (C:Nat->Addr)(CN:Addr):Sp:=λ vs H Q E=>∃ v t,vs=[v]/\Ru C H t v/\t.parts.length<=20/\(∀ p∈t.parts,p.length<=20)/\((lS t).all id=true->∀ H',Ext H H'->Q .non H')/\∀ i,fB (lS t) i->∀ H',Ext H H'->cF CN "block" (.int (i:Nat)) H' E
theorem scNP:ad ["rule","number","block","mark"] ["rule"] (aa DM):=aJ
theorem B6 {D CN fC:Addr}{fdC:FuncData}(F:Fun K "need_pairs" "need_pairs" DM f fd)(M:Ms P w K mg base C)(B:BaseC K D)(T:fz K mg D "NoPairs" "block" CN fC fdC)(A1:Df P w K mg base aq 2 "block_marks" ["rule"] (Ay C) a1 d1)(me:mg "enumerate" = none)(mz:mg "zip" = none)(ml:mg "len" = none):FnOk P w K mg base (cC P w) 3 f fd ["rule"] (Ci C CN):=by
 refine la F scNP (λ vs H Q E h=>?_) (λ cdv A outer s H vs Q E hr h=>?_)
 ·obtain⟨_,_,rfl,_⟩:=h;rfl
 obtain⟨v,t,rfl,ru,l20,p20,qn,qe⟩:=h;have nd:=scNP.nd;have hr1:Room 1 _:=hr.mono (by decide)
 refine⟨_,bc (cJ PassesOwn.leaving rfl (Al rfl me rfl mz (ac (bL (pv 0) M.blocks hr1 ah) (ac (bK A1.G hr rfl A1.m A1.kp A1.b .nil ah (ac (pv 0) ao)) ao)))
   (bI rfl (dX (bU (i:=1) nd rfl (Or.inl rfl)) (dX (bI rfl (dX (bU (i:=2) nd rfl (Or.inl rfl)) (dX (bU (i:=3) nd rfl (Or.inl rfl)) ba))) ba)))
   (bc (bB (PW.pt (gk (av fK (c8 kD (pv 3) az) bh (au _)) (eB (av cT (aj dG (ai ar rfl ml PySem.boot_len (ac (pv 2) ao)) az) az (au _)))))
    (bc (cz B T.cls (T.ok P w base) hr T.bi rfl T.mgC (pv 1))) gz))),?_⟩
 refine bV (t:=t) (by decide +kernel) ru (λ R r=>⟨_,rfl,r⟩) ⟨v,t,rfl,ru,l20,p20,λ l bs H1 x1 nl hl lb fb nbs hbs=>?_⟩
 refine⟨_,rfl,v,t,rfl,ru.ext x1,λ p ms H2 x2 hp rm=>?_⟩;have hl2:=x2 _ _ hl;have lm:=rm.length;rw [List.length_map] at lm;have len:(lS t).length=min (bs.map V.ref).length ms.length:=by
  unfold lS;rw [List.length_zipWith,List.length_map,nbs,lm]
 refine⟨l,p,rfl,⟨_,SqL.of hl2⟩,⟨_,SqT.of hp⟩,wX (xs:=bs.map V.ref) (ys:=ms) (λ i σ H'=>Ext H2 H'/\(∀(j:Nat) b,j<i->(lS t)[j]?=some b->b=true)/\∃ o1 o2 o3,σ=[some v,o1,o2,o3]) ⟨Ext.refl _,λ j d h=>absurd h (Nat.not_lt_zero _),_,_,_,rfl⟩ ?_ ?_ ?_⟩
 ·rintro i σ H' _ ⟨x',_⟩;exact⟨SqL.of (x' _ _ hl2),SqT.of (x' _ _ hp)⟩
 ·rintro i x y σ H' q1 p1 ex ey ⟨x',good,o1,o2,o3,rfl⟩ hq hp1 ne;have xa:=Ext.new (o:=.tup [x,y]) hq;have hp1':ae H' q1 (.tup [x,y]) p1=none:=by rw [ag ne];exact hp1
  have xb:=Ext.new (o:=.tup [.int (i:Nat),.ref q1]) hp1';have x3:=(x'.trans xa).trans xb;have gq:=xb _ _ (show ae H' q1 (.tup [x,y]) q1=some (.tup [x,y]) from aR);have gp:ae (ae H' q1 (.tup [x,y])) p1 (.tup [.int (i:Nat),.ref q1]) p1=some (.tup [.int (i:Nat),.ref q1]):=aR;generalize ae (ae H' q1 (.tup [x,y])) p1 (.tup [.int (i:Nat),.ref q1])=H3 at x3 gq gp ⊢;rw [List.getElem?_map] at ex;obtain⟨b,eb,rfl⟩:=Option.map_eq_some_iff.mp ex;obtain⟨d,ed,rd⟩:=rm.get ey;rw [List.getElem?_map] at ed;obtain⟨r,er,rfl⟩:=Option.map_eq_some_iff.mp ed;have li:i<t.parts.length:=by rw [<- nbs];exact(List.getElem?_eq_some_iff.mp eb).1
  have ep:=List.getElem?_eq_getElem li;have hb:=x3 _ _ (x2 _ _ (hbs i b _ eb ep));obtain⟨m,zs,rfl,hm⟩:=R0.mark (rd.mono x3);have em:(lS t)[i]?=some (r.isP&&decide (t.parts[i].length%2=0)):=by
   unfold lS;rw [List.getElem?_zipWith,ep,er]
  refine⟨p1,_,rfl,SqT.of gp,rfl,_,_,rfl,_,_,rfl,q1,_,rfl,SqT.of gq,rfl,_,_,rfl,_,_,rfl,rfl,rfl,?_⟩;have bad:(r.isP&&decide (t.parts[i].length%2=0))=false->cF CN "block" (.int (i:Nat)) H3 E:=λ e=>qe i ⟨good,by rw [em,e]⟩ _ ((x1.trans x2).trans x3)
  have next:(r.isP&&decide (t.parts[i].length%2=0))=true->(Ext H2 H3/\(∀(j:Nat) b,j<i+1->(lS t)[j]?=some b->b=true)):=λ e=>⟨x3,λ j d' hj hd=>by
   rcases Nat.lt_or_ge j i with lt | ge
   ·exact good j d' lt hd
   ·have e0:j=i:=by omega
    subst e0;rw [em,e] at hd;cases hd;rfl⟩
  refine⟨_,rfl,m,_,_,_,rfl,rfl,SqT.of hm,dL (j:=0) rfl,rfl,_,rfl,?_⟩;rw [R0.word_p];cases hp:r.isP with
  | false=>exact cW (cW ⟨_,rfl,λ e' dx h1 h2 nd=>eR nd (bad (by rw [hp];rfl) e' dx h1 h2 nd)⟩)
  | true =>
   refine cH ⟨_,rfl,b,_,rfl,.inl (SqL.of hb),_,_,rfl,rfl,(by show(0:Int)<2;decide),rfl,_,rfl,?_⟩
   rw [List.length_map];by_cases e:t.parts[i].length%2=0
   ·rw [decide_eq_false (λ z=>by have z':=V.int.inj z;omega)]
    obtain⟨xx,gg⟩:=next (by rw [hp,decide_eq_true e];rfl)
    exact cH ⟨xx,gg,_,_,_,rfl⟩
   ·have one:((t.parts[i].length:Nat):Int)%2=1:=by omega
    rw [decide_eq_true (show V.int (((t.parts[i].length:Nat):Int)%2)=V.int 1 from by rw [one])]
    exact cW ⟨_,rfl,λ e' dx h1 h2 nd=>eR nd (bad (by rw [hp,decide_eq_false e];rfl) e' dx h1 h2 nd)⟩
 ·rintro σ H' ⟨x',good,o1,o2,o3,rfl⟩;refine qn ?_ H' ((x1.trans x2).trans x');rw [List.all_eq_true];intro d hd;obtain⟨j,hj,e⟩:=List.getElem_of_mem hd;exact good j d (by rw [<- len];exact hj) (by rw [List.getElem?_eq_getElem hj,e])
def nj (H:Hp)(ns:List Int)(Q:VK):Prop:=∀ l H',Ext H H'->H l=none->H' l=some (.lst (ns.map V.int))->Q (.ref l) H'
abbrev um:Stmt:=ay (bR 61) 2
def sy (sc:List (Int × Bool)->List Int):Sp:=λ vs H Q _=>∃ v a xs os,vs=[v,.ref a]/\H a=some (.lst xs)/\pk H xs os/\os.length<=20/\nj H (sc os) Q
theorem Cw:ad ["self","outcomes"] ["self","outcomes"] (aa um):=aJ
abbrev BB:Scope:={ kind:=.function,names:=[(".0",.local),("number",.local),("sure",.local)],isGenerator:=false,isCoroutine:=false }
theorem qW {X:Cx}:aU X BB [] ["number","sure"] [] []:=by
 refine⟨rfl,rfl,by decide +kernel,by decide +kernel,by decide +kernel,(λ z c h=>nomatch h),(λ z h=>?_),by decide +kernel,(λ k z h=>by simp at h),rfl⟩
 exfalso;have h':List.lookup z [((".0" : Str),NameKind.local),(("number" : Str),NameKind.local),(("sure" : Str),NameKind.local)]=some .cell\/List.lookup z [((".0" : Str),NameKind.local),(("number" : Str),NameKind.local),(("sure" : Str),NameKind.local)]=some .free:=h;simp only [List.lookup_cons,List.lookup_nil] at h'
 repeat' (split at h')
 all_goals simp at h'
theorem uM:((["number","sure"]:List Str)++([]:List Str)).Nodup:=by decide +kernel
def sB (K:Frag):TG:=qH K 2 (eY (aP 0) (eY (aP 1) oK))
theorem jR {i:Nat}{σ:St}{H:Hp}{a:Addr}{xs:List V}{os:List (Int × Bool)}{Q:VK}(si:σ[i]?=some (some (.ref a)))(ha:H a=some (.lst xs))(oc:pk H xs os)(lo:os.length<=20)(q:nj H (os.map (·.1)) Q):c7 (aZ K (af i)) 2 [] (sB K) (af 0) σ H Q:=by
 obtain⟨lx,oc⟩:=oc;refine⟨_,si,a,rfl,⟨_,SqL.of ha⟩,λ D hD=>?_⟩;refine bz (a:=a) (xs:=xs) (λ i ys H'=>Ext H H'/\ys=((os.take i).map (·.1)).map V.int) (by rw [sizeLine_eq];omega) ⟨Ext.new hD,rfl⟩ (λ i ys H' pv=>SqL.of (pv.1 _ _ ha)) ?_ ?_
 ·rintro i x ys H' ex ly hDD ⟨x',ey⟩ oss los R k;obtain⟨o0,o1,rfl⟩:∃ o0 o1,oss=[o0,o1]:=by
   match oss,los with
   | [o0,o1],_=>exact⟨o0,o1,rfl⟩
  have li:i<os.length:=by rw [<- lx];exact(List.getElem?_eq_some_iff.mp ex).1
  have eo:=List.getElem?_eq_getElem li;obtain⟨p,rfl,hp⟩:=oc i x _ ex eo;refine⟨p,_,rfl,SqT.of (x' _ _ hp),rfl,_,_,rfl,_,_,rfl,rfl,⟨[some (.int os[i].1),some (.bl os[i].2)],rfl,rfl⟩,_,rfl,?_⟩;refine k _ H' hDD ⟨aO _ x' hD,?_⟩;rw [aA eo,List.map_append,List.map_append,<- ey];rfl
 ·rintro ys H' ly hDD ⟨x',ey⟩;rw [lx,List.take_length] at ey;rw [ey] at hDD;exact q D H' x' hD hDD
theorem zS (F:Fun K "among" "Sum.among" um f fd):FnOk P w K mg base aq 1 f fd ["self","outcomes"] (sy λ os=>os.map (·.1)):=by
 refine F.ok Cw (λ vs H Q E h=>?_) (λ cdv A outer s H vs Q E hr h=>?_)
 ·obtain⟨_,_,_,_,rfl,_⟩:=h;rfl
 obtain⟨v,a,xs,os,rfl,ha,oc,lo,q⟩:=h;refine⟨_,bc (cZ (bT (te:=af 0) (g:=sB K) rfl qW (aE (pv 1)) (λ s H C fp=>by exact bI rfl (dX (bU (i:=0) uM rfl (.inl rfl)) (dX (bU (i:=1) uM rfl (.inl rfl)) ba))) (λ s H C fp=>by exact pv 0))),?_⟩
 exact jR rfl ha oc lo q
variable {X:Cx}
def mK (K:Frag):List V->Hp->VK->Prop:=λ xs H Q=>∃(p:Addr)(ns:List Int),xs=[.ref p]/\SqL K H p (ns.map V.int)/\ns.length<64/\∀(l:Addr)(ns':List Int),H l=none->ns'.Perm ns->ns'.Pairwise (· <= ·)->Q (.ref l) (ae H l (.lst (ns'.map V.int)))
theorem mH:cG X (.builtin "sorted") (mK X.K):=by
 intro pins s σ H xs us Q I r h;obtain⟨p,ns,rfl,hq,hl,q⟩:=h;obtain⟨u,rfl,rx⟩:=dA r;cases rx;obtain⟨its,r',pl,hz⟩:=I.list hq;have hlen:=r'.length;rw [List.length_map] at hlen;refine PyProof.Rows.sorted_ints (vs:=its) pl.isList (ii r') (by omega) λ out ns' a1 a2 a3=>?_
 obtain⟨e,he⟩:=PyProof.Rows.sortedAll_at s.heap its out;refine⟨.ref (s.heap.objs.size+1),_,I.laid (t':=s.toks) (λ _ _=>PyProof.Rows.sortedAll_old) (Nat.le_succ _) (show ObjOk X.prog X.w _ _ _ (.lst (ns'.map V.int)) from⟨?_,out.toList,e,gw a1,?_⟩),rfl,q _ ns' (I.hok.fresh (Nat.le_succ _)) a2 a3⟩
 ·rw [List.length_map,a2.length_eq,sizeLine_eq];omega
 ·exact he
def vm (K:Frag):V->List V->Hp->VK->Prop:=λ x vs H Q=>∃(l:Addr)(ns:List Int)(k:Int),x=.ref l/\vs=[.int k]/\SqL K H l (ns.map V.int)/\k∈ns/\Q (.int (ns.idxOf k:Nat)) H
theorem uk:Fk X "list.index" (vm X.K):=by
 intro pins s σ H x vs v us Q I rx rv h;obtain⟨l,ns,k,rfl,rfl,hl,hk,q⟩:=h;cases rx;obtain⟨u,rfl,ru⟩:=dA rv;obtain⟨t,e⟩:=(show ∃ t,u=Value.int k t from ru);subst e;obtain⟨its,r,pl,hz⟩:=I.list hl;have hi:=ii r;obtain⟨⟨cls,dd,data,sl⟩,ho,hc,n,hd⟩:=id pl.isList;simp only at hc hd;subst hc hd;have hlen:=hi.length;have hj:ns.idxOf k<ns.length:=List.idxOf_lt_length_iff.mpr hk;have hz':ns.length<=16777216:=by rw [List.length_map,sizeLine_eq] at hz;exact hz
 refine call_meets PySem.F.slot_list_index ⟨_,ho,rfl⟩ PySem.F.entry_list_index (PySem.F.args_list_index_2 _ _)
  (SeqAt.list_indexAt l its.toArray n dd sl (.int k t) (PyProof.Rows.isInt k) (ns.idxOf k) (by simpa [hlen] using hj) (by omega) ?_ ?_) ⟨ho,λ y hy=>(PyProof.Rows.eq_isInt k t hi y (by simpa using hy)).at _ _,⟨.int _,H,I.tok _,⟨_,rfl⟩,q⟩⟩
 ·show PyProof.Rows.isInt k its[ns.idxOf k]=true;rw [PyProof.Rows.isInt_at k hi _ (by omega) hj]
  simpa using List.getElem_idxOf hj
 ·intro j hjs hlt;have h1:j<ns.length:=by omega
  show PyProof.Rows.isInt k (its[j]'(by omega))=false
  rw [PyProof.Rows.isInt_at k hi _ (by omega) h1]
  have:=List.not_of_lt_findIdx hlt
  simpa using this
end
end My
namespace My
open PySem L2
section
variable {prog:Program}{w:World}{A:Around}{R:Result->Shared->Prop}{s:Shared}
theorem mh {kx vx target iter:Expr}{scope:Scope}{pos:Pos}{it:Value}{D:Addr}{env:Env}(J:Nat->Shared->Prop)
  (turn:∀ n s,J n s->wpAny (model prog w) A (pyNext it) (λ r s₁=>match r with
   | none=>R (.ok .next) s₁
   | some v=>wpAny (model prog w) A (letOwnedTupleGo target it v) (λ _ s₂=>wpAny (model prog w) A (assign target env v) (λ _ s₃=>wpAny (model prog w) A (eval kx env)
     (λ kv s₄=>wpAny (model prog w) A (eval vx env) (λ vv s₅=>wpAny (model prog w) A (dictSet D kv vv) (λ _ s₆=>∃ m,m<n/\J m s₆) (λ _ _=>False) s₅) (λ _ _=>False) s₄) (λ _ _=>False) s₃) (λ _ _=>False) s₂) (λ _ _=>False) s₁) (λ _ _=>False) s)
  (n:Nat)(h:J n s):codeAny (model prog w) A (.compLoop (.DictComp kx vx [⟨target,iter,[],0⟩] scope pos) 0 it (.ref D) env) R s:=by
 refine codeAny_loop rfl J (λ n s hJ=>?_) n h;show wpAny _ _ (Sem.onRaise (compTurn (.DictComp kx vx [⟨target,iter,[],0⟩] scope pos) 0 it (.ref D) env) (λ x=>do noteFrame x env;theTreesLotGoes x)) _ _ s
 refine wpAny_noted ?_;rw [compTurn_dict];refine wpAny_bind (wpAny_standAt (wpAny_bind (wpAny_mono (turn n s hJ) (λ r s₁ h₁=>?_) λ _ _ z=>z.elim)));cases r with
 | none=>exact wpAny_pure h₁
 | some v =>
  refine wpAny_bind (wpAny_mono h₁ (λ _ s₂ h₂=>?_) λ _ _ z=>z.elim);refine wpAny_bind (wpAny_mono h₂ (λ _ s₃ h₃=>?_) λ _ _ z=>z.elim);refine wpAny_bind (wpAny_pure ?_);exact wpAny_bind (wpAny_bind (wpAny_mono h₃ (λ kv s₄ h₄=>wpAny_bind (wpAny_holding (wpAny_mono h₄ (λ vv s₅ h₅=>wpAny_bind (wpAny_standAt (wpAny_holding (wpAny_mono h₅ (λ _ s₆ h₆=>wpAny_pure ⟨rfl,h₆⟩) λ _ _ z=>z.elim)))) λ _ _ z=>z.elim))) λ _ _ z=>z.elim))
variable {X:Cx}
theorem wR {pins:List (Addr × Obj)}{σ:St}{H:Hp}{s:Shared}{a:Addr}{kvs:List (Key × V)}{k:Key}{v:V}{u r:Value}{A:Around}{E:Value->Shared->Prop}{Q:Unit->Shared->Prop}(I:Inv X pins σ H s)(e:H a=some (.dK kvs))(l:kvs.length<sizeLine)(ry:RelV (kV k) u)(rv:RelV v r)
  (h:∀ s',Inv X pins σ (ae H a (.dK (ir kvs k v))) s'->Q () s'):wpAny (model X.prog X.w) A (dictSet a u r) Q E s:=by
 obtain⟨z,hd,vs,rel,dd⟩:=Cu I.hok e;refine wpAny_dictSet_pairs (rL ry) dd (λ h' dd' hs=>h _ ?_) (by rw [<- rel.length];exact z)
 have he:∃ q,h'.get? a=some q:=let ⟨q,_,_,hq,_⟩:=dd';⟨q,hq⟩
 exact uV I (by rw [e];exact True.intro) hs he (Aa (by have:=gN kvs k v;omega) hd (rel.put k rv) dd')
end
def At (wi:TI)(k:Nat)(js:List Nat)(g:TG)(tk tv:TE):TE:=λ σ H Q=>wi σ H λ J H1=>∀ D,H1 D=none->∃ W:Nat->Nat->List (Key × V)->Hp->Prop,(∃ m,W 0 m [] (ae H1 D (.dK []))) /\
 ∀ i m ys H2,W i m ys H2->H2 D=some (.dK ys)/\((J.stop i H2/\Q (.ref D) H2)\/(J.go i H2/\ys.length<sizeLine /\
  ∀ x H3,J.yld i H2 x H3->∀ os:St,os.length=k->g x (os++cu js σ) H3 λ σ2 H0=>(∃ os':St,os'.length=k/\σ2=os'++cu js σ)/\tk σ2 H0 λ y H4=>tv σ2 H4 λ v H5=>∃ key,y=kV key/\H5 D=some (.dK ys)/\∃ m',m'<m/\W (i+1) m' (ir ys key v) (ae H5 D (.dK (ir ys key v)))))
section
variable {X:Cx}{sc:Scope}{cl:List (Str × Addr)}{ts zs:List Str}{js:List Nat}{kx vx iter:Expr}{pos:Pos}{tg:Expr}{g:TG}{wi:TI}{tk tv:TE}
theorem zi (hc:X.calm=true)(S:aU X sc cl ts zs js)(hi:PI X tg iter wi)(hg:∀ s H C fp,PG (aT X sc cl (ts++zs) s H C fp) tg g)(hk:∀ s H C fp,PE (aT X sc cl (ts++zs) s H C fp) kx tk)(hv:∀ s H C fp,PE (aT X sc cl (ts++zs) s H C fp) vx tv)
  (hs:∀ v,foldedSetIterable iter X.env v=pure v:=by intro _;rfl):PE X (.DictComp kx vx [⟨tg,iter,[],0⟩] sc pos) (At wi ts.length js g tk tv):=by
 intro pins s σ H Q I h;rw [arm_eval_DictComp];refine wpAny_comprehension_free (use:=none) rfl hs S.clos S.kind S.names (aK (hi pins s σ H _ I h) λ v s1 h1=>aK h1 λ itv s2 h2=>?_);obtain⟨it,fp,tn,J,H2,e,I2,T,st2,f2,body⟩:=h2;subst e;have fr2:H2 s2.heap.objs.size=none:=I2.fresh;obtain⟨W,⟨m0,w0⟩,turn⟩:=body _ fr2;refine wpAny_newObj_type ?_;have I3:Inv X pins σ (ae H2 s2.heap.objs.size (.dK [])) { s2 with heap:=s2.heap.push { cls:=.type "dict",data:=.dict #[] } }:=I2.laid (a:=s2.heap.objs.size) (o:=.dK []) (t':=s2.toks) (λ _ _ q=>Heap.get?_push_of_some _ q) (Nat.le_refl _) (qZ s2.heap I2.big)
 refine wpAny_newFunctionEnv S.noCell (by intro y hy;simp at hy) (λ h₁ hn hsb=>?_) S.kind
 generalize hs3:({ s2 with heap:=s2.heap.push { cls:=.type "dict",data:=.dict #[] } }:Shared)=s3 at I3 hn hsb ⊢
 have fpl:∀ b∈fp,cD X pins (ae H2 s2.heap.objs.size (.dK [])) b/\b<s3.heap.objs.size:=λ b hb=>by
  obtain⟨o,ho,_⟩:=T.obj _ _ st2 b hb;have hl:=Heap.lt_size ho;have hne:b≠s2.heap.objs.size:=Nat.ne_of_lt hl;obtain⟨z1,z2⟩:=f2 b hb;refine⟨⟨by rw [ag hne];exact z1,z2⟩,?_⟩
  rw [<- hs3];show b<(s2.heap.push _).objs.size;rw [Heap.size_push];exact Nat.lt_succ_of_lt hl
 have old:∀ b o,s3.heap.get? b=some o->h₁.get? b=some o:=λ b o e=>hsb.extBut b o (Nat.ne_of_lt (Heap.lt_size e)) (Heap.get?_push_of_some _ e);have loop:∀ sS:Shared,sS.heap=h₁->sS.os=s3.os->sS.gens=s3.gens->codeAny (model X.prog X.w) X.A (.compLoop (.DictComp kx vx [⟨tg,iter,[],0⟩] sc pos) 0 (.ref it) (.ref s2.heap.objs.size) (compEnvC sc cl s3.heap.objs.size X.env))
   (compPost (model X.prog X.w) X.A X.xe none (EP X pins σ Q) (.ref s2.heap.objs.size) s3.heap.objs.size) sS:=by
  intro sS eh eo eg;subst eh;have J0:Inv (aT X sc cl (ts++zs) s3 (ae H2 s2.heap.objs.size (.dK [])) s3.heap.objs.size fp) [] (List.replicate ts.length none++cu js σ) (ae H2 s2.heap.objs.size (.dK [])) sS:=cR I3 S fpl (Nat.le_refl _) eo eg old hn;generalize hX:aT X sc cl (ts++zs) s3 (ae H2 s2.heap.objs.size (.dK [])) s3.heap.objs.size fp=X' at J0;have stat:∀{H':Hp},(∀ b∈fp,H' b=none)->∀ b∈fp,cD X' [] H' b:=λ {H'} hn b hb=>by
   subst hX;obtain⟨⟨_,z1,z2,z3,z4,z5⟩,z6⟩:=fpl b hb;refine⟨hn b hb,Nat.ne_of_lt z6,λ q=>?_,.inl hb,λ y c e=>z4 y c (S.sub _ _ e),λ p hp=>absurd (show p∈([]:List (Addr × Obj)) from hp) (by simp)⟩
   rcases List.mem_cons.mp (I3.stkSub b q) with e | e
   ·exact z1 e
   ·exact z2 e
  have st3:tn 0 sS.heap:=T.keep _ _ _ st2 λ b hb o e=>old b o (by rw [<- hs3];exact Heap.get?_push_of_some _ e)
  refine mh (λ n s'=>∃ i ys os H',os.length=ts.length/\Inv X' [] (os++cu js σ) H' s'/\tn i s'.heap/\(∀ b∈fp,H' b=none)/\W i n ys H') ?_ m0 ⟨0,[],_,_,List.length_replicate,J0,st3,λ b hb=>(fpl b hb).1.1,w0⟩;rintro n s' ⟨i,ys,os,H',los,Iv,st,fr,w⟩;obtain⟨hD,alt⟩:=turn i n ys H' w;have eP:X'.prog=X.prog:=by subst hX;rfl
  have eW:X'.w=X.w:=by subst hX;rfl
  have eK:X'.K=X.K:=by subst hX;rfl
  have eC:X'.calm=true:=by subst hX;exact hc
  have eA:X'.A=X.A:=by subst hX;rfl
  have eE:X'.env=compEnvC sc cl s3.heap.objs.size X.env:=by subst hX;rfl
  have eX:X'.xe = λ _ _=>False:=by subst hX;rfl
  rcases alt with⟨stop,q⟩ | ⟨go,hlen,step⟩
  ·have d:=T.done X' eP eW eK eC i [] s' _ H' (λ _ _=>False) Iv (stat fr) st stop;rw [eA] at d;refine aK d λ r s4 ⟨hr,I4⟩=>?_;subst hr;obtain⟨m,hm,_⟩:=id I4.loc;rw [eE] at hm;subst hX;exact⟨m,hm,λ h' hs'=>⟨.ref s2.heap.objs.size,H',dW I3 fpl (Nat.le_refl _) I4 hs',rfl,q⟩⟩
  ·have d:=T.item X' eP eW eK eC i [] s' _ H' (λ _ _=>False) Iv (stat fr) st go;rw [eA] at d;refine aK d λ r s4 ⟨u,hr,h4⟩=>?_;subst hr;refine aK h4 λ _ s5 ⟨y,H5,I5,r5,y5,st5,fr5⟩=>?_;have I5':=I5.pinned (stat fr5) (T.obj _ _ st5);have hg':PG X' tg g:=by subst hX;exact hg _ _ _ _
   have g6:=hg' _ s5 _ H5 y u _ I5' r5 (step y H5 y5 os los);rw [eP,eW,eA,eE,eX] at g6;refine aK g6 λ _ s6 ⟨σ6,H6,I6,⟨os',los',e6⟩,st6⟩=>?_;subst e6;have hk':PE X' kx tk:=by subst hX;exact hk _ _ _ _
   have g7:=hk' _ s6 _ H6 _ I6 st6;rw [eP,eW,eA,eE,eX] at g7;refine aK g7 λ ku s7 ⟨k7,H7,I7,rk7,st7⟩=>?_;have hv':PE X' vx tv:=by subst hX;exact hv _ _ _ _
   have g8:=hv' _ s7 _ H7 _ I7 st7;rw [eP,eW,eA,eE,eX] at g8;refine aK g8 λ uv s8 ⟨v8,H8',I8',r8,key,ek,hD8,m',hm',w8⟩=>?_;subst ek;have g9:=wR (X:=X') (A:=X'.A) (E:=X'.xe) (Q:=λ _ s9=>Inv X' _ _ (ae H8' s2.heap.objs.size (.dK (ir ys key v8))) s9) I8' hD8 hlen rk7 r8 λ s9 I9=>I9;rw [eP,eW,eA,eX] at g9;refine aK g9 λ _ s9 I8=>?_;refine⟨m',hm',i+1,ir ys key v8,os',_,los',I8.unpinned,T.keep _ _ _ st5 λ b hb o e=>(I8.pin (b,o) (List.mem_append_right _ (List.mem_append_right _ (aF hb e)))).1,λ b hb=>?_,w8⟩;obtain⟨o',e',_⟩:=T.obj _ _ st5 b hb;exact(I8.pin (b,o') (List.mem_append_right _ (List.mem_append_right _ (aF hb e')))).2.1
 have st1:tn 0 h₁:=T.keep _ _ _ st2 λ b hb o e=>old b o (by rw [<- hs3];exact Heap.get?_push_of_some _ e)
 exact codeAny_compStart_dict (loop _ rfl rfl rfl) (T.self _ 0 _ _ _ st1 (loop _ rfl rfl rfl))
end
end My
namespace My
open PySem PySem.W L2
theorem lg {n z:Str}{a c:Addr}(h:List.lookup z [(n,a)]=some c):z=n/\c=a:=by
 rw [List.lookup_cons] at h;cases e:z==n with
 | true=>rw [e] at h;exact⟨beq_iff_eq.mp e,(Option.some.inj h).symm⟩
 | false=>rw [e] at h;cases h
theorem mY {X:Cx}{sc:Scope}{ts:List Str}{z0:Str}{c0:Addr}{j:Nat}{L:List (Str × NameKind)}(clos:closureFor sc X.env=pure [(z0,c0)])(kind:sc.kind=.function)(nc:∀ y∈sc.names,y.2 ≠ .cell)(nm:∀ y∈sc.names,y.2=.local->sc.names.lookup y.1=some .local)(var:∀ x∈ts,sc.names.lookup x=some .local)
  (hc:X.env.cells.lookup z0=some c0)(rl:(relabel sc X.env).names=L)(has:∀ y∈L,(y.2=.cell\/y.2=.free)->y.1=z0)(nd:(ts ++ [z0]).Nodup)(hj:X.N[j]?=some z0)(vis:vn X.env.scope z0)(nl:X.env.kindOf z0≠some .local)(cf:L.lookup z0=some .cell\/L.lookup z0=some .free):aU X sc [(z0,c0)] ts [z0] [j]:=by
 refine⟨clos,kind,nc,nm,var,λ z c h=>?_,λ z h=>?_,nd,λ k z h=>?_,rfl⟩
 ·obtain⟨rfl,rfl⟩:=lg h;exact hc
 ·rw [rl] at h;have:z=z0:=by
   rcases h with h | h
   ·exact has _ (PySem.mem_of_lookup h) (.inl rfl)
   ·exact has _ (PySem.mem_of_lookup h) (.inr rfl)
  subst this;exact⟨c0,by rw [List.lookup_cons,beq_self_eq_true]⟩
 ·match k,h with
  | 0,h =>
   have h:some z0=some z:=h;cases h;exact⟨j,rfl,hj,vis,nl,by rw [rl];exact cf⟩
  | k+1,h=>simp at h
theorem ie {X:Cx}{sc:Scope}{ts:List Str}{L:List (Str × NameKind)}(clos:closureFor sc X.env=pure [])(kind:sc.kind=.function)(nc:∀ y∈sc.names,y.2 ≠ .cell)(nm:∀ y∈sc.names,y.2=.local->sc.names.lookup y.1=some .local)(var:∀ x∈ts,sc.names.lookup x=some .local)
  (rl:(relabel sc X.env).names=L)(has:∀ y∈L,¬(y.2=.cell\/y.2=.free))(nd:(ts ++ []).Nodup):aU X sc [] ts [] []:=by
 refine⟨clos,kind,nc,nm,var,(λ z c h=>by cases h),λ z h=>?_,nd,(λ k z h=>by simp at h),rfl⟩
 rw [rl] at h;rcases h with h | h
 ·exact absurd (.inl rfl) (has _ (PySem.mem_of_lookup h))
 ·exact absurd (.inr rfl) (has _ (PySem.mem_of_lookup h))
theorem B4 {n m z:Str}{a b c:Addr}(h:List.lookup z [(n,a),(m,b)]=some c):(z=n/\c=a)\/(z=m/\c=b):=by
 rw [List.lookup_cons] at h;cases e:z==n with
 | true=>rw [e] at h;exact .inl ⟨beq_iff_eq.mp e,(Option.some.inj h).symm⟩
 | false =>
  rw [e] at h;have h:List.lookup z [(m,b)]=some c:=h;rw [List.lookup_cons] at h;cases e2:z==m with
  | true=>rw [e2] at h;exact .inr ⟨beq_iff_eq.mp e2,(Option.some.inj h).symm⟩
  | false=>rw [e2] at h;cases h
theorem zj {X:Cx}{sc:Scope}{ts:List Str}{z1 z2 y1 y2:Str}{c1 c2:Addr}{j1 j2:Nat}{L:List (Str × NameKind)}(clos:closureFor sc X.env=pure [(y1,c1),(y2,c2)])(kind:sc.kind=.function)(nc:∀ y∈sc.names,y.2 ≠ .cell)(nm:∀ y∈sc.names,y.2=.local->sc.names.lookup y.1=some .local)(var:∀ x∈ts,sc.names.lookup x=some .local)
  (h1:X.env.cells.lookup y1=some c1)(h2:X.env.cells.lookup y2=some c2)(rl:(relabel sc X.env).names=L)(has:∀ y∈L,(y.2=.cell\/y.2=.free)->y.1=y1\/y.1=y2)(ny:y1≠y2)(nd:(ts ++ [z1,z2]).Nodup)
  (g1:X.N[j1]?=some z1)(g2:X.N[j2]?=some z2)(v1:vn X.env.scope z1)(v2:vn X.env.scope z2)(n1:X.env.kindOf z1≠some .local)(n2:X.env.kindOf z2≠some .local)(f1:L.lookup z1=some .cell\/L.lookup z1=some .free)(f2:L.lookup z2=some .cell\/L.lookup z2=some .free):aU X sc [(y1,c1),(y2,c2)] ts [z1,z2] [j1,j2]:=by
 refine⟨clos,kind,nc,nm,var,λ z c h=>?_,λ z h=>?_,nd,λ k z h=>?_,rfl⟩
 ·rcases B4 h with⟨rfl,rfl⟩ | ⟨rfl,rfl⟩
  ·exact h1
  ·exact h2
 ·rw [rl] at h;have e:z=y1\/z=y2:=by
   rcases h with h | h
   ·exact has _ (PySem.mem_of_lookup h) (.inl rfl)
   ·exact has _ (PySem.mem_of_lookup h) (.inr rfl)
  rcases e with rfl | rfl
  ·exact⟨c1,by rw [List.lookup_cons,beq_self_eq_true]⟩
  ·refine⟨c2,?_⟩;rw [List.lookup_cons,beq_eq_false_iff_ne.mpr ny.symm];show List.lookup z [(z,c2)]=_;rw [List.lookup_cons,beq_self_eq_true]
 ·match k,h with
  | 0,h =>
   have h:some z1=some z:=h;cases h;exact⟨j1,rfl,g1,v1,n1,by rw [rl];exact f1⟩
  | 1,h =>
   have h:some z2=some z:=h;cases h;exact⟨j2,rfl,g2,v2,n2,by rw [rl];exact f2⟩
  | k+2,h=>simp at h
section
variable {P:Program}{w:World}{K:Frag}{mg:Str->Option Value}{base:Heap}{C:Nat->Addr}{CR f a1:Addr}{fd d1:FuncData}
abbrev gJ:Stmt:=ay (bR 62) 2
abbrev DL:List Str:=["self","outcomes","numbers","firsts"]
theorem scRkA:ad DL ["self","outcomes"] (aa gJ):=aJ
abbrev Bl:Scope:={ kind:=.function,names:=[(".0",.local),("number",.local),("numbers",.free)],isGenerator:=false,isCoroutine:=false }
abbrev A5:Scope:={ kind:=.function,names:=[(".0",.local),("number",.local),("sure",.local),("firsts",.free),("numbers",.free)],isGenerator:=false,isCoroutine:=false }
section
variable {cdv:Value}{A:Around}{outer:List Env}{s:Shared}{H:Hp}{E:XK}
theorem uh:aU (aH aq P w K mg base DL "Ranks.among" (aa gJ) f cdv A outer s H E).nox Bl [("numbers",s.heap.objs.size+1)] ["number"] ["numbers"] [2] :=
 mY (L:=[(".0",.local),("number",.local),("numbers",.cell)]) rfl rfl (by decide +kernel) (by decide +kernel) (by decide +kernel) rfl rfl (by decide +kernel) (by decide +kernel) rfl (.inr (.inl rfl)) (by show(aa gJ).names.lookup ("numbers" : Str)≠some NameKind.local;decide +kernel) (.inl rfl)
theorem uD:aU (aH aq P w K mg base DL "Ranks.among" (aa gJ) f cdv A outer s H E).nox A5 [("numbers",s.heap.objs.size+1),("firsts",s.heap.objs.size+2)] ["number","sure"] ["firsts","numbers"] [3,2] :=
 zj (L:=[(".0",.local),("number",.local),("sure",.local),("firsts",.cell),("numbers",.cell)]) rfl rfl (by decide +kernel) (by decide +kernel) (by decide +kernel) rfl rfl rfl (by decide +kernel) (by decide +kernel) (by decide +kernel) rfl rfl (.inr (.inl rfl)) (.inr (.inl rfl)) (by show(aa gJ).names.lookup ("firsts" : Str)≠some NameKind.local;decide +kernel) (by show(aa gJ).names.lookup ("numbers" : Str)≠some NameKind.local;decide +kernel) (.inl rfl) (.inl rfl)
end
theorem Bi:((["number"]:List Str)++(["numbers"]:List Str)).Nodup:=by decide +kernel
theorem vM:((["number","sure"]:List Str)++(["firsts","numbers"]:List Str)).Nodup:=by decide +kernel
def EX (K:Frag):TS:=cj (gU (mK K) (am (c7 (aZ K (af 1)) 2 [] (sB K) (af 0)) aL)) (aP 2)
def Ao (K:Frag):TE:=aB (ck λ i j=>.int (i+j)) (Aj K "list" (vm K) (af 1) (am (af 0) aL)) (tC (.int 1))
def AV (K:Frag):TS:=cj (At (aZ K (af 2)) 1 [2] (aP 0) (af 0) (Ao K)) (aP 3)
def wk (K:Frag):TE:=aB (ck λ i j=>.int (i-j)) (aB (ck λ i j=>.int (i+j)) (aB (rI CMul λ i j=>.int (i*j)) (tC (.int 2)) (vR (af 2) (af 0))) (Aj K "list" (mP K) (af 3) (am (af 0) aL))) (tC (.int 1))
def zc (K:Frag):TS:=cX (c7 (aZ K (af 1)) 2 [3,2] (sB K) (wk K))
section
variable {cdv:Value}{A:Around}{outer:List Env}{s:Shared}{H:Hp}{E:XK}
abbrev pJ (k:Nat)(q:Str)(st:Stmt)(A:Around)(s:Shared)(f:Addr)(c:Value):Prop:=Room k (A.deeper (PyProof.Rows.envOfC q (aa st) s.heap.objs.size f c))
theorem Ae (ms:mg "sorted" = none)(hr:pJ 0 "Ranks.among" gJ A s f cdv):Bx (PSs (aH aq P w K mg base DL "Ranks.among" (aa gJ) f cdv A outer s H E).nox (ax gJ) (aV (EX K) (aV (AV K) (zc K)))):=by
 have nd:=scRkA.nd;have hu:(A.deeper (PyProof.Rows.envOfC "Ranks.among" (aa gJ) s.heap.objs.size f cdv)).units+1<cLine:=by have:=hr.un;omega
 exact cQ ⟨gW (i:=2) nd rfl (Or.inr rfl) (ai mH rfl ms PyProof.Rows.boot_sorted (ac (bT (te:=af 0) (g:=sB K) rfl qW (aE (pv 1)) (λ s H C fp=>by exact bI rfl (dX (bU (i:=0) uM rfl (.inl rfl)) (dX (bU (i:=1) uM rfl (.inl rfl)) ba))) (λ s H C fp=>by exact pv 0)) ao))⟩
  (cQ ⟨gW (i:=3) nd rfl (Or.inr rfl) (zi (tk:=af 0) (tv:=Ao K) (g:=aP 0) rfl uh (aE (pv 2)) (λ s H C fp=>by exact bU (i:=0) Bi rfl (.inl rfl)) (λ s H C fp=>by exact pv 0) (λ s H C fp=>by exact aj bo (jf PySem.F.plainAttrs_list PySem.F.slot_list_index PySem.F.type_list_index uk (pv 1) (ac (pv 0) ao)) az))⟩
  (aY ⟨cZ (bT (te:=wk K) (g:=sB K) rfl uD (aE (pv 1)) (λ s H C fp=>by exact bI rfl (dX (bU (i:=0) vM rfl (.inl rfl)) (dX (bU (i:=1) vM rfl (.inl rfl)) ba))) (λ s H C fp=>by exact aj eJ (aj bo (aj dB az (sM hu (pv 2) (pv 0))) (jf PySem.F.plainAttrs_list PySem.F.slot_list_count PySem.F.type_list_count kY (pv 3) (ac (pv 0) ao))) az))⟩))
end
theorem kC:∀{l:List Int},l.Pairwise (· <= ·)->∀{n:Int},n∈l->l.idxOf n=l.countP (λ m=>decide (m<n))
 | [],_,_,h=>nomatch h
 | a::l,p,n,h=>by
  obtain⟨pa,pl⟩:=List.pairwise_cons.mp p;rw [List.idxOf_cons,List.countP_cons];by_cases e:a=n
  ·subst e;have z:l.countP (λ m=>decide (m<a))=0:=List.countP_eq_zero.mpr λ m hm=>by have:=pa m hm;simp;omega
   rw [z];simp
  ·have hn:n∈l:=by
    rcases List.mem_cons.mp h with z | z
    ·exact absurd z.symm e
    ·exact z
   have lt:a<n:=by have:=pa n hn;omega
   rw [show(a==n)=false from beq_eq_false_iff_ne.mpr e,kC pl hn];simp [lt]
def rk (ns:List Int)(n:Int):Int:=2*((ns.countP λ m=>decide (m<n))+1:Nat)+(ns.countP λ m=>decide (m=n):Nat)-1
theorem kF (ns:List Int)(n:Int):((ns.map V.int).countP λ z=>nN z (.int n))=ns.countP λ m=>decide (m=n):=by
 rw [List.countP_map];refine List.countP_congr λ m _=>?_;show(m==n)=true ↔ _;simp
theorem zI {r:List V->Hp->VK->Prop}{te:TE}{σ:St}{H:Hp}{Q:VK}(h:te σ H λ x H1=>r [x] H1 Q):gU r (am te aL) σ H Q:=h
theorem yB (F:Fun K "among" "Ranks.among" gJ f fd)(ms:mg "sorted" = none):FnOk P w K mg base aq 1 f fd ["self","outcomes"] (sy λ os=>os.map λ o=>rk (os.map (·.1)) o.1):=by
 refine F.ok scRkA (λ vs H Q E h=>?_) (λ cdv A outer s H vs Q E hr h=>?_)
 ·obtain⟨_,_,_,_,rfl,_⟩:=h;rfl
 obtain⟨v,a,xs,os,rfl,ha,oc,lo,q⟩:=h;obtain⟨der⟩:=Ae ms hr (f:=f) (cdv:=cdv) (A:=A) (outer:=outer) (s:=s) (H:=H) (E:=E) (P:=P) (w:=w) (base:=base);refine⟨_,der,?_⟩;have lx:=oc.1;have sz:=sizeLine_eq;refine aG (te:=gU (mK K) (am (c7 (aZ K (af 1)) 2 [] (sB K) (af 0)) aL)) (i:=2) (D:=⟨_,Q,_,_⟩) ?_;refine zI (jR (σ:=[some v,some (.ref a),none,none]) (i:=1) rfl ha oc lo λ l0 H0 x0 n0 g0=>?_);refine⟨l0,os.map (·.1),rfl,SqL.of g0,by rw [List.length_map];omega,λ l ns' hl pm pw=>?_⟩
 have x1:=Ext.new (o:=.lst (ns'.map V.int)) hl;have g1:ae H0 l (.lst (ns'.map V.int)) l=some (.lst (ns'.map V.int)):=aR;have x01:=x0.trans x1;show aV (AV K) (zc K) _ [some v,some (.ref a),some (.ref l),none] (ae H0 l (.lst (ns'.map V.int)));generalize ae H0 l (.lst (ns'.map V.int))=H1 at x1 g1 x01 ⊢;have ln:ns'.length<=20:=by rw [pm.length_eq,List.length_map];exact lo
 refine⟨_,rfl,l,rfl,⟨_,SqL.of g1⟩,λ D hD=>?_⟩;refine⟨λ i m ys H'=>m=ns'.length-i/\i<=ns'.length/\H' D=some (.dK ys)/\Ext H1 H'/\ys.length<=i/\∀ n∈ns'.take i,dI ys (.inl n)=some (.int ((ns'.idxOf n:Nat)+1)),⟨ns'.length,by omega,Nat.zero_le _,aR,Ext.new hD,Nat.le_refl _,λ n hn=>by simp at hn⟩,?_⟩
 rintro i m ys H2 ⟨rfl,hi,h2,x2,ly,kv⟩;refine⟨h2,?_⟩;have g2:=x2 _ _ g1;by_cases lt:i<ns'.length
 ·refine .inr ⟨⟨_,.int ns'[i],SqL.of g2,by rw [List.getElem?_map,List.getElem?_eq_getElem lt];rfl⟩,by omega,λ x H3 yl os' los=>?_⟩
  obtain⟨e,yl⟩:=yl;subst e;have ex:=yl _ (SqL.of g2);rw [List.getElem?_map,List.getElem?_eq_getElem lt] at ex;cases ex;obtain⟨o0,rfl⟩:∃ o0,os'=[o0]:=by
   match os',los with
   | [o0],_=>exact⟨o0,rfl⟩
  have mem:ns'[i]∈ns':=List.getElem_mem lt;refine⟨⟨[some (.int ns'[i])],rfl,rfl⟩,_,rfl,?_⟩;refine⟨_,rfl,.inl ⟨rfl,_,SqL.of g2⟩,_,rfl,l,ns',ns'[i],rfl,rfl,SqL.of g2,mem,_,_,rfl,rfl,.inl ns'[i],rfl,h2,ns'.length-(i+1),by omega,rfl,lt,aR,aO _ x2 hD,?_,λ n hn=>?_⟩
  ·refine Nat.le_trans (gN ys (Key.inl ns'[i]) _) ?_;omega
  ·rw [qj];by_cases e:n=ns'[i]
   ·subst e;rw [if_pos rfl]
   ·rw [if_neg (λ z=>e (Key.inl.inj z))];refine kv n ?_;rw [List.take_succ_eq_append_getElem lt] at hn;rcases List.mem_append.mp hn with z | z
    ·exact z
    ·exact absurd (List.mem_singleton.mp z) e
 ·have e:i=ns'.length:=by omega
  subst e;refine .inl ⟨⟨_,SqL.of g2,by rw [List.length_map];exact Nat.le_refl _⟩,?_⟩
  rw [List.take_length] at kv;show zc K _ [some v,some (.ref a),some (.ref l),some (.ref D)] H2;have ha2:=x2 _ _ (x01 _ _ ha);have oc2:∀(i:Nat) x o,xs[i]?=some x->os[i]?=some o->BY H2 x o:=λ i x o h1 h2=>by
   obtain⟨p,e,hp⟩:=oc.2 i x o h1 h2;exact⟨p,e,x2 _ _ (x01 _ _ hp)⟩
  refine⟨_,rfl,a,rfl,⟨_,SqL.of ha2⟩,λ E0 hE=>?_⟩;refine bz (a:=a) (xs:=xs) (λ i ys H'=>Ext H2 H'/\ys=((os.take i).map λ o=>rk (os.map (·.1)) o.1).map V.int) (by omega) ⟨Ext.new hE,rfl⟩ (λ i ys H' pv=>SqL.of (pv.1 _ _ ha2)) ?_ ?_
  ·rintro i x ys' H' ex ly' hDD ⟨x',ey⟩ oss los R k;obtain⟨o0,o1,rfl⟩:∃ o0 o1,oss=[o0,o1]:=by
    match oss,los with
    | [o0,o1],_=>exact⟨o0,o1,rfl⟩
   have li:i<os.length:=by rw [<- lx];exact(List.getElem?_eq_some_iff.mp ex).1
   have eo:=List.getElem?_eq_getElem li;obtain⟨p,rfl,hp⟩:=oc2 i x _ ex eo;have mem:os[i].1∈ns':=pm.mem_iff.mpr (List.mem_map.mpr ⟨os[i],List.getElem_mem li,rfl⟩);have kn:=kv _ mem;refine⟨p,_,rfl,SqT.of (x' _ _ hp),rfl,_,_,rfl,_,_,rfl,rfl,⟨[some (.int os[i].1),some (.bl os[i].2)],rfl,rfl⟩,?_⟩;show wk K [some (.int os[i].1),some (.bl os[i].2),some (.ref D),some (.ref l)] H' R;have dg:DGet H' D (.int os[i].1) (some (.int ((ns'.idxOf os[i].1:Nat)+1))):=by
    have z:=DGet.k (k:=Key.inl os[i].1) (x' _ _ h2);rw [kn] at z;exact z
   refine jv (jv (jv ⟨_,rfl,_,rfl,D,_,rfl,dg,_,_,rfl,rfl,?_,_,rfl,.inl ⟨rfl,_,SqL.of (x' _ _ g2)⟩,_,rfl,l,_,_,rfl,rfl,SqL.of (x' _ _ g2),?_,rfl,_,_,rfl,rfl,_,_,rfl,rfl,?_⟩))
   ·exact .inl ⟨by decide,by decide⟩
   ·rw [List.all_map,List.all_eq_true];intro n _;rfl
   ·refine k _ H' hDD ⟨aO _ x' hE,?_⟩;rw [aA eo,List.map_append,List.map_append,<- ey];show _=ys' ++ [V.int (rk (os.map (·.1)) os[i].1)];have e1:rk (os.map (·.1)) os[i].1=2*((ns'.idxOf os[i].1:Nat)+1)+((ns'.map V.int).countP λ z=>nN z (.int os[i].1):Nat)-1:=by
     unfold rk;rw [kF,kC pw mem,pm.countP_eq,pm.countP_eq];omega
    rw [e1]
  ·rintro ys' H' ly' hDD ⟨x',ey⟩;rw [lx,List.take_length] at ey;rw [ey] at hDD;have x3:=(x01.trans x2).trans x';refine q E0 H' x3 ?_ hDD;cases e:H E0 with
   | none=>rfl
   | some o=>rw [(x01.trans x2) _ _ e] at hE;cases hE
end
def fS (i:Nat):Nat:=if i%2=0 then i+1 else i-1
theorem qQ (i:Nat)(h:i<20):Builtin.bitXor (i:Int) 1=(fS i:Nat):=by
 have all:∀ j:Nat,j<20->Builtin.bitXor (j:Int) 1=(fS j:Nat):=by decide +kernel
 exact all i h
theorem ue {i n:Nat}(h:i<n)(e:n%2=0):fS i<n:=by
 unfold fS;split <;> omega
section
variable {P:Program}{w:World}{K:Frag}{mg:Str->Option Value}{base:Heap}{C:Nat->Addr}{CO CR f a1:Addr}{fd d1:FuncData}
def i8 (o p:Int × Bool):Int:=pL o.1 o.2 p.1 p.2
def gM (os:List (Int × Bool)):List Int:=os.mapIdx λ i o=>i8 o (os.getD (fS i) (0,false))
abbrev jF:Stmt:=ay (bR 64) 2
theorem AB:ad ["self","outcomes"] ["self","outcomes"] (aa jF):=aJ
abbrev CJ:Scope:={ kind:=.function,names:=[(".0",.local),("at",.local),("one",.local),("stands_to",.globalImplicit),("outcomes",.free)],isGenerator:=false,isCoroutine:=false }
theorem Bc:((["at","one"]:List Str)++(["outcomes"]:List Str)).Nodup:=by decide +kernel
def vj (K:Frag):Sp:=λ vs H Q _=>∃ v a xs os,vs=[v,.ref a]/\H a=some (.lst xs)/\pk H xs os/\(∀ o∈os,-99<=o.1/\o.1<=99)/\os.length<=20/\os.length%2=0/\nj H (gM os) Q
def Bn (K:Frag)(CO:Addr):TE:=fY (lI K CO) [] E0 (am (af 1) (am (aB (cE K) (af 2) (aB (ck λ i j=>.int (Builtin.bitXor i j)) (af 0) (tC (.int 1)))) aL))
section
variable {cdv:Value}{A:Around}{outer:List Env}{s:Shared}{H:Hp}{E:XK}
theorem wm:aU (aH aq P w K mg base ["self","outcomes"] "Signs.among" (aa jF) f cdv A outer s H E).nox CJ [("outcomes",s.heap.objs.size+1)] ["at","one"] ["outcomes"] [1] :=
 mY (L:=[(".0",.local),("at",.local),("one",.local),("stands_to",.globalImplicit),("outcomes",.cell)]) rfl rfl (by decide +kernel) (by decide +kernel) (by decide +kernel) rfl rfl (by decide +kernel) (by decide +kernel) rfl (.inr (.inl rfl)) (by show(aa jF).names.lookup ("outcomes" : Str)≠some NameKind.local;decide +kernel) (.inl rfl)
theorem Ab (A1:Df P w K mg base (cC P w) 5 "stands_to" ["one","other"] (lI K CO) a1 d1)(me:mg "enumerate" = none)(hr:pJ 5 "Signs.among" jF A s f cdv):Bx (PSs (aH aq P w K mg base ["self","outcomes"] "Signs.among" (aa jF) f cdv A outer s H E).nox (ax jF) (cX (c7 (p0 K (am (af 1) aL)) 2 [1] (sB K) (Bn K CO)))) :=
 aY ⟨cZ (bT (te:=Bn K CO) (g:=sB K) rfl wm (gX rfl me (ac (pv 1) ao)) (λ s H C fp=>by exact bI rfl (dX (bU (i:=0) Bc rfl (.inl rfl)) (dX (bU (i:=1) Bc rfl (.inl rfl)) ba))) (λ s H C fp=>by exact bK A1.G hr rfl A1.m A1.kp A1.b .nil fq (ac (pv 1) (ac (c8 fU (pv 2) (aj yC (pv 0) az)) ao))))⟩
end
theorem xY (F:Fun K "among" "Signs.among" jF f fd)(A1:Df P w K mg base (cC P w) 5 "stands_to" ["one","other"] (lI K CO) a1 d1)(me:mg "enumerate" = none):FnOk P w K mg base aq 6 f fd ["self","outcomes"] (vj K):=by
 refine F.ok AB (λ vs H Q E h=>?_) (λ cdv A outer s H vs Q E hr h=>?_)
 ·obtain⟨_,_,_,_,rfl,_⟩:=h;rfl
 obtain⟨v,a,xs,os,rfl,ha,oc,bd,lo,ev,q⟩:=h;obtain⟨der⟩:=Ab A1 me hr (f:=f) (cdv:=cdv) (A:=A) (outer:=outer) (s:=s) (H:=H) (E:=E) (P:=P) (w:=w) (base:=base);refine⟨_,der,?_⟩;obtain⟨lx,oc⟩:=oc;have sz:=sizeLine_eq;have ot:∀{H':Hp}{i:Nat}{b:Addr},Ext H H'->(hi:i<os.length)->H' b=some (.tup [.int os[i].1,.bl os[i].2])->Ot K H' (.ref b) true:=λ {H' i b} x' hi hb=>by
  have:=bd os[i] (List.getElem_mem hi);refine .inl ⟨.tuple [.int os[i].1,.bool os[i].2],.tup hb (.cons (.int _) (.cons (.bl _) .nil)),?_⟩;show true=((decide ((-99:Int)<=os[i].1)&&decide (os[i].1<=99))&&true);rw [decide_eq_true this.1,decide_eq_true this.2];rfl
 refine⟨_,rfl,a,rfl,⟨_,SqL.of ha⟩,λ D hD=>?_⟩;refine qY (a:=a) (xs:=xs) (λ i ys H'=>Ext H H'/\ys=((gM os).take i).map V.int) (by omega) ⟨Ext.new hD,rfl⟩ (λ i ys H' pv=>SqL.of (pv.1 _ _ ha)) ?_ ?_
 ·rintro i x ys H' p ex ly hDD ⟨x',ey⟩ hp oss los R k;obtain⟨o0,o1,rfl⟩:∃ o0 o1,oss=[o0,o1]:=by
   match oss,los with
   | [o0,o1],_=>exact⟨o0,o1,rfl⟩
  have xp:=Ext.new (o:=.tup [.int (i:Nat),x]) hp;have gp:ae H' p (.tup [.int (i:Nat),x]) p=some (.tup [.int (i:Nat),x]):=aR;have hDD2:=xp _ _ hDD;have x2:=x'.trans xp;generalize ae H' p (.tup [.int (i:Nat),x])=H2 at xp gp hDD2 x2 ⊢;have li:i<os.length:=by rw [<- lx];exact(List.getElem?_eq_some_iff.mp ex).1
  have lm:=ue li ev;have lmx:fS i<xs.length:=by rw [lx];exact lm
  obtain⟨b,rfl,hb⟩:=oc i x _ ex (List.getElem?_eq_getElem li);obtain⟨b2,e2,hb2⟩:=oc (fS i) xs[fS i] _ (List.getElem?_eq_getElem lmx) (List.getElem?_eq_getElem lm);have em:vu xs (Builtin.bitXor (i:Int) 1)=some (.ref b2):=by
   rw [qQ i (by omega),<- e2]
   exact dL (List.getElem?_eq_getElem lmx)
  refine⟨p,_,rfl,SqT.of gp,rfl,_,_,rfl,_,_,rfl,rfl,⟨[some (.int (i:Nat)),some (.ref b)],rfl,rfl⟩,?_⟩;refine⟨_,rfl,_,rfl,_,rfl,_,_,rfl,rfl,a,_,_,_,rfl,rfl,SqL.of (x2 _ _ ha),em,.ref b,.ref b2,true,true,rfl,ot x2 li (x2 _ _ hb),ot x2 lm (x2 _ _ hb2),(λ z=>by cases z),(λ _ z=>by cases z),λ a1 a2 n1 n2 s1 s2 q1 q2 t1 t2 _ _=>?_⟩
  cases q1;cases q2;rw [x2 _ _ hb] at t1;rw [x2 _ _ hb2] at t2;cases t1;cases t2;refine k _ H2 hDD2 ⟨aO _ x2 hD,?_⟩;have es:(gM os)[i]?=some (i8 os[i] os[fS i]):=by
   unfold gM;rw [List.getElem?_mapIdx,List.getElem?_eq_getElem li];show some (i8 os[i] (os.getD (fS i) (0,false)))=_;rw [List.getD_eq_getElem?_getD,List.getElem?_eq_getElem lm];rfl
  rw [aA es,List.map_append,<- ey];rfl
 ·rintro ys H' ly hDD ⟨x',ey⟩;have l2:(gM os).length=xs.length:=by unfold gM;rw [List.length_mapIdx,lx]
  rw [<- l2,List.take_length] at ey;rw [ey] at hDD;exact q D H' x' hD hDD
end
def vi:Nat->Str
 | 0 => "sum"
 | 1 => "ranks"
 | 2 => "wins"
 | _ => "signs"
def Me (MC:Nat->Addr)(H:Hp)(k:Nat)(v:V):Prop:=∃ a dx m,v=.ref a/\H a=some (.ins (MC k) dx [("mark",.ref m)])/\H m=some (.tup [.str (vi k)])
theorem Me.ext {MC:Nat->Addr}{H H':Hp}{k:Nat}{v:V}(h:Me MC H k v)(x:Ext H H'):Me MC H' k v:=by
 obtain⟨a,dx,m,e,ha,hm⟩:=h;exact⟨a,dx,m,e,x _ _ ha,x _ _ hm⟩
def pK (MC:Nat->Addr)(c:Addr):Prop:=∃ i,i<4/\c=MC i
structure KM (K:Frag)(MC:Nat->Addr):Prop where
 cls:∀ i,i<4->Cls K (MC i)
 no:∀ i,i<4->NoAttr K (MC i) "mark"
section
variable {P:Program}{w:World}{K:Frag}{mg:Str->Option Value}{base:Heap}{C MC:Nat->Addr}{CO CR CF CU CN f a1 a2:Addr}{fd d1 d2:FuncData}
theorem iG {m:Str}{sp:Addr->Sp}{E:XK}{ta:TE}{t:TA}{σ:St}{H:Hp}{Q:VK}{k:Nat}{v:V}(hm:m ≠ "mark")(hk:k<4)(h:Me MC H k v)(ht:∀ R:VK,R v H->ta σ H R)(q:t σ H λ vs H2=>sp (MC k) (v::vs) H2 Q E):dk (pK MC) m sp E ta t σ H Q:=by
 obtain⟨a,dx,m',rfl,ha,_⟩:=h;refine ht _ ⟨a,MC k,dx,_,rfl,⟨k,hk,rfl⟩,ha,?_,q⟩;show List.lookup m [(("mark" : Str),V.ref m')]=none;rw [List.lookup_cons,beq_eq_false_iff_ne.mpr hm];rfl
abbrev sW:Stmt:=ay (bR 60) 2
abbrev sF:Stmt:=ay (bR 61) 1
abbrev uO:Stmt:=ay (bR 62) 1
abbrev ss:Stmt:=ay (bR 64) 1
abbrev tK:Stmt:=ay (bR 60) 4
theorem BH:ad ["self","rule","outcomes"] ["self","rule","outcomes"] (aa sF):=aJ
theorem Bh:ad ["self","rule","outcomes"] ["self","rule","outcomes"] (aa uO):=aJ
theorem AH:ad ["self","rule","outcomes"] ["self","rule","outcomes"] (aa ss):=aJ
theorem A8:ad ["self","rule","outcomes"] ["self","rule","outcomes"] (aa tK):=aJ
def tU (CU:Addr):Sp:=λ vs H Q E=>∃ v r a xs os,vs=[v,r,.ref a]/\H a=some (.lst xs)/\pk H xs os/\((os.map (·.2)).all id=true->∀ H',Ext H H'->Q .non H')/\∀ i,fB (os.map (·.2)) i->∀ H',Ext H H'->cF CU "place" (.int (i:Nat)) H' E
def Ap (C:Nat->Addr)(CN:Addr):Sp:=λ vs H Q E=>∃ v r o t,vs=[v,r,o]/\Ru C H t r/\t.parts.length<=20/\(∀ p∈t.parts,p.length<=20)/\((lS t).all id=true->∀ H',Ext H H'->Q .non H')/\∀ i,fB (lS t) i->∀ H',Ext H H'->cF CN "block" (.int (i:Nat)) H' E
def AN:Sp:=λ vs H Q _=>∃ v r o,vs=[v,r,o]/\Q .non H
theorem yd (F:Fun K "need_fit" "Sum.need_fit" sF f fd)(A1:Df P w K mg base (cC P w) 3 "need_sure" ["outcomes"] (rT CU) a1 d1):FnOk P w K mg base (cC P w) 4 f fd ["self","rule","outcomes"] (tU CU):=by
 refine la F BH (λ vs H Q E h=>?_) (λ cdv A outer s H vs Q E hr h=>?_)
 ·obtain⟨_,_,_,_,_,rfl,_⟩:=h;rfl
 obtain⟨v,r,a,xs,os,rfl,ha,oc,q1,q2⟩:=h;exact⟨_,bc (aw (bK A1.G hr rfl A1.m A1.kp A1.b .nil cU (ac (pv 2) ao))),_,rfl,a,xs,os,rfl,ha,oc,q1,q2⟩
theorem zM (F:Fun K "need_fit" "Ranks.need_fit" uO f fd)(A1:Df P w K mg base (cC P w) 3 "need_sure" ["outcomes"] (rT CU) a1 d1):FnOk P w K mg base (cC P w) 4 f fd ["self","rule","outcomes"] (tU CU):=by
 refine la F Bh (λ vs H Q E h=>?_) (λ cdv A outer s H vs Q E hr h=>?_)
 ·obtain⟨_,_,_,_,_,rfl,_⟩:=h;rfl
 obtain⟨v,r,a,xs,os,rfl,ha,oc,q1,q2⟩:=h;exact⟨_,bc (aw (bK A1.G hr rfl A1.m A1.kp A1.b .nil cU (ac (pv 2) ao))),_,rfl,a,xs,os,rfl,ha,oc,q1,q2⟩
theorem yA (F:Fun K "need_fit" "Signs.need_fit" ss f fd)(A1:Df P w K mg base (cC P w) 3 "need_pairs" ["rule"] (Ci C CN) a1 d1):FnOk P w K mg base (cC P w) 4 f fd ["self","rule","outcomes"] (Ap C CN):=by
 refine la F AH (λ vs H Q E h=>?_) (λ cdv A outer s H vs Q E hr h=>?_)
 ·obtain⟨_,_,_,_,rfl,_⟩:=h;rfl
 obtain⟨v,r,o,t,rfl,ru,l1,l2,q1,q2⟩:=h;exact⟨_,bc (aw (bK A1.G hr rfl A1.m A1.kp A1.b .nil cU (ac (pv 1) ao))),_,rfl,r,t,rfl,ru,l1,l2,q1,q2⟩
theorem we (F:Fun K "need_fit" "Measure.need_fit" tK f fd):FnOk P w K mg base aq 1 f fd ["self","rule","outcomes"] AN:=by
 refine F.ok A8 (λ vs H Q E h=>?_) (λ cdv A outer s H vs Q E hr h=>?_)
 ·obtain⟨_,_,_,rfl,_⟩:=h;rfl
 obtain⟨v,r,o,rfl,q⟩:=h;exact⟨_,bc ua,q⟩
end
def cr (os:List (Int × Bool)):List Int:=os.map λ o=>(os.map λ p=>i8 o p).sum
def DD:Nat->List (Int × Bool)->List Int
 | 0,os=>os.map (·.1)
 | 1,os=>os.map λ o=>rk (os.map (·.1)) o.1
 | 2,os=>cr os
 | _,os=>gM os
def rH:Nat->Rl->List (Int × Bool)->List Bool
 | 0,_,os=>os.map (·.2)
 | 1,_,os=>os.map (·.2)
 | 2,_,_=>[]
 | _,t,_=>lS t
def p7 (CU CN:Addr)(k:Nat):Addr:=if k=3 then CN else CU
def p8 (k:Nat):Str:=if k=3 then "block" else "place"
section
variable {P:Program}{w:World}{K:Frag}{mg:Str->Option Value}{base:Heap}{C MC:Nat->Addr}{CO CR CF CU CN f a1 a2:Addr}{fd d1 d2:FuncData}
structure Go (H:Hp)(k:Nat)(a:Addr)(os:List (Int × Bool)):Prop where
 ex:∃ xs,H a=some (.lst xs)/\pk H xs os
 bd:∀ o∈os,-99<=o.1/\o.1<=99
 ln:os.length<=20
 ev:k=3->os.length%2=0
theorem Go.ext {H H':Hp}{k:Nat}{a:Addr}{os:List (Int × Bool)}(h:Go H k a os)(x:Ext H H'):Go H' k a os:=by
 obtain⟨⟨xs,ha,l,oc⟩,b,c,d⟩:=h;refine⟨⟨xs,x _ _ ha,l,λ i y o h1 h2=>?_⟩,b,c,d⟩;obtain⟨p,e,hp⟩:=oc i y o h1 h2;exact⟨p,e,x _ _ hp⟩
def jk (MC:Nat->Addr)(c:Addr):Sp:=λ vs H Q _=>∃ k v a os,k<4/\c=MC k/\vs=[v,.ref a]/\Go H k a os/\nj H (DD k os) Q
def lF (MC:Nat->Addr)(c:Addr):Sp:=λ vs H Q _=>∃ k v r a os,k<4/\c=MC k/\vs=[v,r,.ref a]/\Me MC H k v/\Go H k a os/\nj H (DD k os) Q
def iJ (C MC:Nat->Addr)(CU CN c:Addr):Sp:=λ vs H Q E=>∃ k v r t a xs os,k<4/\c=MC k/\vs=[v,r,.ref a]/\Ru C H t r/\t.parts.length<=20/\(∀ p∈t.parts,p.length<=20)/\H a=some (.lst xs)/\pk H xs os/\((rH k t os).all id=true->∀ H',Ext H H'->Q .non H')/\∀ i,fB (rH k t os) i->∀ H',Ext H H'->cF (p7 CU CN k) (p8 k) (.int (i:Nat)) H' E
abbrev vc:Stmt:=ay (bR 60) 5
theorem AI:ad ["self","rule","outcomes"] ["self","rule","outcomes"] (aa vc):=aJ
def rN (MC:Nat->Addr):Sp:=λ vs H Q E=>∃ c,lF MC c vs H Q E
theorem Ad (F:Fun K "scored" "Measure.scored" vc f fd)(M:cq P w K mg base aq 7 "among" ["self","outcomes"] (pK MC) (jk MC)):FnOk P w K mg base aq 8 f fd ["self","rule","outcomes"] (rN MC):=by
 refine F.ok AI (λ vs H Q E h=>?_) (λ cdv A outer s H vs Q E hr h=>?_)
 ·obtain⟨_,_,_,_,_,_,_,_,rfl,_⟩:=h;rfl
 obtain⟨c,k,v,r,a,os,hk,rfl,rfl,me,go,q⟩:=h;refine⟨_,bc (cZ (cV (pv 0) M hr ah (ac (pv 2) ao))),?_⟩;exact iG (by decide +kernel) hk me (λ R r=>⟨_,rfl,r⟩) ⟨_,rfl,k,v,a,os,hk,rfl,rfl,go,q⟩
abbrev ut:Stmt:=ay (bR 60) 3
theorem CY:ad ["self","rule","outcomes"] ["self","rule","outcomes"] (aa ut):=aJ
def nB (C MC:Nat->Addr)(CU CN:Addr):Sp:=λ vs H Q E=>∃ k v r t a xs os,k<4/\vs=[v,r,.ref a]/\Me MC H k v/\Ru C H t r/\t.parts.length<=20/\(∀ p∈t.parts,p.length<=20)/\H a=some (.lst xs)/\pk H xs os/\(∀ o∈os,-99<=o.1/\o.1<=99)/\os.length<=20/\t.folk=(os.length:Nat)/\(k=3->(lS t).all id=true->os.length%2=0) /\
 ((rH k t os).all id=true->nj H (DD k os) Q)/\∀ i,fB (rH k t os) i->∀ H',Ext H H'->cF (p7 CU CN k) (p8 k) (.int (i:Nat)) H' E
theorem yL (F:Fun K "scores" "Measure.scores" ut f fd)(Mr:Ms P w K mg base C)(A1:Df P w K mg base (cC P w) 6 "need_outcomes_of" ["thing","folk"] (vw K CF CO) a1 d1)(M1:cq P w K mg base (cC P w) 5 "need_fit" ["self","rule","outcomes"] (pK MC) (iJ C MC CU CN))(M2:cq P w K mg base aq 8 "scored" ["self","rule","outcomes"] (pK MC) (lF MC)) :
  FnOk P w K mg base (cC P w) 9 f fd ["self","rule","outcomes"] (nB C MC CU CN):=by
 refine la F CY (λ vs H Q E h=>?_) (λ cdv A outer s H vs Q E hr h=>?_)
 ·obtain⟨_,_,_,_,_,_,_,_,rfl,_⟩:=h;rfl
 obtain⟨k,v,r,t,a,xs,os,hk,rfl,me,ru,l1,l2,ha,oc,bd,lo,fk,ev,q1,q2⟩:=h;have hr1:Room 1 _:=hr.mono (by decide)
 have hr5:Room 5 _:=hr.mono (by decide)
 have hr6:Room 6 _:=hr.mono (by decide)
 refine⟨_,bZ (aw (bK A1.G hr6 rfl A1.m A1.kp A1.b .nil cU (ac (pv 2) (ac (bL (pv 1) Mr.folk hr1 ah) ao))))
  (bZ (aw (cV (pv 0) M1 hr5 cU (ac (pv 1) (ac (pv 2) ao))))
  (bc (cZ (cV (pv 0) M2 hr ah (ac (pv 1) (ac (pv 2) ao)))))),?_⟩
 have lx:=oc.1;have ot:rZ K H xs (os.map λ _=>true):=by
  refine⟨by rw [List.length_map];exact lx,λ i x hx=>?_⟩
  have li:i<os.length:=by rw [<- lx];exact(List.getElem?_eq_some_iff.mp hx).1
  obtain⟨b,rfl,hb⟩:=oc.2 i x _ hx (List.getElem?_eq_getElem li);have z:=bd os[i] (List.getElem_mem li);refine⟨true,by rw [List.getElem?_map,List.getElem?_eq_getElem li];rfl,.inl ⟨.tuple [.int os[i].1,.bool os[i].2],.tup hb (.cons (.int _) (.cons (.bl _) .nil)),?_⟩⟩
  show true=((decide ((-99:Int)<=os[i].1)&&decide (os[i].1<=99))&&true);rw [decide_eq_true z.1,decide_eq_true z.2];rfl
 refine⟨_,rfl,bV (t:=t) (by decide +kernel) ru (λ R r=>⟨_,rfl,r⟩) ⟨r,t,rfl,ru,?_⟩⟩
 refine⟨.ref a,t.folk,rfl,.inr ⟨a,xs,_,rfl,ha,ot,λ _ H1 x1=>?_,λ i fi=>?_⟩⟩
 ·rw [if_pos (by rw [fk,lx])]
  show dk (pK MC) "need_fit" (iJ C MC CU CN) _ (af 0) (am (af 1) (am (af 2) aL)) [some v,some r,some (.ref a)] H1 _;refine iG (by decide +kernel) hk (me.ext x1) (λ R r=>⟨_,rfl,r⟩) ⟨_,rfl,_,rfl,k,v,r,t,a,xs,os,hk,rfl,rfl,ru.ext x1,l1,l2,x1 _ _ ha,?_,λ al H2 x2=>?_,λ i fi H2 x2=>q2 i fi H2 (x1.trans x2)⟩
  ·refine⟨lx,λ i y o h1 h2=>?_⟩;obtain⟨p,e,hp⟩:=oc.2 i y o h1 h2;exact⟨p,e,x1 _ _ hp⟩
  ·have x12:=x1.trans x2;have go:Go H k a os:=⟨⟨xs,ha,oc⟩,bd,lo,λ e=>ev e (by subst e;exact al)⟩
   show dk (pK MC) "scored" (lF MC) _ (af 0) (am (af 1) (am (af 2) aL)) [some v,some r,some (.ref a)] H2 _;refine iG (by decide +kernel) hk (me.ext x12) (λ R r=>⟨_,rfl,r⟩) ⟨_,rfl,_,rfl,k,v,r,a,os,hk,rfl,rfl,me.ext x12,go.ext x12,λ l H3 x3 nl hl=>?_⟩
   refine q1 al l H3 (x12.trans x3) ?_ hl;cases e:H l with
   | none=>rfl
   | some o=>rw [x12 _ _ e] at nl;cases nl
 ·exfalso;have z:=fi.2;rw [List.getElem?_map] at z;obtain⟨_,_,z⟩:=Option.map_eq_some_iff.mp z;cases z
end
end My
namespace My
open PySem L2
structure n8 (X:Cx)(sc:Scope)(cl:List (Str × Addr))(x:Str)(ts zs:List Str)(js:List Nat):Prop where
 clos:closureFor sc X.env=pure cl
 kind:sc.kind=.function
 cells:∀ C:Nat,cellsFrom C sc.names cl=(x,C)::cl
 names:∀ y∈sc.names,y.2=.local->sc.names.lookup y.1=some .local
 inx:x∈ts
 sub:∀ z c,cl.lookup z=some c->X.env.cells.lookup z=some c
 has:∀ z,((relabel sc X.env).names.lookup z=some .cell\/(relabel sc X.env).names.lookup z=some .free)->z=x\/∃ c,cl.lookup z=some c
 nd:(ts++zs).Nodup
 cap:∀(k:Nat)(z:Str),zs[k]?=some z->∃ j:Nat,js[k]?=some j/\X.N[j]?=some z/\vn X.env.scope z/\X.env.kindOf z≠some .local /\
  ((relabel sc X.env).names.lookup z=some .cell\/(relabel sc X.env).names.lookup z=some .free)
 len:js.length=zs.length
def dz (X:Cx)(sc:Scope)(cl:List (Str × Addr))(x:Str)(N:List Str)(s:Shared)(H:Hp)(C:Addr)(fp:List Addr):Cx where
 prog:=X.prog
 w:=X.w
 K:=X.K
 mg:=X.mg
 base:=X.base
 A:=X.A
 N:=N
 s₀:=s
 H₀:=H
 env:=compEnvC sc ((x,C+1)::cl) C X.env
 outer:=X.stack
 stack:=X.stack
 ex:=fp
 fn:=λ y=>y==x
 calm:=X.calm
 pn:=[]
 xe:=λ _ _=>False
theorem dZ {z x:Str}{c d:Addr}{cl:List (Str × Addr)}(h:List.lookup z ((x,d)::cl)=some c):(z=x/\c=d)\/(z≠x/\cl.lookup z=some c):=by
 rw [List.lookup_cons] at h;cases e:z==x with
 | true=>rw [e] at h;exact .inl ⟨beq_iff_eq.mp e,(Option.some.inj h).symm⟩
 | false=>rw [e] at h;exact .inr ⟨beq_eq_false_iff_ne.mp e,h⟩
theorem jP {z x:Str}{c d:Addr}{cl:List (Str × Addr)}(n:z≠x)(h:cl.lookup z=some c):List.lookup z ((x,d)::cl)=some c:=by
 rw [List.lookup_cons,beq_eq_false_iff_ne.mpr n];exact h
theorem gZ {x:Str}{d:Addr}{cl:List (Str × Addr)}:List.lookup x ((x,d)::cl)=some d:=by
 rw [List.lookup_cons,beq_self_eq_true]
theorem oY {M:Model}{A:Around}{E:Value->Shared->Prop}{s:Shared}{scope:Scope}{globals:Addr}{cl:List (Str × Addr)}{qual:Str}{outer:Env}{Q:Env->Shared->Prop}
  (hQ:∀ h',h'.Ns s.heap.objs.size (λ _=>none)->(∀ b o,s.heap.get? b=some o->h'.get? b=some o)->(∀ n c,(n,c)∈cellsFrom (s.heap.objs.size+1) scope.names []->h'.IsCell c none) ->
   Q { scope:=scope,locals:=s.heap.objs.size,globals:=globals,cells:=cellsFrom (s.heap.objs.size+1) scope.names cl,qual:=qual,func:=none,code:=outer.code,frame:=outer.frame,builtins:=outer.builtins } { s with heap:=h' }) :
  wpAny M A (newFunctionEnv scope globals cl [] qual none .none (some outer)) Q E s:=by
 simp only [newFunctionEnv,Option.isSome_some,if_true];refine wpAny_bind (wpAny_alloc ?_);refine wpAny_bind (wpAny_layCells _ (λ name kind cells=>by cases hkc:kind==NameKind.cell <;> simp [hkc]) _ _ _ _ ?_)
 have ok:=cellsFrom_ok scope.names (s.heap.push { cls:=.type "dict",data:=.dict #[] }) (s.heap.objs.size+1) [] ⟨λ _ _ hm=>(nomatch hm),List.Pairwise.nil⟩ (by rw [Heap.size_push];exact Nat.le_refl _)
 rw [Heap.size_push] at ok;rw [show({ s with heap:=s.heap.push { cls:=.type "dict",data:=.dict #[] } }:Shared).heap.objs.size=s.heap.objs.size+1 from Heap.size_push ..]
 refine wpAny_bind ?_;rw [List.forIn_nil];exact wpAny_pure (wpAny_pure (hQ _ ((Heap.Ns.new s.heap (.type "dict")).keeps (pushCells_keeps _ _)) (λ b o e=>pushCells_keeps _ _ b o (Heap.get?_push_of_some _ e)) λ n c hm=>(ok.empty n c hm).1))
theorem cP:∀(names:List (Str × NameKind))(n:Nat)(acc:List (Str × Addr)),cellsFrom n names acc=cellsFrom n names []++acc
 | [],_,_=>rfl
 | (name,kind)::r,n,acc=>by
  unfold cellsFrom;split
  ·rw [cP r (n+1) ((name,n)::acc),cP r (n+1) [(name,n)],List.append_assoc];rfl
  ·exact cP r n acc
section
variable {X:Cx}{pins:List (Addr × Obj)}{σ:St}{H:Hp}{s:Shared}{sc:Scope}{cl:List (Str × Addr)}{x:Str}{ts zs:List Str}{js:List Nat}{C:Addr}{fp:List Addr}
theorem pM (I:Inv X pins σ H s)(S:n8 X sc cl x ts zs js)(hf:∀ b∈fp,cD X pins H b/\b<s.heap.objs.size)(hC:s.heap.objs.size<=C):(dz X sc cl x (ts++zs) s H C fp).Ok:=by
 have nc:∀ z,X.env.cells.lookup z≠some (C+1):=λ z e=>by
  obtain⟨v,hv⟩:=I.cell z _ e;exact absurd hv.lt (Nat.not_lt.mpr (Nat.le_succ_of_le hC))
 refine⟨I.ok.mod,S.kind,I.ok.glob,I.ok.blt,hC,λ y z c h1 h2=>?_,λ z h=>?_,λ z c hx h=>?_,I.ok.hd,I.ok.frames,.inl rfl,λ b hb=>?_,I.bs,?_,λ b o e hb=>?_,λ b hb hs=>?_,I.stack,I.stkFree⟩
 ·rcases dZ h1 with⟨e1,e2⟩ | ⟨e1,e2⟩ <;> rcases dZ h2 with⟨e3,e4⟩ | ⟨e3,e4⟩
  ·exact e1.trans e3.symm
  ·exact absurd (S.sub _ _ e4) (by rw [e2];exact nc z)
  ·exact absurd (S.sub _ _ e2) (by rw [e4];exact nc y)
  ·exact I.ok.inj y z c (S.sub _ _ e2) (S.sub _ _ e4)
 ·by_cases e:z=x
  ·subst e;exact⟨C+1,gZ⟩
  ·rcases S.has z h with q | ⟨c,q⟩
   ·exact absurd q e
   ·exact⟨c,jP e q⟩
 ·have ez:z=x:=beq_iff_eq.mp hx;subst ez;rcases dZ h with⟨_,e2⟩ | ⟨e1,_⟩
  ·rw [e2];exact Nat.le_succ_of_le hC
  ·exact absurd rfl e1
 ·obtain⟨⟨_,h1,_,_,h4,_⟩,h6⟩:=hf b hb;refine⟨λ e=>absurd h6 (Nat.not_lt.mpr (by rw [show b=C from e];exact hC)),λ z c e=>?_⟩
  rcases dZ e with⟨_,e2⟩ | ⟨_,e2⟩
  ·intro q;rw [<- q,e2] at h6;exact absurd h6 (Nat.not_lt.mpr (Nat.le_succ_of_le hC))
  ·exact h4 z c (S.sub _ _ e2)
 ·exact Nat.le_trans I.ok.bsz I.sz
 ·obtain⟨⟨_,_,_,h3,_⟩,_⟩:=hf b hb;rcases h3 with h | h
  ·exact I.ok.noex b o e h
  ·exact absurd (Heap.lt_size e) (Nat.not_lt.mpr (Nat.le_trans I.ok.bsz h))
 ·obtain⟨⟨_,h1,h2,_⟩,_⟩:=hf b hb;rcases List.mem_cons.mp (I.stkSub b hs) with e | e
  ·exact h1 e
  ·exact h2 e
theorem lh {s1:Shared}(I:Inv X pins σ H s)(S:n8 X sc cl x ts zs js)(hf:∀ b∈fp,cD X pins H b/\b<s.heap.objs.size)(hC:s.heap.objs.size<=C)(ho:s1.os=s.os)(hg:s1.gens=s.gens)
  (hk:∀ b o,s.heap.get? b=some o->s1.heap.get? b=some o){m:Str->Option Value}(hn:s1.heap.Ns C m)(hcell:s1.heap.IsCell (C+1) none):Inv (dz X sc cl x (ts++zs) s H C fp) [] (List.replicate ts.length none++cu js σ) H s1:=by
 refine⟨pM I S hf hC,ho,by rw [hg];exact I.bare,Un.kept hk,⟨m,hn,λ i y v h1 h2 h3=>?_⟩,λ z c e=>?_,I.hok.fresh hC,λ z c e=>?_,λ p hp=>absurd (show p∈([]:List (Addr × Obj)) from hp) (by simp),I.hok.kept hk,?_⟩
 ·rcases Nat.lt_or_ge i ts.length with lt | ge
  ·rw [List.getElem?_append_left (by rw [List.length_replicate];exact lt),List.getElem?_replicate,if_pos lt] at h2
   cases h2
  ·have h1':zs[i-ts.length]?=some y:=by
    have h1'':(ts++zs)[i]?=some y:=h1;rw [List.getElem?_append_right ge] at h1'';exact h1''
   obtain⟨j,hj,hN,hv,nl,k'⟩:=S.cap _ y h1';have h2':(cu js σ)[i-ts.length]?=some (some v):=by
    rw [List.getElem?_append_right (by rw [List.length_replicate];exact ge),List.length_replicate] at h2
    exact h2
   have h5:σ[j]?=some (some v):=by
    unfold cu at h2';rw [List.getElem?_map,hj] at h2';have h6:(σ[j]?).join=some v:=Option.some.inj h2';cases e:σ[j]? with
    | none=>rw [e] at h6;cases h6
    | some o=>rw [e] at h6;exact congrArg some h6
   obtain⟨m0,hn0,hl⟩:=I.loc;obtain⟨u,ru,lk⟩:=hl j y v hN h5 hv;refine⟨u,ru,?_⟩;rcases lk with⟨k1,_⟩ | ⟨_,c,ec,hc⟩
   ·exact absurd k1 nl
   ·have yx:y≠x:=λ e=>by
     subst e;have hz:=List.mem_of_getElem? h1';exact(List.nodup_append.mp S.nd).2.2 y S.inx y hz rfl
    rcases S.has y k' with q | ⟨c',ec'⟩
    ·exact absurd q yx
    have e2:=S.sub _ _ ec';rw [ec] at e2;cases e2;exact .inr ⟨k',c,jP yx ec',hc.keeps hk⟩
 ·rcases dZ e with⟨_,e2⟩ | ⟨_,e2⟩
  ·rw [e2];exact⟨none,hcell⟩
  ·obtain⟨v,hv⟩:=I.cell z c (S.sub _ _ e2);exact⟨v,hv.keeps hk⟩
 ·rcases dZ e with⟨_,e2⟩ | ⟨_,e2⟩
  ·rw [e2];exact I.hok.fresh (Nat.le_succ_of_le hC)
  ·exact I.freeC z c (S.sub _ _ e2)
 ·show(List.replicate ts.length none++cu js σ:St).length=(ts++zs).length;unfold cu;rw [List.length_append,List.length_append,List.length_map,List.length_replicate,S.len]
theorem oU {s1:Shared}{σ':St}{H':Hp}{h':Heap}(I:Inv X pins σ H s)(hf:∀ b∈fp,cD X pins H b/\b<s.heap.objs.size)(hC:s.heap.objs.size<=C)(J:Inv (dz X sc cl x (ts++zs) s H C fp) [] σ' H' s1)
  (hs:Heap.SameBut C s1.heap h'):Inv X pins σ H' { s1 with heap:=h' }:=by
 have old:∀ b o,s1.heap.get? b=some o->b≠C->h'.get? b=some o:=λ b o e n=>(hs.2 b n).trans e;have lt:∀{b o},s.heap.get? b=some o->b≠C:=λ {b o} e z=>by
  have q:=Heap.lt_size e;rw [z] at q;exact absurd q (Nat.not_lt.mpr hC)
 have B:=J.base;refine I.call' (s':={ s1 with heap:=h' }) (ch:=fp) J.os ⟨λ b o e n hb hx=>old b o (B.keep b o e n hb hx) (lt e),λ b o e n hb hx=>?_,B.free,λ b o e hx=>?_,B.tups,B.frzs,B.tbls,B.sys⟩ (λ b o e=>?_) J.bare λ b hb=>?_
 ·obtain⟨sl,q⟩:=B.slot b o e n hb hx;exact⟨sl,old _ _ q (lt e)⟩
 ·obtain⟨o',q⟩:=B.there b o e hx;exact⟨o',old _ _ q (lt e)⟩
 ·have nC:∀ c u,H' c=some u->c≠C:=λ c u q z=>by
   have f:H' C=none:=J.free;rw [z,f] at q;cases q
  refine(J.hok b o e).stay (λ c v hc q=>old c v q ?_) (λ _ q=>q) λ _ _ q=>q;rcases hc with rfl | hc
  ·exact nC _ _ e
  ·exact nC _ _ hc
 ·obtain⟨⟨_,h1,_,h3,h4,h5⟩,_⟩:=hf b hb;exact⟨h3,h1,h4,h5⟩
variable {elt iter:Expr}{pos:Pos}{tg:Expr}{g:TG}{wi:TI}{te:TE}
theorem yu (hc:X.calm=true)(S:n8 X sc cl x ts zs js)(hi:PI X tg iter wi)(hg:∀ s H C fp,PG (dz X sc cl x (ts++zs) s H C fp) tg g)(he:∀ s H C fp,PE (dz X sc cl x (ts++zs) s H C fp) elt te)
  (hs:∀ v,foldedSetIterable iter X.env v=pure v:=by intro _;rfl):PE X (.ListComp elt [⟨tg,iter,[],0⟩] sc pos) (c7 wi ts.length js g te):=by
 intro pins s σ H Q I h;rw [eval_ListComp];refine wpAny_comprehension_free (use:=none) rfl hs S.clos S.kind S.names (aK (hi pins s σ H _ I h) λ v s1 h1=>aK h1 λ itv s2 h2=>?_);obtain⟨it,fp,tn,J,H2,e,I2,T,st2,f2,body⟩:=h2;subst e;have fr2:H2 s2.heap.objs.size=none:=I2.fresh;obtain⟨W,⟨m0,w0⟩,turn⟩:=body _ fr2;refine wpAny_newObj_type ?_;have I3:Inv X pins σ (ae H2 s2.heap.objs.size (.lst [])) { s2 with heap:=s2.heap.push { cls:=.type "list",data:=.seq ([]:List Value).toArray } }:=I2.lnew (t':=s2.toks) (ys:=[]) (its:=[]) .nil (Nat.zero_le _)
 refine oY (λ h₁ hn hkeep hcell=>?_);rw [S.cells];generalize hs3:({ s2 with heap:=s2.heap.push { cls:=.type "list",data:=.seq ([]:List Value).toArray } }:Shared)=s3 at I3 hn hkeep hcell ⊢
 have fpl:∀ b∈fp,cD X pins (ae H2 s2.heap.objs.size (.lst [])) b/\b<s3.heap.objs.size:=λ b hb=>by
  obtain⟨o,ho,_⟩:=T.obj _ _ st2 b hb;have hl:=Heap.lt_size ho;have hne:b≠s2.heap.objs.size:=Nat.ne_of_lt hl;obtain⟨z1,z2⟩:=f2 b hb;refine⟨⟨by rw [ag hne];exact z1,z2⟩,?_⟩
  rw [<- hs3];show b<(s2.heap.push _).objs.size;rw [Heap.size_push];exact Nat.lt_succ_of_lt hl
 have old:∀ b o,s3.heap.get? b=some o->h₁.get? b=some o:=hkeep;have hcell1:h₁.IsCell (s3.heap.objs.size+1) none:=by
  refine hcell x _ ?_;have q:=S.cells (s3.heap.objs.size+1);rw [cP] at q;have q2:cellsFrom (s3.heap.objs.size+1) sc.names []=[(x,s3.heap.objs.size+1)]:=List.append_cancel_right (bs:=cl) q;rw [q2];exact List.mem_singleton.mpr rfl
 have loop:∀ sS:Shared,sS.heap=h₁->sS.os=s3.os->sS.gens=s3.gens->codeAny (model X.prog X.w) X.A (.compLoop (.ListComp elt [⟨tg,iter,[],0⟩] sc pos) 0 (.ref it) (.ref s2.heap.objs.size) (compEnvC sc ((x,s3.heap.objs.size+1)::cl) s3.heap.objs.size X.env))
   (compPost (model X.prog X.w) X.A X.xe none (EP X pins σ Q) (.ref s2.heap.objs.size) s3.heap.objs.size) sS:=by
  intro sS eh eo eg;subst eh;have J0:Inv (dz X sc cl x (ts++zs) s3 (ae H2 s2.heap.objs.size (.lst [])) s3.heap.objs.size fp) [] (List.replicate ts.length none++cu js σ) (ae H2 s2.heap.objs.size (.lst [])) sS:=lh I3 S fpl (Nat.le_refl _) eo eg old hn hcell1;generalize hX:dz X sc cl x (ts++zs) s3 (ae H2 s2.heap.objs.size (.lst [])) s3.heap.objs.size fp=X' at J0;have stat:∀{H':Hp},(∀ b∈fp,H' b=none)->∀ b∈fp,cD X' [] H' b:=λ {H'} hn b hb=>by
   subst hX;obtain⟨⟨_,z1,z2,z3,z4,z5⟩,z6⟩:=fpl b hb;refine⟨hn b hb,Nat.ne_of_lt z6,λ q=>?_,.inl hb,λ y c e=>?_,λ p hp=>absurd (show p∈([]:List (Addr × Obj)) from hp) (by simp)⟩
   ·rcases List.mem_cons.mp (I3.stkSub b q) with e | e
    ·exact z1 e
    ·exact z2 e
   ·rcases dZ e with⟨_,e2⟩ | ⟨_,e2⟩
    ·intro q;rw [<- q,e2] at z6;exact absurd z6 (Nat.not_lt.mpr (Nat.le_succ _))
    ·exact z4 y c (S.sub _ _ e2)
  have st3:tn 0 sS.heap:=T.keep _ _ _ st2 λ b hb o e=>old b o (by rw [<- hs3];exact Heap.get?_push_of_some _ e)
  refine gy (λ n s'=>∃ i ys os H',os.length=ts.length/\Inv X' [] (os++cu js σ) H' s'/\tn i s'.heap/\(∀ b∈fp,H' b=none)/\W i n ys H') ?_ m0 ⟨0,[],_,_,List.length_replicate,J0,st3,λ b hb=>(fpl b hb).1.1,w0⟩;rintro n s' ⟨i,ys,os,H',los,Iv,st,fr,w⟩;obtain⟨hD,alt⟩:=turn i n ys H' w;have eP:X'.prog=X.prog:=by subst hX;rfl
  have eW:X'.w=X.w:=by subst hX;rfl
  have eK:X'.K=X.K:=by subst hX;rfl
  have eC:X'.calm=true:=by subst hX;exact hc
  have eA:X'.A=X.A:=by subst hX;rfl
  have eE:X'.env=compEnvC sc ((x,s3.heap.objs.size+1)::cl) s3.heap.objs.size X.env:=by subst hX;rfl
  have eX:X'.xe = λ _ _=>False:=by subst hX;rfl
  rcases alt with⟨stop,q⟩ | ⟨go,hlen,step⟩
  ·have d:=T.done X' eP eW eK eC i [] s' _ H' (λ _ _=>False) Iv (stat fr) st stop;rw [eA] at d;refine aK d λ r s4 ⟨hr,I4⟩=>?_;subst hr;obtain⟨m,hm,_⟩:=id I4.loc;rw [eE] at hm;subst hX;exact⟨m,hm,λ h' hs'=>⟨.ref s2.heap.objs.size,H',oU I3 fpl (Nat.le_refl _) I4 hs',rfl,q⟩⟩
  ·have d:=T.item X' eP eW eK eC i [] s' _ H' (λ _ _=>False) Iv (stat fr) st go;rw [eA] at d;refine aK d λ r s4 ⟨u,hr,h4⟩=>?_;subst hr;refine aK h4 λ _ s5 ⟨y,H5,I5,r5,y5,st5,fr5⟩=>?_;have I5':=I5.pinned (stat fr5) (T.obj _ _ st5);have hg':PG X' tg g:=by subst hX;exact hg _ _ _ _
   have g6:=hg' _ s5 _ H5 y u _ I5' r5 (step y H5 y5 os los);rw [eP,eW,eA,eE,eX] at g6;refine aK g6 λ _ s6 ⟨σ6,H6,I6,⟨os',los',e6⟩,st6⟩=>?_;subst e6;have he':PE X' elt te:=by subst hX;exact he _ _ _ _
   have g7:=he' _ s6 _ H6 _ I6 st6;rw [eP,eW,eA,eE,eX] at g7;refine aK g7 λ uv s7 ⟨v7,H7,I7,r7,hD7,m',hm',w7⟩=>?_;have g8:=(cn (X:=X')) _ s7 _ H7 (.ref s2.heap.objs.size) [v7] (.ref s2.heap.objs.size) [uv] (λ _ H8=>H8=ae H7 s2.heap.objs.size (.lst (ys ++ [v7]))) I7 rfl (.cons r7 .nil) ⟨_,ys,v7,rfl,rfl,hD7,hlen,rfl⟩;rw [eP,eW,eA,eX] at g8;refine aK g8 λ _ s8 ⟨_,H8,I8,_,e8⟩=>?_;subst e8;refine⟨m',hm',i+1,ys ++ [v7],os',_,los',I8.unpinned,T.keep _ _ _ st5 λ b hb o e=>(I8.pin (b,o) (List.mem_append_right _ (List.mem_append_right _ (aF hb e)))).1,λ b hb=>?_,w7⟩;obtain⟨o',e',_⟩:=T.obj _ _ st5 b hb;exact(I8.pin (b,o') (List.mem_append_right _ (List.mem_append_right _ (aF hb e')))).2.1
 have st1:tn 0 h₁:=T.keep _ _ _ st2 λ b hb o e=>old b o (by rw [<- hs3];exact Heap.get?_push_of_some _ e)
 exact codeAny_compStart_list (loop _ rfl rfl rfl) (T.self _ 0 _ _ _ st1 (loop _ rfl rfl rfl))
end
end My
namespace My
open PySem PySem.W L2
section
variable {P:Program}{w:World}{K:Frag}{mg:Str->Option Value}{base:Heap}{C:Nat->Addr}{CO CR f a1:Addr}{fd d1:FuncData}
abbrev jZ:Stmt:=ay (bR 63) 1
theorem AQ:ad ["self","outcomes"] ["self","outcomes"] (aa jZ):=aJ
abbrev qF:Scope:={ kind:=.function,names:=[(".0",.local),("one",.cell),("sum",.globalImplicit),("outcomes",.free)],isGenerator:=false,isCoroutine:=false }
abbrev Ch:Scope:={ kind:=.function,names:=[(".0",.local),("other",.local),("stands_to",.globalImplicit),("one",.free)],isGenerator:=false,isCoroutine:=false }
theorem AT:((["one"]:List Str)++(["outcomes"]:List Str)).Nodup:=by decide +kernel
theorem C5:((["other"]:List Str)++(["one"]:List Str)).Nodup:=by decide +kernel
def vO (K:Frag):Sp:=λ vs H Q _=>∃ v a xs os,vs=[v,.ref a]/\H a=some (.lst xs)/\pk H xs os/\(∀ o∈os,-99<=o.1/\o.1<=99)/\os.length<=20/\nj H (cr os) Q
def EG (K:Frag)(CO:Addr):TE:=c7 (aZ K (af 1)) 1 [0] (aP 0) (fY (lI K CO) [] E0 (am (af 1) (am (af 0) aL)))
def CW (K:Frag)(CO:Addr):TE:=gU (nJ K) (am (EG K CO) aL)
section
variable {cdv:Value}{A:Around}{outer:List Env}{s:Shared}{H:Hp}{E:XK}
theorem sT:n8 (aH aq P w K mg base ["self","outcomes"] "Wins.among" (aa jZ) f cdv A outer s H E).nox qF [("outcomes",s.heap.objs.size+1)] "one" ["one"] ["outcomes"] [1]:=by
 refine⟨rfl,rfl,λ C=>rfl,by decide +kernel,List.mem_singleton.mpr rfl,λ z c h=>?_,λ z h=>?_,by decide +kernel,λ k z h=>?_,rfl⟩
 ·obtain⟨rfl,rfl⟩:=lg h;rfl
 ·have h:List.lookup z [((".0" : Str),NameKind.local),(("one" : Str),NameKind.cell),(("sum" : Str),NameKind.globalImplicit),(("outcomes" : Str),NameKind.cell)]=some .cell\/List.lookup z [((".0" : Str),NameKind.local),(("one" : Str),NameKind.cell),(("sum" : Str),NameKind.globalImplicit),(("outcomes" : Str),NameKind.cell)]=some .free:=h;have all:∀ y ∈ [((".0" : Str),NameKind.local),(("one" : Str),NameKind.cell),(("sum" : Str),NameKind.globalImplicit),(("outcomes" : Str),NameKind.cell)],(y.2=.cell\/y.2=.free)->y.1 = "one" \/ y.1 = "outcomes" := by decide +kernel
  have e:z = "one" \/ z = "outcomes" := by
   rcases h with h | h
   ·exact all _ (PySem.mem_of_lookup h) (.inl rfl)
   ·exact all _ (PySem.mem_of_lookup h) (.inr rfl)
  rcases e with rfl | rfl
  ·exact .inl rfl
  ·exact .inr ⟨_,gZ⟩
 ·match k,h with
  | 0,h =>
   have h:some ("outcomes" : Str)=some z:=h;cases h;exact⟨1,rfl,rfl,.inr (.inl rfl),by show(aa jZ).names.lookup ("outcomes" : Str)≠some NameKind.local;decide +kernel,.inl rfl⟩
  | k+1,h=>simp at h
theorem ud {X:Cx}{C1:Addr}{fp:List Addr}{cl:List (Str × Addr)}(hk:X.env.scope.kind=.function):aU (dz X qF cl "one" ((["one"]:List Str)++(["outcomes"]:List Str)) s H C1 fp) Ch [("one",C1+1)] ["other"] ["one"] [0] :=
 mY (L:=[(".0",.local),("other",.local),("stands_to",.globalImplicit),("one",.cell)]) rfl rfl (by decide +kernel) (by decide +kernel) (by decide +kernel) gZ rfl (by decide +kernel) (by decide +kernel) rfl (.inr (.inl rfl))
  (by show(relabel qF X.env).names.lookup ("one" : Str)≠some NameKind.local;exact λ h=>nomatch (show some NameKind.cell=some NameKind.local from h)) (.inl rfl)
theorem yi (A1:Df P w K mg base (cC P w) 5 "stands_to" ["one","other"] (lI K CO) a1 d1)(ms:mg "sum" = none)(hr:pJ 5 "Wins.among" jZ A s f cdv):Bx (PSs (aH aq P w K mg base ["self","outcomes"] "Wins.among" (aa jZ) f cdv A outer s H E).nox (ax jZ) (cX (c7 (aZ K (af 1)) 1 [1] (aP 0) (CW K CO)))) :=
 aY ⟨cZ (yu (te:=CW K CO) (g:=aP 0) rfl sT (aE (pv 1)) (λ s H C fp=>by exact bU (i:=0) AT rfl (.inr rfl)) (λ s H C fp=>by
  exact ai (dQ rfl) rfl ms PyProof.Rows.boot_sum (ac (bT (te:=fY (lI K CO) [] E0 (am (af 1) (am (af 0) aL))) (g:=aP 0) rfl (ud rfl) (aE (pv 1)) (λ s H C fp=>by exact bU (i:=0) C5 rfl (.inl rfl)) (λ s H C fp=>by
   exact bK A1.G hr rfl A1.m A1.kp A1.b .nil fq (ac (pv 1) (ac (pv 0) ao)))) ao)))⟩
end
theorem yW (F:Fun K "among" "Wins.among" jZ f fd)(A1:Df P w K mg base (cC P w) 5 "stands_to" ["one","other"] (lI K CO) a1 d1)(ms:mg "sum" = none):FnOk P w K mg base aq 6 f fd ["self","outcomes"] (vO K):=by
 refine F.ok AQ (λ vs H Q E h=>?_) (λ cdv A outer s H vs Q E hr h=>?_)
 ·obtain⟨_,_,_,_,rfl,_⟩:=h;rfl
 obtain⟨v,a,xs,os,rfl,ha,oc,bd,lo,q⟩:=h;obtain⟨der⟩:=yi A1 ms hr (f:=f) (cdv:=cdv) (A:=A) (outer:=outer) (s:=s) (H:=H) (E:=E) (P:=P) (w:=w) (base:=base);refine⟨_,der,?_⟩;obtain⟨lx,oc⟩:=oc;have sz:=sizeLine_eq;have ot:∀{H':Hp}{i:Nat}{b:Addr},Ext H H'->(hi:i<os.length)->H' b=some (.tup [.int os[i].1,.bl os[i].2])->Ot K H' (.ref b) true:=λ {H' i b} x' hi hb=>by
  have:=bd os[i] (List.getElem_mem hi);refine .inl ⟨.tuple [.int os[i].1,.bool os[i].2],.tup hb (.cons (.int _) (.cons (.bl _) .nil)),?_⟩;show true=((decide ((-99:Int)<=os[i].1)&&decide (os[i].1<=99))&&true);rw [decide_eq_true this.1,decide_eq_true this.2];rfl
 refine⟨_,rfl,a,rfl,⟨_,SqL.of ha⟩,λ D hD=>?_⟩;refine bz (a:=a) (xs:=xs) (λ i ys H'=>Ext H H'/\ys=((cr os).take i).map V.int) (by omega) ⟨Ext.new hD,rfl⟩ (λ i ys H' pv=>SqL.of (pv.1 _ _ ha)) ?_ ?_
 ·rintro i x ys H' ex ly hDD ⟨x',ey⟩ oss los R k;obtain⟨o0,rfl⟩:∃ o0,oss=[o0]:=by
   match oss,los with
   | [o0],_=>exact⟨o0,rfl⟩
  have li:i<os.length:=by rw [<- lx];exact(List.getElem?_eq_some_iff.mp ex).1
  obtain⟨b,rfl,hb⟩:=oc i x _ ex (List.getElem?_eq_getElem li);refine⟨⟨[some (.ref b)],rfl,rfl⟩,?_⟩;refine⟨_,rfl,a,rfl,⟨_,SqL.of (x' _ _ ha)⟩,λ D2 hD2=>?_⟩;have nD:D2≠D:=λ e=>by rw [e,hDD] at hD2;cases hD2
  refine bz (a:=a) (xs:=xs) (λ j zs H2=>Ext H' H2/\zs=((os.map λ p=>i8 os[i] p).take j).map V.int) (by omega) ⟨Ext.new hD2,rfl⟩ (λ j zs H2 pv=>SqL.of (pv.1 _ _ (x' _ _ ha))) ?_ ?_
  ·rintro j y zs H2 ey2 lz hDD2 ⟨x2,ez⟩ oss2 los2 R2 k2;obtain⟨o0,rfl⟩:∃ o0,oss2=[o0]:=by
    match oss2,los2 with
    | [o0],_=>exact⟨o0,rfl⟩
   have lj:j<os.length:=by rw [<- lx];exact(List.getElem?_eq_some_iff.mp ey2).1
   obtain⟨b2,rfl,hb2⟩:=oc j y _ ey2 (List.getElem?_eq_getElem lj);have x12:=x'.trans x2;refine⟨⟨[some (.ref b2)],rfl,rfl⟩,_,rfl,_,rfl,.ref b,.ref b2,true,true,rfl,ot x12 li (x12 _ _ hb),ot x12 lj (x12 _ _ hb2),(λ z=>by cases z),(λ _ z=>by cases z),λ a1 a2 n1 n2 s1 s2 q1 q2 t1 t2 _ _=>?_⟩
   cases q1;cases q2;rw [x12 _ _ hb] at t1;rw [x12 _ _ hb2] at t2;cases t1;cases t2;refine k2 _ H2 hDD2 ⟨aO _ x2 hD2,?_⟩;have es:(os.map λ p=>i8 os[i] p)[j]?=some (i8 os[i] os[j]):=by
    rw [List.getElem?_map,List.getElem?_eq_getElem lj];rfl
   rw [aA es,List.map_append,<- ez];rfl
  ·rintro zs H2 lz hDD2 ⟨x2,ez⟩;have l2:(os.map λ p=>i8 os[i] p).length=xs.length:=by rw [List.length_map,lx]
   rw [<- l2,List.take_length] at ez;rw [ez] at hDD2;refine⟨D2,_,rfl,SqL.of hDD2,?_⟩;refine k _ H2 (x2 _ _ hDD) ⟨aO _ (x'.trans x2) hD,?_⟩;have es:(cr os)[i]?=some ((os.map λ p=>i8 os[i] p).sum):=by
    unfold cr;rw [List.getElem?_map,List.getElem?_eq_getElem li];rfl
   rw [aA es,List.map_append,<- ey];rfl
 ·rintro ys H' ly hDD ⟨x',ey⟩;have l2:(cr os).length=xs.length:=by unfold cr;rw [List.length_map,lx]
  rw [<- l2,List.take_length] at ey;rw [ey] at hDD;exact q D H' x' hD hDD
end
def dS (a b c d:Addr):Nat->Addr
 | 0=>a
 | 1=>b
 | 2=>c
 | _=>d
section
variable {P:Program}{w:World}{K:Frag}{mg:Str->Option Value}{base:Heap}{C MC:Nat->Addr}{CU CN f:Addr}{fd:FuncData}(dj:∀ i j,i<4->j<4->MC i=MC j->i=j)
include dj
theorem Eu (h:FnOk P w K mg base aq 1 f fd ["self","outcomes"] (sy λ os=>os.map (·.1))):FnOk P w K mg base aq 7 f fd ["self","outcomes"] (jk MC (MC 0)):=by
 refine(h.mono (by decide)).imp λ vs H Q E z=>?_
 obtain⟨k,v,a,os,hk,e,rfl,go,q⟩:=z;have ek:=dj 0 k (by decide) hk e
 subst ek;obtain⟨xs,ha,oc⟩:=go.ex;exact⟨v,a,xs,os,rfl,ha,oc,go.ln,q⟩
theorem DV (h:FnOk P w K mg base aq 1 f fd ["self","outcomes"] (sy λ os=>os.map λ o=>rk (os.map (·.1)) o.1)):FnOk P w K mg base aq 7 f fd ["self","outcomes"] (jk MC (MC 1)):=by
 refine(h.mono (by decide)).imp λ vs H Q E z=>?_
 obtain⟨k,v,a,os,hk,e,rfl,go,q⟩:=z;have ek:=dj 1 k (by decide) hk e
 subst ek;obtain⟨xs,ha,oc⟩:=go.ex;exact⟨v,a,xs,os,rfl,ha,oc,go.ln,q⟩
theorem EK (h:FnOk P w K mg base aq 6 f fd ["self","outcomes"] (vO K)):FnOk P w K mg base aq 7 f fd ["self","outcomes"] (jk MC (MC 2)):=by
 refine(h.mono (by decide)).imp λ vs H Q E z=>?_
 obtain⟨k,v,a,os,hk,e,rfl,go,q⟩:=z;have ek:=dj 2 k (by decide) hk e
 subst ek;obtain⟨xs,ha,oc⟩:=go.ex;exact⟨v,a,xs,os,rfl,ha,oc,go.bd,go.ln,q⟩
theorem FA (h:FnOk P w K mg base aq 6 f fd ["self","outcomes"] (vj K)):FnOk P w K mg base aq 7 f fd ["self","outcomes"] (jk MC (MC 3)):=by
 refine(h.mono (by decide)).imp λ vs H Q E z=>?_
 obtain⟨k,v,a,os,hk,e,rfl,go,q⟩:=z;have ek:=dj 3 k (by decide) hk e
 subst ek;obtain⟨xs,ha,oc⟩:=go.ex;exact⟨v,a,xs,os,rfl,ha,oc,go.bd,go.ln,go.ev rfl,q⟩
theorem D7 (h:FnOk P w K mg base (cC P w) 4 f fd ["self","rule","outcomes"] (tU CU)):FnOk P w K mg base (cC P w) 5 f fd ["self","rule","outcomes"] (iJ C MC CU CN (MC 0)):=by
 refine(h.mono (by decide)).imp λ vs H Q E z=>?_
 obtain⟨k,v,r,t,a,xs,os,hk,e,rfl,ru,l1,l2,ha,oc,q1,q2⟩:=z;have ek:=dj 0 k (by decide) hk e
 subst ek;exact⟨v,r,a,xs,os,rfl,ha,oc,q1,q2⟩
theorem Fq (h:FnOk P w K mg base (cC P w) 4 f fd ["self","rule","outcomes"] (tU CU)):FnOk P w K mg base (cC P w) 5 f fd ["self","rule","outcomes"] (iJ C MC CU CN (MC 1)):=by
 refine(h.mono (by decide)).imp λ vs H Q E z=>?_
 obtain⟨k,v,r,t,a,xs,os,hk,e,rfl,ru,l1,l2,ha,oc,q1,q2⟩:=z;have ek:=dj 1 k (by decide) hk e
 subst ek;exact⟨v,r,a,xs,os,rfl,ha,oc,q1,q2⟩
theorem Eb (h:FnOk P w K mg base aq 1 f fd ["self","rule","outcomes"] AN):FnOk P w K mg base (cC P w) 5 f fd ["self","rule","outcomes"] (iJ C MC CU CN (MC 2)):=by
 refine(My.FnOk.toE (h.mono (show 1<=5 by decide))).imp λ vs H Q E z=>?_
 obtain⟨k,v,r,t,a,xs,os,hk,e,rfl,ru,l1,l2,ha,oc,q1,q2⟩:=z;have ek:=dj 2 k (by decide) hk e
 subst ek;exact⟨v,r,_,rfl,q1 rfl H (Ext.refl _)⟩
theorem EB (h:FnOk P w K mg base (cC P w) 4 f fd ["self","rule","outcomes"] (Ap C CN)):FnOk P w K mg base (cC P w) 5 f fd ["self","rule","outcomes"] (iJ C MC CU CN (MC 3)):=by
 refine(h.mono (by decide)).imp λ vs H Q E z=>?_
 obtain⟨k,v,r,t,a,xs,os,hk,e,rfl,ru,l1,l2,ha,oc,q1,q2⟩:=z;have ek:=dj 3 k (by decide) hk e
 subst ek;exact⟨v,r,_,t,rfl,ru,l1,l2,q1,q2⟩
omit dj
theorem uN {c:Addr}(h:FnOk P w K mg base aq 8 f fd ["self","rule","outcomes"] (rN MC)):FnOk P w K mg base aq 8 f fd ["self","rule","outcomes"] (lF MC c):=h.imp λ vs H Q E z=>⟨c,z⟩
end
section
variable {P:Program}{w:World}{K:Frag}{mg:Str->Option Value}{base:Heap}
abbrev eS:Stmt:=bR 68
abbrev qh (i:Nat):Stmt:=(ax eS).getD i (.Pass ⟨0,0,0,0⟩)
def dH (K:Frag):Sp:=λ vs H Q _=>∃(s:Addr)(ns:List Int)(p:Addr)(m:Int),vs=[.ref s,.ref p,.int m]/\SqL K H s (ns.map V.int)/\ns.length<=63/\s≠p/\BoxAt H p/\0<m/\m<1073741824/\∀(r:Int)(H':Hp),0<=r->r<m->BoxAt H' p->Kept H H' p->(∀ b,H b=none->H' b=none)->Q (.int r) H'
abbrev xQ:List Str:=["_law_script","_law_pen","_law_many","_law_cell","_law_found","_law_number"]
theorem scT:ad xQ ["_law_script","_law_pen","_law_many"] (aa eS):=aJ
theorem hV {H:Hp}{p:Addr}(o:HO):Kept H (ae H p o) p:=λ b u h n=>by rw [ag n];exact h
theorem hG {H:Hp}{p:Addr}{o u:HO}(h:H p=some u):∀ b,H b=none->ae H p o b=none:=λ b hb=>by
 rw [ag (λ e=>by subst e;rw [h] at hb;cases hb)];exact hb
def j7 (K:Frag)(i:Int):TE:=aB (cE K) (af 1) (tC (.int i))
def kI (i:Int)(te:TE):TS:=cj te (B8 (af 1) (tC (.int i)) qG)
def BM (K:Frag):TE:=gU (λ xs H Q=>∃ i j,xs=[.int i,.int j]/\Q (.int (if j<i then j else i)) H) (am (gU (λ xs H Q=>∃ p ys,xs=[.ref p]/\(SqL K H p ys\/SqT K H p ys)/\Q (.int ys.length) H) (am (af 0) aL)) (am (tC (.int 63)) aL))
def Gi (K:Frag):TS:=aV (cj (aB (cE K) (af 0) (j7 K 0)) (aP 3)) (aV (vW (af 1) (tC (.int 0)) (tC (.int 1)) (vt K) (F0 λ i j=>i+j) qG)
 (aV (kI 2 (aB (rI (λ _ j=>0<j) λ i j=>.int (i%j)) (aB (ck λ i j=>.int (i+j)) (aB (ck λ i j=>.int (i+j)) (aB (rI CMul λ i j=>.int (i*j)) (j7 K 2) (tC (.int 48271))) (aB (rI (λ _ j=>0<j) λ i j=>.int (i%j)) (af 3) (tC (.int 2147483629)))) (j7 K 0)) (tC (.int 2147483647))))
 (fc (tB (aB (ck λ i j=>.bl (decide (j<=i))) (af 3) (aB (rI oz λ i j=>.int (i^j.toNat)) (tC (.int 10)) (tC (.int 18))))) (kI 1 (af 3)) cp)))
def xq (K:Frag):TS:=fc (yM (tB (aB nF (j7 K 1) (tC (.int 0)))) (tB (aB (ck λ i j=>.bl (decide (i<j))) (j7 K 0) (BM K)))) (Gi K) cp
def Cz (K:Frag):TS:=fc (tB (aB (ck λ i j=>.bl (decide (i>j))) (j7 K 1) (tC (.int 0)))) (aV (cj (aB (rI (λ _ j=>0<j) λ i j=>.int (i%j)) (j7 K 1) (af 2)) (aP 4)) (aV (kI 1 (aB (rI ix λ i j=>.int (i/j)) (j7 K 1) (af 2))) (cX (af 4)))) cp
def Bg (K:Frag):TS:=kI 2 (aB (rI (λ _ j=>0<j) λ i j=>.int (i%j)) (aB (ck λ i j=>.int (i+j)) (aB (rI CMul λ i j=>.int (i*j)) (j7 K 2) (tC (.int 69621))) (tC (.int 1013904223))) (tC (.int 2147483647)))
def Ck (K:Frag):TS:=cj (aB (rI (λ _ j=>0<j) λ i j=>.int (i%j)) (aB (rI CMul λ i j=>.int (i*j)) (j7 K 2) (j7 K 2)) (tC (.int 2147483629))) (aP 5)
def yJ (K:Frag):TS:=cX (aB (rI (λ _ j=>0<j) λ i j=>.int (i%j)) (aB (rI ix λ i j=>.int (i/j)) (aB (rI (λ _ j=>0<j) λ i j=>.int (i%j)) (aB (rI CMul λ i j=>.int (i*j)) (aB (ck λ i j=>.int (i+j)) (af 5) (aB (rI ix λ i j=>.int (i/j)) (j7 K 2) (tC (.int 16)))) (aB (ck λ i j=>.int (i+j)) (af 5) (tC (.int 3)))) (tC (.int 2147483587))) (tC (.int 7))) (af 2))
def B0 (K:Frag):TS:=aV (xq K) (aV (Cz K) (aV (Bg K) (aV (Ck K) (yJ K))))
variable {f:Addr}{cdv:Value}{A:Around}{outer:List Env}{s:Shared}{H:Hp}{E:XK}
theorem EH (ml:mg "len" = none)(mm:mg "min" = none):Bx (PS (aH aq P w K mg base xQ "_law_take" (aa eS) f cdv A outer s H E).nox (qh 0) (xq K)):=by
 have nd:=scT.nd;exact iu ⟨PW.pt (my (av cT (c8 fU (pv 1) az) az (au _)) (km (av nU (c8 fU (pv 1) az) (ai (pi rfl) rfl mm PyProof.Rows.boot_min (ac (ai ar rfl ml PySem.boot_len (ac (pv 0) ao)) (ac az ao))) (au _))))⟩
  (cQ (aW (i:=3) nd rfl (Or.inl rfl) ⟨c8 fU (pv 0) (c8 fU (pv 1) az)⟩) (cQ ⟨uy (pv 1) az qf az wA fA⟩
  (cQ ⟨fQ (aj dG (aj bo (aj bo (aj dB (c8 fU (pv 1) az) az) (aj dG (pv 3) az)) (c8 fU (pv 1) az)) az) (kj (pv 1) az fA)⟩
  (aY ⟨bB (av vS (pv 3) (aj yw az az) (au _)) (bc (fQ (pv 3) (kj (pv 1) az fA))) gz⟩)))) eF
theorem Es:Bx (PS (aH aq P w K mg base xQ "_law_take" (aa eS) f cdv A outer s H E).nox (qh 1) (Cz K)):=by
 have nd:=scT.nd;exact iu ⟨av ft (c8 fU (pv 1) az) az (au _)⟩ (cQ (aW (i:=4) nd rfl (Or.inl rfl) ⟨aj dG (c8 fU (pv 1) az) (pv 2)⟩)
  (cQ ⟨fQ (aj fH (c8 fU (pv 1) az) (pv 2)) (kj (pv 1) az fA)⟩ (aY ⟨cZ (pv 4)⟩))) eF
theorem El:Bx (PS (aH aq P w K mg base xQ "_law_take" (aa eS) f cdv A outer s H E).nox (qh 2) (Bg K)) :=
 ⟨fQ (aj dG (aj bo (aj dB (c8 fU (pv 1) az) az) az) az) (kj (pv 1) az fA)⟩
theorem Et:Bx (PS (aH aq P w K mg base xQ "_law_take" (aa eS) f cdv A outer s H E).nox (qh 3) (Ck K)) :=
 aW (i:=5) scT.nd rfl (Or.inl rfl) ⟨aj dG (aj dB (c8 fU (pv 1) az) (c8 fU (pv 1) az)) az⟩
theorem Fw:Bx (PS (aH aq P w K mg base xQ "_law_take" (aa eS) f cdv A outer s H E).nox (qh 4) (yJ K)) :=
 ⟨cZ (aj dG (aj fH (aj dG (aj dB (aj bo (pv 5) (aj fH (c8 fU (pv 1) az) az)) (aj bo (pv 5) az)) az) az) (pv 2))⟩
theorem yp (ml:mg "len" = none)(mm:mg "min" = none):Bx (PSs (aH aq P w K mg base xQ "_law_take" (aa eS) f cdv A outer s H E).nox (ax eS) (B0 K)) :=
 cQ (EH ml mm) (cQ Es (cQ El (cQ Et (aY Fw))))
variable {D:cw}
theorem eZ {Q:VK}{σ:St}{p:Addr}{xs:List V}{v:V}(k:Nat)(h1:σ[1]?=some (some (.ref p)))(hp:H p=some (.lst xs))(hv:xs[k]?=some v)(q:Q v H):j7 K (k:Nat) σ H Q:=⟨_,h1,p,_,_,_,rfl,rfl,SqL.of hp,dL hv,q⟩
theorem zF {c:Int}(h0:0<=c)(h1:c<2147483647)(y:Int):CMul c y:=.inl ⟨Int.lt_of_lt_of_le (by decide) h0,Int.lt_trans h1 (by decide)⟩
theorem hI {σ:St}{p:Addr}{xs:List V}{te:TE}{v:V}(k:Nat)(h1:σ[1]?=some (some (.ref p)))(hp:H p=some (.lst xs))(hk:k<xs.length)(ht:∀ R:VK,R v H->te σ H R)(nx:D.nx σ (ae H p (.lst (xs.set k v)))):kI (k:Nat) te D σ H:=by
 refine ht _ ⟨_,h1,p,xs,_,k,rfl,rfl,hp,?_,nx⟩;unfold vk;rw [if_pos (by omega),if_pos (by omega),Int.toNat_natCast]
theorem wx {sA p:Addr}{ns:List Int}{o2 o3 o4 o5:Option V}(hs:SqL K H sA (ns.map V.int))(l63:ns.length<=63)(bx:BoxAt H p)(nx:∀ o3 H',BoxAt H' p->Kept H H' p->(∀ b,H b=none->H' b=none)->D.nx [some (.ref sA),some (.ref p),o2,o3,o4,o5] H') :
  xq K D [some (.ref sA),some (.ref p),o2,o3,o4,o5] H:=by
 obtain⟨a,b,c,hp,a0,b0,c0,c1⟩:=id bx.ex;refine eZ 1 rfl hp rfl ⟨rfl,_,rfl,?_⟩;by_cases eb:b=0
 rotate_left
 ·rw [decide_eq_false (λ z=>eb (V.int.inj z))];exact cH (cH (nx _ H bx (Kept.refl _ _) λ _ h=>h))
 rw [decide_eq_true (by rw [eb])]
 refine cW (eZ 0 rfl hp rfl ⟨_,rfl,sA,_,rfl,.inl hs,_,_,rfl,_,_,rfl,rfl,_,rfl,?_⟩);refine nq (λ cc=>?_) (λ cc=>nx _ H bx (Kept.refl _ _) λ _ h=>h);have cl:a<ns.length:=by
  have:=of_decide_eq_true cc;rw [List.length_map] at this;split at this <;> omega
 have ha:a.toNat<ns.length:=by omega
 have ea:a=((a.toNat:Nat):Int):=by omega
 have at1:vu (ns.map V.int) a=some (.int ns[a.toNat]):=by
  have e:=dL (xs:=ns.map V.int) (j:=a.toNat) (v:=.int ns[a.toNat]) (by rw [List.getElem?_map,List.getElem?_eq_getElem ha];rfl)
  rwa [<- ea] at e
 refine⟨_,rfl,eZ 0 rfl hp rfl ⟨sA,_,_,_,rfl,rfl,hs,at1,?_⟩⟩;generalize ns[a.toNat]=cell;refine⟨_,rfl,p,_,0,_,rfl,rfl,SqL.of hp,rfl,a,1,rfl,rfl,p,_,_,0,rfl,rfl,hp,rfl,?_⟩;have f1:ae H p (.lst [.int (a+1),.int b,.int c]) p=some (.lst [.int (a+1),.int b,.int c]):=aR;show aV _ _ D _ (ae H p (.lst [.int (a+1),.int b,.int c]));refine hI (σ:=[some (.ref sA),some (.ref p),o2,some (.int cell),o4,o5]) (te:=aB (rI (λ _ j=>0<j) λ i j=>.int (i%j)) (aB (ck λ i j=>.int (i+j)) (aB (ck λ i j=>.int (i+j)) (aB (rI CMul λ i j=>.int (i*j)) (j7 K 2) (tC (.int 48271))) (aB (rI (λ _ j=>0<j) λ i j=>.int (i%j)) (af 3) (tC (.int 2147483629)))) (j7 K 0)) (tC (.int 2147483647))) (v:=.int ((c*48271+cell%2147483629+(a+1))%2147483647)) 2 rfl f1 (by show 2<3;decide) (λ R r=>eZ 2 rfl f1 rfl ⟨_,_,rfl,rfl,zF c0 c1 _,_,rfl,_,_,rfl,rfl,(by show(0:Int)<2147483629;decide),_,_,rfl,rfl,eZ 0 rfl f1 rfl ⟨_,_,rfl,rfl,_,_,rfl,rfl,(by show(0:Int)<2147483647;decide),r⟩⟩) ?_
 rw [eN];have m0:0<=(c*48271+cell%2147483629+(a+1))%2147483647:=Int.emod_nonneg _ (by decide)
 have m1:(c*48271+cell%2147483629+(a+1))%2147483647<2147483647:=Int.emod_lt_of_pos _ (by decide)
 generalize (c*48271+cell%2147483629+(a+1))%2147483647=c' at m0 m1 ⊢;rw [show([V.int (a+1),V.int b,V.int c].set 2 (V.int c'))=[V.int (a+1),V.int b,V.int c'] from rfl];have f2:ae H p (.lst [.int (a+1),.int b,.int c']) p=some (.lst [.int (a+1),.int b,.int c']):=aR;refine⟨_,rfl,10,18,rfl,rfl,⟨by decide,by decide,by decide⟩,_,_,rfl,rfl,_,rfl,?_⟩
 refine nq (λ c2=>?_) (λ c2=>?_)
 ·have big:(10:Int)^(18:Int).toNat<=cell:=of_decide_eq_true c2;have big0:(0:Int)<=(10:Int)^(18:Int).toNat:=by decide
  refine hI (v:=.int cell) 1 rfl f2 (by show 1<3;decide) (λ R r=>⟨_,rfl,r⟩) ?_
  rw [eN];exact nx _ _ ⟨_,_,_,aR,by omega,by omega,m0,m1⟩ (hV _) (hG hp)
 ·exact nx _ _ ⟨_,_,_,f2,by omega,b0,m0,m1⟩ (hV _) (hG hp)
theorem tR {f:Addr}{fd:FuncData}(F:Fun K "_law_take" "_law_take" eS f fd)(ml:mg "len" = none)(mm:mg "min" = none):FnOk P w K mg base aq 1 f fd ["_law_script","_law_pen","_law_many"] (dH K):=by
 refine F.ok scT (λ vs H Q E h=>?_) (λ cdv A outer s H vs Q E hr h=>?_)
 ·obtain⟨_,_,_,_,rfl,_⟩:=h;rfl
 obtain⟨sA,ns,p,m,rfl,hs,l63,ne,bx0,m0,m1,q0⟩:=h;obtain⟨der⟩:=yp ml mm (f:=f) (cdv:=cdv) (A:=A) (outer:=outer) (s:=s) (H:=H) (E:=E) (P:=P) (w:=w) (base:=base);refine⟨_,der,?_⟩;refine wx (D:=⟨_,Q,_,_⟩) hs l63 bx0 λ o3 H1 bx k1 n1=>?_;have q:∀(r:Int)(H':Hp),0<=r->r<m->BoxAt H' p->Kept H1 H' p->(∀ b,H1 b=none->H' b=none)->Q (.int r) H':=λ r H' a b c d e=>q0 r H' a b c (k1.trans d) λ b h=>e b (n1 b h);obtain⟨a,b,c,hp,a0,b0,c0,c1⟩:=id bx.ex;refine eZ 1 rfl hp rfl ⟨_,_,rfl,rfl,_,rfl,?_⟩;refine nq (λ cc=>?_) (λ cc=>?_)
 ·have b1:0<b:=of_decide_eq_true cc;refine aG (te:=aB (rI (λ _ j=>0<j) λ i j=>.int (i%j)) (j7 K 1) (af 2)) (i:=4) (D:=⟨_,Q,_,_⟩) (eZ 1 rfl hp rfl ⟨_,rfl,_,_,rfl,rfl,m0,?_⟩);refine hI (D:=⟨_,Q,_,_⟩) (v:=.int (b/m)) 1 rfl hp (by show 1<3;decide) (λ R r=>eZ 1 rfl hp rfl ⟨_,rfl,_,_,rfl,rfl,⟨m0,m1⟩,r⟩) ?_
  exact⟨_,rfl,q _ _ (Int.emod_nonneg _ (by omega)) (Int.emod_lt_of_pos _ m0) ⟨_,_,_,aR,a0,Int.ediv_nonneg b0 (by omega),c0,c1⟩ (hV _) (hG hp)⟩
 ·refine hI (σ:=[some (.ref sA),some (.ref p),some (.int m),o3,none,none]) (te:=aB (rI (λ _ j=>0<j) λ i j=>.int (i%j)) (aB (ck λ i j=>.int (i+j)) (aB (rI CMul λ i j=>.int (i*j)) (j7 K 2) (tC (.int 69621))) (tC (.int 1013904223))) (tC (.int 2147483647))) (D:=⟨_,Q,_,_⟩) (v:=.int ((c*69621+1013904223)%2147483647)) 2 rfl hp (by show 2<3;decide) (λ R r=>eZ 2 rfl hp rfl ⟨_,_,rfl,rfl,zF c0 c1 _,_,_,rfl,rfl,_,_,rfl,rfl,(by show(0:Int)<2147483647;decide),r⟩) ?_
  have e0:0<=(c*69621+1013904223)%2147483647:=Int.emod_nonneg _ (by decide)
  have e1:(c*69621+1013904223)%2147483647<2147483647:=Int.emod_lt_of_pos _ (by decide)
  generalize (c*69621+1013904223)%2147483647=c' at e0 e1 ⊢;have f2:ae H1 p (.lst [.int a,.int b,.int c']) p=some (.lst [.int a,.int b,.int c']):=aR;have bx2:BoxAt (ae H1 p (.lst [.int a,.int b,.int c'])) p:=⟨_,_,_,f2,a0,b0,e0,e1⟩;have q2:=λ r h0 h1=>q r (ae H1 p (.lst [.int a,.int b,.int c'])) h0 h1 bx2 (hV _) (hG hp);show aV _ _ _ _ (ae H1 p (.lst [.int a,.int b,.int c']));generalize ae H1 p (.lst [.int a,.int b,.int c'])=H2 at f2 bx2 q2 ⊢;refine aG (te:=aB (rI (λ _ j=>0<j) λ i j=>.int (i%j)) (aB (rI CMul λ i j=>.int (i*j)) (j7 K 2) (j7 K 2)) (tC (.int 2147483629))) (i:=5) (D:=⟨_,Q,_,_⟩) (eZ 2 rfl f2 rfl (eZ 2 rfl f2 rfl ⟨_,_,rfl,rfl,zF e0 e1 _,_,_,rfl,rfl,(by show(0:Int)<2147483629;decide),?_⟩))
  have n0:0<=c'*c'%2147483629:=Int.emod_nonneg _ (by decide)
  have n1:c'*c'%2147483629<2147483629:=Int.emod_lt_of_pos _ (by decide)
  show yJ K _ [some (.ref sA),some (.ref p),some (.int m),o3,none,some (.int (c'*c'%2147483629))] H2;generalize c'*c'%2147483629=n at n0 n1 ⊢;have g0:0<=c'/16:=Int.ediv_nonneg e0 (by decide)
  have g1:c'/16<2147483647:=Int.lt_of_le_of_lt (Int.ediv_le_self _ e0) e1;have cm:CMul (n+c'/16) (n+3):=.inl ⟨by omega,by omega⟩
  refine⟨_,rfl,eZ 2 rfl f2 rfl ⟨_,_,rfl,rfl,⟨(by show(0:Int)<16;decide),(by show(16:Int)<1073741824;decide)⟩,_,_,rfl,rfl,_,rfl,_,_,rfl,rfl,_,_,rfl,rfl,cm,_,_,rfl,rfl,(by show(0:Int)<2147483587;decide),_,_,rfl,rfl,⟨(by show(0:Int)<7;decide),(by show(7:Int)<1073741824;decide)⟩,_,rfl,_,_,rfl,rfl,m0,?_⟩⟩
  exact q2 _ (Int.emod_nonneg _ (by omega)) (Int.emod_lt_of_pos _ m0)
end
structure Sc (K:Frag)(H:Hp)(s p:Addr)(ns:List Int):Prop where
 sq:SqL K H s (ns.map V.int)
 l63:ns.length<=63
 ne:s≠p
 bx:BoxAt H p
theorem Sc.kept {K:Frag}{H H':Hp}{s p:Addr}{ns:List Int}(c:Sc K H s p ns)(k:Kept H H' p)(b:BoxAt H' p):Sc K H' s p ns:=⟨My.SqL.kp c.sq k c.ne,c.l63,c.ne,b⟩
theorem Sc.ext {K:Frag}{H H':Hp}{s p:Addr}{ns:List Int}(c:Sc K H s p ns)(x:Ext H H'):Sc K H' s p ns:=c.kept (x.kept p) (c.bx.ext x)
def fj (K:Frag)(te:TE):TE:=fY (dH K) [] E0 (am (af 0) (am (af 1) (am te aL)))
theorem bv {K:Frag}{H:Hp}{σ:St}{s p:Addr}{ns:List Int}{te:TE}{m:Int}{Q:VK}(c:Sc K H s p ns)(h0:σ[0]?=some (some (.ref s)))(h1:σ[1]?=some (some (.ref p)))(hm:∀ R:VK,R (.int m) H->te σ H R)(m0:0<m)(m1:m<1073741824)(q:∀ r H',0<=r->r<m->Sc K H' s p ns->Kept H H' p->Q (.int r) H'):fj K te σ H Q :=
 ⟨_,h0,_,h1,hm _ ⟨s,ns,p,m,rfl,c.sq,c.l63,c.ne,c.bx,m0,m1,λ r H' a b d e _=>q r H' a b (c.kept e d) e⟩⟩
def gI (rs:List R0)(n:Nat):PyData:=match rs[n]? with
 | none=>.tuple [.int (n:Nat),.none]
 | some r=>.tuple [.int (n:Nat),r.begin]
theorem xU (rs:List R0):gI rs 0=(Rl.blocks rs).begin:=by cases rs <;> rfl
section
variable {P:Program}{w:World}{K:Frag}{mg:Str->Option Value}{base:Heap}{C:Nat->Addr}{CR:Addr}
abbrev DI:Stmt:=ay (bR 42) 1
def yP (C:Nat->Addr):Sp:=λ vs H Q _=>∃(x:Addr)(n:Nat)(dx:Addr)(fs:List (Str × V))(l:Addr)(ws:List V)(rs:List R0),vs=[.ref x,.int (n:Nat)]/\H x=some (.ins (C 3) dx fs)/\fs.lookup ("rules" : Str)=some (.ref l)/\H l=some (.tup ws)/\All0 C H rs ws/\n<=rs.length/\∀ m H',Ext H H'->Rds H' (.ref m) (gI rs n)->Q (.ref m) H'
theorem FD:ad ["self","number"] ["self","number"] (aa DI):=aJ
theorem Bz {f:Addr}{fd:FuncData}(Z:KR K C CR)(F:Fun K "state_ahead" "Blocks.state_ahead" DI f fd)(M:Ms P w K mg base C)(ml:mg "len" = none):FnOk P w K mg base aq 2 f fd ["self","number"] (yP C):=by
 refine F.ok FD (λ vs H Q E h=>?_) (λ cdv A outer s H vs Q E hr h=>?_)
 ·obtain⟨_,_,_,_,_,_,_,rfl,_⟩:=h;rfl
 obtain⟨x,n,dx,fs,l,ws,rs,rfl,hx,hr',hl,al,nl,q⟩:=h;refine⟨_,bZ (bB (av cT (pv 1) (ai ar rfl ml PySem.boot_len (ac (vQ (pv 0) rfl) ao)) (au _)) (bc (cZ (bJ (ac (pv 1) (ac qB ao))))) gz)
  (bc (cZ (bJ (ac (pv 1) (ac (bL (c8 kD (vQ (pv 0) rfl) (pv 1)) M.begin hr ah) ao))))),?_⟩
 have c:=Z.cls 3 (by decide)
 have no:=Z.no 3 (by decide) "rules" (by decide +kernel)
 refine⟨_,rfl,_,rfl,x,C 3,dx,fs,_,rfl,hx,c,no,hr',l,ws,rfl,.inr (SqT.of hl),rfl,_,rfl,?_⟩;have lw:=al.1;by_cases e:n=rs.length
 ·rw [decide_eq_true (by rw [<- lw,e])]
  refine cW ⟨_,rfl,by show 2<=sizeLine;decide,λ m hm=>q m _ (Ext.new hm) ?_⟩
  have ea:gI rs n=.tuple [.int (n:Nat),.none]:=by unfold gI;rw [List.getElem?_eq_none (by omega)]
  rw [ea];exact .tup aR (.cons (.int _) (.cons .non .nil))
 ·rw [decide_eq_false (by intro z;injection z with z;omega)]
  have hn:n<rs.length:=by omega
  have hw:n<ws.length:=by omega
  have ru:=al.2 n _ _ (List.getElem?_eq_getElem hn) (List.getElem?_eq_getElem hw);refine cH ⟨_,rfl,bV (t:=.one rs[n]) (v:=ws[n]) (by decide +kernel) ru (λ R r=>⟨_,rfl,x,C 3,dx,fs,_,rfl,hx,c,no,hr',_,rfl,l,ws,_,_,rfl,rfl,SqT.of hl,dL (List.getElem?_eq_getElem hw),r⟩) ⟨_,.one rs[n],H,rfl,Ext.refl _,ru,λ b rb=>⟨by show 2<=sizeLine;decide,λ m hm=>q m _ (Ext.new hm) ?_⟩⟩⟩
  have ea:gI rs n=.tuple [.int (n:Nat),rs[n].begin]:=by unfold gI;rw [List.getElem?_eq_getElem hn]
  rw [ea];exact .tup aR (.cons (.int _) (.cons (rb.mono (Ext.new hm)) .nil))
abbrev tX:Stmt:=ay (bR 42) 0
abbrev Gm:List Str:=["self","rules","size","mark"]
theorem scBl:ad Gm ["self","rules"] (aa tX):=aJ
abbrev BX:Scope:={ kind:=.function,names:=[(".0",.local),("rule",.local)],isGenerator:=false,isCoroutine:=false }
theorem p9 {X:Cx}:aU X BX [] ["rule"] [] []:=by
 refine⟨rfl,rfl,by decide +kernel,by decide +kernel,by decide +kernel,(λ z c h=>nomatch h),(λ z h=>?_),by decide +kernel,(λ k z h=>by simp at h),rfl⟩
 exfalso;have h':List.lookup z [((".0" : Str),NameKind.local),(("rule" : Str),NameKind.local)]=some .cell\/List.lookup z [((".0" : Str),NameKind.local),(("rule" : Str),NameKind.local)]=some .free:=h;simp only [List.lookup_cons,List.lookup_nil] at h'
 repeat' (split at h')
 all_goals simp at h'
def jb (K:Frag)(C:Nat->Addr)(CT CM:Addr):Sp:=λ vs H Q E=>∃(x:Addr)(v:V)(dx:Addr)(G:Hp),vs=[.ref x,v]/\H x=some (.ins (C 3) dx [])/\Ext G H/\G x=none/\((NoK K G v "list" /\ ∀ H',Ext H H'->cF CT "found" v H' E) \/
 (∃ a xs bs,v=.ref a/\G a=some (.lst xs)/\xs.length<1000/\lX K C G xs bs/\B1 xs.length bs=false/\∀ H',Ext H H'->cF CT "found" v H' E) \/
 ∃ a xs rs,v=.ref a/\G a=some (.lst xs)/\All0 C G rs xs/\1<=rs.length/\rs.length<=6/\(∀ r∈rs,r.ok)/\(20<(rs.map R0.folk).sum->∀ H',Ext H H'->cF CM "many" (.int (rs.map R0.folk).sum) H' E)/\((rs.map R0.folk).sum<=20->∀ H',Kept H H' x->RuB C H' rs (.ref x)->Q .non H'))
theorem uP {G:Hp}{rs:List R0}{xs:List V}(Z:KR K C CR)(al:All0 C G rs xs):lX K C G xs (rs.map λ _=>true):=by
 refine⟨by rw [List.length_map,al.1],λ i x b hx hb=>?_⟩
 have hi:i<rs.length:=by have:=(List.getElem?_eq_some_iff.mp hx).1;rw [al.1];exact this
 rw [List.getElem?_map,List.getElem?_eq_getElem hi] at hb;cases hb;have k:=q9 (t:=.one rs[i]) Z (al.2 i _ x (List.getElem?_eq_getElem hi) hx);have e:((Rl.one rs[i]).kind==0||((Rl.one rs[i]).kind==1||(Rl.one rs[i]).kind==2))=true:=by
  show(rs[i].kind==0||(rs[i].kind==1||rs[i].kind==2))=true;cases rs[i] <;> rfl
 rw [e] at k;exact k
theorem uA {n:Nat}(h1:1<=n)(h6:n<=6){rs:List R0}:B1 n (rs.map λ _=>true)=true:=by
 unfold B1;rw [decide_eq_true h1,decide_eq_true h6,List.all_map];simp
variable {S g a1 a2 D CT CM fT fM:Addr}{gd d1 d2 eT eM:FuncData}{t:Tok}
def Gc (C:Nat->Addr):TE:=dk (oJ C) "folk" (λ _=>j8 C) E0 (af 0) aL
def Gf (C:Nat->Addr):TE:=dk (oJ C) "told" (λ _=>ib C) E0 (af 0) aL
theorem v6 {f:Addr}{fd:FuncData}(Z:KR K C CR)(F:Fun K "__init__" "Blocks.__init__" tX f fd)(M:Ms P w K mg base C)(MA:cq P w K mg base aq 2 "state_ahead" ["self","number"] (λ c=>c=C 3) (λ _=>yP C))(B:BaseC K D)(T1:fz K mg D "NoTrials" "found" CT fT eT)(T2:fz K mg D "TooMany" "many" CM fM eM)
  (Cf:dR K S "__init__" g)(G':FnOk P w K mg base aq 1 g gd ["self","size","first_state","mark","parts"] (ij C))(bG:Binds K gd ["self","size","first_state","mark","parts"] [])(mS:mg "Rule" = some (.ref S))
  (A1:Df P w K mg base aq 3 "are_block_rules" ["thing"] (As K C) a1 d1)(A2:Df P w K mg base aq 2 "parts_of" ["rules"] (An C) a2 d2)(mF:mg "MOST_FOLK" = some (.int 20 t))(ms:mg "sum" = none)(mt:mg "tuple" = none):FnOk P w K mg base (cC P w) 4 f fd ["self","rules"] (jb K C CT CM):=by
 refine la F scBl (λ vs H Q E h=>?_) (λ cdv A outer s H vs Q E hr h=>?_)
 ·obtain⟨_,_,_,_,rfl,_⟩:=h;rfl
 obtain⟨x,v,dx,G,rfl,hx,xG,nG,h⟩:=h;have nd:=scBl.nd;have hr1:Room 1 _:=hr.mono (by decide)
 have hr2:Room 2 _:=hr.mono (by decide)
 refine⟨_,bZ (bB (cg (bw (bK A1.G hr rfl A1.m A1.kp A1.b .nil ah (ac (pv 1) ao)))) (bc (cz B T1.cls (T1.ok P w base) hr2 T1.bi rfl T1.mgC (pv 1))) gz)
  (bZ (gW (i:=2) nd rfl (Or.inl rfl) (ai (dQ rfl) rfl ms PyProof.Rows.boot_sum (ac (bT (te:=Gc C) (g:=aP 0) rfl p9 (aE (pv 1)) (λ s H C fp=>by exact bU (i:=0) Ag rfl (.inl rfl)) (λ s H C fp=>by exact bL (pv 0) M.folk hr1 ah)) ao)))
  (bZ (bB (av ft (pv 2) (bS (v:=.int 20) rfl mF ⟨_,rfl⟩) (au _)) (bc (cz B T2.cls (T2.ok P w base) hr2 T2.bi rfl T2.mgC (pv 2))) gz)
  (bZ (dC (pv 0) (aM bX rfl mt PyProof.Rows.boot_tuple (ac (pv 1) ao)) rfl)
  (bZ (gW (i:=3) nd rfl (Or.inl rfl) (bJ (ac bh (ac (aM bX rfl mt PyProof.Rows.boot_tuple (ac (bT (te:=Gf C) (g:=aP 0) rfl p9 (aE (pv 1)) (λ s H C fp=>by exact bU (i:=0) Ag rfl (.inl rfl)) (λ s H C fp=>by exact bL (pv 0) M.told hr1 ah)) ao)) ao))))
  (bc (aw (bF Cf G' hr1 rfl mS bG .nil ah (ac (pv 0) (ac (pv 2) (ac (cV (pv 0) MA hr2 ah (ac az ao)) (ac (pv 3) (ac (bK A2.G hr2 rfl A2.m A2.kp A2.b .nil ah (ac (pv 1) ao)) ao)))))))))))),?_⟩
 rcases h with⟨nk,q⟩ | ⟨a,xs,bs,rfl,ha,l1,bk,bad,q⟩ | ⟨a,xs,rs,rfl,ha,al,l1,l6,ok,qm,q⟩
 ·refine⟨_,rfl,v,rfl,.inl ⟨nk.ext xG,λ H1 x1=>⟨_,rfl,cW ⟨_,rfl,λ e' de h1 h2 nd=>eR nd (q H1 x1 e' de h1 h2 nd)⟩⟩⟩⟩
 ·refine⟨_,rfl,_,rfl,.inr ⟨a,xs,bs,rfl,xG _ _ ha,l1,⟨bk.1,λ i x b h1 h2=>(bk.2 i x b h1 h2).ext xG⟩,λ H1 x1=>⟨_,rfl,?_⟩⟩⟩;rw [bad];exact cW ⟨_,rfl,λ e' de h1 h2 nd=>eR nd (q H1 x1 e' de h1 h2 nd)⟩
 have bk:=uP Z al;have lx:=al.1;refine⟨_,rfl,_,rfl,.inr ⟨a,xs,_,rfl,xG _ _ ha,by omega,⟨bk.1,λ i x b h1 h2=>(bk.2 i x b h1 h2).ext xG⟩,λ H1 x1=>⟨_,rfl,?_⟩⟩⟩
 rw [<- lx,uA l1 l6];refine cH ?_;have xG1:=xG.trans x1;refine⟨_,rfl,a,rfl,⟨_,SqL.of (xG1 _ _ ha)⟩,λ D hD=>?_⟩;refine bz (a:=a) (xs:=xs) (λ i ys H'=>Ext H1 H'/\ys=((rs.take i).map R0.folk).map V.int) (by rw [sizeLine_eq];omega) ⟨Ext.new hD,rfl⟩ (λ i ys H' pv=>SqL.of ((xG1.trans pv.1) _ _ ha)) ?_ ?_
 ·rintro i v ys H' ev ly hDD ⟨x',rfl⟩ os los R k;obtain⟨o0,rfl⟩:∃ o0,os=[o0]:=by
   match os,los with
   | [o0],_=>exact⟨o0,rfl⟩
  have hi:i<rs.length:=by have:=(List.getElem?_eq_some_iff.mp ev).1;omega
  have er:=List.getElem?_eq_getElem hi;have ru:=(al.2 i _ v er ev).ext (xG1.trans x');refine⟨⟨[some v],rfl,rfl⟩,bV (t:=.one rs[i]) (by decide +kernel) ru (λ R r=>⟨_,rfl,r⟩) ⟨v,.one rs[i],rfl,ru,k _ H' hDD ⟨aO _ x' hD,?_⟩⟩⟩
  rw [aA er,List.map_append,List.map_append];rfl
 rintro ys H2 ly hDD ⟨x2,rfl⟩;rw [<- lx,List.take_length] at hDD;refine⟨D,_,rfl,SqL.of hDD,?_⟩;refine⟨_,rfl,_,_,rfl,rfl,_,rfl,?_⟩;refine nq (λ c=>?_) (λ c=>?_)
 ·exact⟨_,rfl,λ e' de h1 h2 nd=>eR nd (qm (of_decide_eq_true c) H2 (x1.trans x2) e' de h1 h2 nd)⟩
 have s20:(rs.map R0.folk).sum<=20:=by
  have:¬ ((rs.map R0.folk).sum>20):=λ z=>c (decide_eq_true z);omega
 have x12:=x1.trans x2;have xG2:=xG.trans x12;refine⟨_,rfl,a,xs,rfl,.inl ⟨SqL.of (xG2 _ _ ha),λ l hl=>?_⟩⟩;have x3:=Ext.new (o:=.tup xs) hl;have hl3:ae H2 l (.tup xs) l=some (.tup xs):=aR;have hx3:=x3 _ _ (x12 _ _ hx);have hl0:G l=none:=by
  cases e:G l with
  | none=>rfl
  | some o=>rw [xG2 _ _ e] at hl;cases hl
 generalize ae H2 l (.tup xs)=H3 at x3 hl3 hx3 ⊢;have x03:=x12.trans x3;refine⟨_,rfl,x,C 3,dx,[],rfl,hx3,Z.cls 3 (by decide),Z.no 3 (by decide) _ (by decide +kernel),by decide,?_⟩
 have k4:Kept H3 (ae H3 x (.ins (C 3) dx (bH "rules" (.ref l) []))) x:=be _;have hx4:ae H3 x (.ins (C 3) dx (bH "rules" (.ref l) [])) x=some (.ins (C 3) dx [("rules",.ref l)]):=aR;have xl:l≠x:=λ e=>by rw [e,hx3] at hl3;cases hl3
 have hl4:=k4 _ _ hl3 xl;generalize ae H3 x (.ins (C 3) dx (bH "rules" (.ref l) []))=H4 at k4 hx4 hl4 ⊢;have kk4:Kept H H4 x:=(x03.kept x).trans k4;have xG4:=xG.kp nG kk4;refine⟨_,rfl,a,rfl,⟨_,SqL.of (xG4 _ _ ha)⟩,λ D2 hD2=>?_⟩;refine bz (a:=a) (xs:=xs) (λ i ys H'=>Ext H4 H'/\RdsAll G ys ((rs.take i).map R0.told)) (by rw [sizeLine_eq];omega) ⟨Ext.new hD2,.nil⟩ (λ i ys H' pv=>SqL.of ((xG4.trans pv.1) _ _ ha)) ?_ ?_
 ·rintro i v ys H' ev ly hDD ⟨x',ry⟩ os los R k;obtain⟨o0,rfl⟩:∃ o0,os=[o0]:=by
   match os,los with
   | [o0],_=>exact⟨o0,rfl⟩
  have hi:i<rs.length:=by have:=(List.getElem?_eq_some_iff.mp ev).1;omega
  have er:=List.getElem?_eq_getElem hi;have ru0:=al.2 i _ v er ev;have xg:=xG4.trans x';have ru:=ru0.ext xg;refine⟨⟨[some v],rfl,rfl⟩,bV (t:=.one rs[i]) (by decide +kernel) ru (λ R r=>⟨_,rfl,r⟩) ⟨v,.one rs[i],G,rfl,xg,ru0,λ b rb=>k b H' hDD ⟨aO _ x' hD2,?_⟩⟩⟩
  rw [aA er,List.map_append];exact ry.append (.cons rb .nil)
 rintro ys H5 ly hDD2 ⟨x5,ry⟩;rw [<- lx,List.take_length] at ry;refine⟨D2,ys,rfl,.inl ⟨SqL.of hDD2,λ m hm=>⟨by show 2<=sizeLine;decide,λ k hk=>?_⟩⟩⟩
 have x6:=Ext.new (o:=.tup ys) hm;have hm6:ae H5 m (.tup ys) m=some (.tup ys):=aR;generalize ae H5 m (.tup ys)=H6 at x6 hm6 hk ⊢;have x7:=Ext.new (o:=.tup [.str "blocks",.ref m]) hk;have hk7:ae H6 k (.tup [.str "blocks",.ref m]) k=some (.tup [.str "blocks",.ref m]):=aR;generalize ae H6 k (.tup [.str "blocks",.ref m])=H7 at x7 hk7 ⊢;have x47:=(x5.trans x6).trans x7;have xG7:=xG4.trans x47;have hx7:=x47 _ _ hx4;have hl7:=x47 _ _ hl4;have rk7:Rds H7 (.ref k) (Rl.blocks rs).told:=.tup hk7 (.cons (.str _) (.cons (.tup (x7 _ _ hm6) (RdsAll.mono xG7 ry)) .nil));have al7:=al.ext xG7;refine⟨_,rfl,_,rfl,_,rfl,x,C 3,dx,_,rfl,rfl,hx7,rfl,⟨x,0,dx,_,l,xs,rs,rfl,hx7,rfl,hl7,al7,Nat.zero_le _,λ b H8 x8 rb=>?_⟩⟩;rw [xU] at rb;refine⟨_,rfl,_,rfl,a,xs,rs,rfl,(xG7.trans x8) _ _ ha,al7.ext x8,l6,ok,λ pr H9 x9 rp=>?_⟩;have x79:=x8.trans x9;have hx9:=x79 _ _ hx7;have hl9:=x79 _ _ hl7;refine⟨x,_,_,_,_,3,dx,[("rules",.ref l)],rfl,by decide,hx9,(by show 1<=5;decide),q s20 _ ((kk4.trans ((x47.trans x79).kept x)).trans (be _)) ?_⟩
 have kk:Kept H9 (ae H9 x (.ins (C 3) dx (fg (.int (rs.map R0.folk).sum) (.ref b) (.ref k) (.ref pr) [("rules",.ref l)]))) x:=be _;have xGe:=(xG7.trans x79).kp nG kk;refine gc aR ((rb.mono x9).kept hx9 kk) ((rk7.mono x79).kept hx9 kk) (rp.kept hx9 kk) (λ n hn=>?_) ⟨l,xs,?_,?_,al.ext xGe⟩
 ·have e:n = "rules" := by simpa using hn
  rw [e]
  decide +kernel
 ·rw [cM (by decide +kernel)]
  rfl
 ·exact kk _ _ hl9 xl
abbrev xu:Stmt:=bR 34
abbrev ET:List Str:=["parts","many","cut"]
theorem scPB:ad ET ["parts","many"] (aa xu):=aJ
def yv:Sp:=λ vs H Q _=>∃(v:V)(m:Int)(ps:List (List Int)),vs=[v,.int m]/\Rds H v (eH ps)/\Sm ps/\∀ l H',Ext H H'->Rds H' (.ref l) (eH (fv m ps))->Q (.ref l) H'
abbrev vB:Scope:={ kind:=.function,names:=[(".0",.local),("part",.local),("tuple",.globalImplicit),("many",.free)],isGenerator:=false,isCoroutine:=false }
abbrev Dp:Scope:={ kind:=.function,names:=[(".0",.local),("at",.local),("many",.free)],isGenerator:=false,isCoroutine:=false }
abbrev BS:Scope:={ kind:=.function,names:=[(".0",.local),("part",.local),("len",.globalImplicit)],isGenerator:=false,isCoroutine:=false }
theorem iB {n z:Str}{a c:Addr}(h:List.lookup z [(n,a)]=some c):z=n/\c=a:=by
 rw [List.lookup_cons] at h;cases e:z==n with
 | true =>
  rw [e] at h;exact⟨beq_iff_eq.mp e,(Option.some.inj h).symm⟩
 | false =>
  rw [e] at h;cases h
variable {f:Addr}{cdv:Value}{A:Around}{outer:List Env}{s:Shared}{H:Hp}{E:XK}
theorem uS:aU (aH aq P w K mg base ET "parts_below" (aa xu) f cdv A outer s H E).nox vB [("many",s.heap.objs.size+1)] ["part"] ["many"] [1]:=by
 refine⟨rfl,rfl,by decide +kernel,by decide +kernel,by decide +kernel,(λ z c h=>?_),(λ z h=>?_),by decide +kernel,(λ k z h=>?_),rfl⟩
 ·obtain⟨rfl,rfl⟩:=iB h;rfl
 ·have h':List.lookup z [((".0" : Str),NameKind.local),(("part" : Str),NameKind.local),(("tuple" : Str),NameKind.globalImplicit),(("many" : Str),NameKind.cell)]=some .cell\/List.lookup z [((".0" : Str),NameKind.local),(("part" : Str),NameKind.local),(("tuple" : Str),NameKind.globalImplicit),(("many" : Str),NameKind.cell)]=some .free:=h;have e:z = "many" := by
   simp only [List.lookup_cons,List.lookup_nil] at h'
   repeat' (split at h')
   all_goals first | (simp at h';done) | (rename_i e;exact beq_iff_eq.mp e)
  subst e;exact⟨_,rfl⟩
 ·cases k with
  | zero =>
   cases h;exact⟨1,rfl,rfl,.inr (.inl rfl),(by show(aa xu).names.lookup ("many" : Str)≠some NameKind.local;decide +kernel),.inl rfl⟩
  | succ k=>cases h
theorem C9:((["part"]:List Str)++(["many"]:List Str)).Nodup:=by decide +kernel
theorem AG:((["at"]:List Str)++(["many"]:List Str)).Nodup:=by decide +kernel
theorem sE {s1:Shared}{H1:Hp}{C1:Addr}{fp:List Addr}:aU (aT (aH aq P w K mg base ET "parts_below" (aa xu) f cdv A outer s H E).nox vB [("many",s.heap.objs.size+1)] ((["part"]:List Str)++(["many"]:List Str)) s1 H1 C1 fp) Dp [("many",s.heap.objs.size+1)] ["at"] ["many"] [1]:=by
 refine⟨rfl,rfl,by decide +kernel,by decide +kernel,by decide +kernel,(λ z c h=>?_),(λ z h=>?_),by decide +kernel,(λ k z h=>?_),rfl⟩
 ·obtain⟨rfl,rfl⟩:=iB h;rfl
 ·have h':List.lookup z [((".0" : Str),NameKind.local),(("at" : Str),NameKind.local),(("many" : Str),NameKind.cell)]=some .cell\/List.lookup z [((".0" : Str),NameKind.local),(("at" : Str),NameKind.local),(("many" : Str),NameKind.cell)]=some .free:=h;have e:z = "many" := by
   simp only [List.lookup_cons,List.lookup_nil] at h'
   repeat' (split at h')
   all_goals first | (simp at h';done) | (rename_i e;exact beq_iff_eq.mp e)
  subst e;exact⟨_,rfl⟩
 ·cases k with
  | zero =>
   cases h;exact⟨1,rfl,rfl,.inr (.inl rfl),(by intro z;cases z),.inl rfl⟩
  | succ k=>cases h
theorem uX {X:Cx}:aU X BS [] ["part"] [] []:=by
 refine⟨rfl,rfl,by decide +kernel,by decide +kernel,by decide +kernel,(λ z c h=>nomatch h),(λ z h=>?_),by decide +kernel,(λ k z h=>by simp at h),rfl⟩
 exfalso;have h':List.lookup z [((".0" : Str),NameKind.local),(("part" : Str),NameKind.local),(("len" : Str),NameKind.globalImplicit)]=some .cell\/List.lookup z [((".0" : Str),NameKind.local),(("part" : Str),NameKind.local),(("len" : Str),NameKind.globalImplicit)]=some .free:=h;simp only [List.lookup_cons,List.lookup_nil] at h'
 repeat' (split at h')
 all_goals simp at h'
def xi (K:Frag):List V->Hp->VK->Prop:=λ xs H Q=>∃ p ys,xs=[.ref p]/\((SqL K H p ys/\∀ l,H l=none->Q (.ref l) (ae H l (.tup ys)))\/(SqT K H p ys/\Q (.ref p) H))
def vF:TT:=tB (aB (ck λ i j=>.bl (decide (i<j))) (af 0) (af 1))
def Ec (K:Frag):TE:=gU (xi K) (am (cO (AF K (af 0)) 1 [1] (aP 0) vF (af 0)) aL)
def BI (K:Frag):List V->Hp->VK->Prop:=λ xs H Q=>∃ p ys,xs=[.ref p]/\(SqL K H p ys\/SqT K H p ys)/\Q (.int ys.length) H
def Ek (K:Frag):TT:=tB (aB (ck λ i j=>.bl (decide (i>j))) (gU (BI K) (am (af 0) aL)) (tC (.int 0)))
def FJ (m:Int):V->Bool
 | .int i=>decide (i<m)
 | _=>false
def yR (H:Hp):V->Bool
 | .ref a=>match H a with
  | some (.tup ys)=>decide (0<ys.length)
  | _=>false
 | _=>false
theorem AC {fd:FuncData}(F:Fun K "parts_below" "parts_below" xu f fd)(mt:mg "tuple" = none)(ml:mg "len" = none):FnOk P w K mg base aq 1 f fd ["parts","many"] yv:=by
 refine F.ok scPB (λ vs H Q E h=>?_) (λ cdv A outer s H vs Q E hr h=>?_)
 ·obtain⟨_,_,_,rfl,_⟩:=h;rfl
 obtain⟨v,m,ps,rfl,rv,sm,q⟩:=h;have nd:=scPB.nd;refine⟨_,bZ (mw (iy:=2) (te:=Ec K) (g:=aP 0) rfl uS (nv (pv 0)) (λ s H C fp=>by exact bU (i:=0) C9 rfl (.inl rfl))
   (λ s H C fp=>by exact aM bX rfl mt PyProof.Rows.boot_tuple (ac (eQ (te:=af 0) (tt:=vF) (g:=aP 0) rfl sE (nv (pv 0)) (λ s H C fp=>by exact bU (i:=0) AG rfl (.inl rfl)) (λ s H C fp=>by exact av nU (pv 0) (pv 1) (au _)) (λ s H C fp=>by exact pv 0)) ao)) nd rfl (Or.inl rfl) rfl)
  (bc (cZ (aM bX rfl mt PyProof.Rows.boot_tuple (ac (eQ (te:=af 0) (tt:=Ek K) (g:=aP 0) rfl uX (aE (pv 2)) (λ s H C fp=>by exact bU (i:=0) FP rfl (.inl rfl)) (λ s H C fp=>by exact av ft (ai ar rfl ml PySem.boot_len (ac (pv 0) ao)) az (au _)) (λ s H C fp=>by exact pv 0)) ao)))),?_⟩
 obtain⟨p,xs,rfl,hp,rs⟩:=fG rv;have lx:=rs.length;rw [List.length_map] at lx;have l20:=sm.1;refine⟨_,rfl,p,rfl,⟨_,SqT.of hp⟩,λ D hD=>?_⟩;refine nZ (a:=p) (xs:=xs) (λ i ys H'=>Ext H H'/\RdsAll (wo H' D) ys (((ps.take i).map (·.filter λ x=>decide (x<m))).map jS)) (by rw [sizeLine_eq];omega) ⟨Ext.new hD,.nil⟩ (λ i ys H' pv=>SqT.of (pv.1 _ _ hp)) ?_ ?_
 ·rintro i x ys H' ex ly hDD ⟨x',ry⟩ os los R k;obtain⟨o0,rfl⟩:∃ o0,os=[o0]:=by
   match os,los with
   | [o0],_=>exact⟨o0,rfl⟩
  have hi:i<ps.length:=by have:=(List.getElem?_eq_some_iff.mp ex).1;omega
  have ep:=List.getElem?_eq_getElem hi;obtain⟨c,rfl,hc⟩:=ia rs ex ep;have hc':=x' _ _ hc;have pl:=sm.2 _ (List.getElem_mem hi);refine⟨⟨[some (.ref c)],rfl,rfl⟩,_,rfl,c,rfl,⟨_,SqT.of hc'⟩,λ D2 hD2=>?_⟩;refine FU (xs:=ps[i].map V.int) (J:=Ak K c) (FJ m) (by rw [List.length_map,sizeLine_eq];omega) hD2 (λ j H1 x1 lt=>⟨_,_,SqT.of (x1 _ _ hc'),List.getElem?_eq_getElem lt⟩) (λ H1 x1=>⟨_,SqT.of (x1 _ _ hc'),Nat.le_refl _⟩)
   (λ j H1 y H1' x1 ⟨e,hy⟩=>⟨e,hy _ (SqT.of (x1 _ _ hc'))⟩) (λ j y H1 hy x1 R r=>?_) (λ H4 x4 h4=>?_)
  ·rw [List.getElem?_map] at hy;obtain⟨n,_,rfl⟩:=Option.map_eq_some_iff.mp hy;exact⟨_,rfl,_,rfl,_,_,rfl,rfl,_,rfl,r H1 (Ext.refl _)⟩
  rw [cS (λ n=>decide (n<m)) (FJ m) (λ _=>rfl)] at h4;refine⟨D2,_,rfl,.inl ⟨SqL.of h4,λ t ht=>?_⟩⟩;have x5:=Ext.new (o:=.tup ((ps[i].filter λ n=>decide (n<m)).map V.int)) ht;have x45:=x4.trans x5;have tD:t≠D:=λ e=>by rw [e,x4 _ _ hDD] at ht;cases ht
  refine k _ _ (x45 _ _ hDD) ⟨aO _ (x'.trans x45) hD,?_⟩;rw [aA ep,List.map_append,List.map_append];exact RdsAll.mono vz ((RdsAll.mono (bq x45 D) ry).append (.cons (.tup (bD tD aR) (cI _ _)) .nil))
 rintro ys H2 ly hDD ⟨x2,ry⟩;rw [lx,List.take_length] at ry;have ry2:=RdsAll.mono (ak H2 D) ry;refine⟨_,rfl,D,rfl,⟨_,SqL.of hDD⟩,λ D3 hD3=>?_⟩;have pp:∀(i:Nat) y qq,ys[i]?=some y->(ps.map λ p:List Int=>p.filter λ x=>decide (x<m))[i]?=some qq->∃ a,y=.ref a/\H2 a=some (.tup (qq.map V.int)):=λ i y qq hy hq=>ia ry2 hy hq;have ly2:=ry2.length;rw [List.length_map,List.length_map] at ly2;refine FU (xs:=ys) (J:=kq K D) (yR H2) (by rw [sizeLine_eq];omega) hD3 (λ j H1 x1 lt=>⟨_,_,SqL.of (x1 _ _ hDD),List.getElem?_eq_getElem lt⟩) (λ H1 x1=>⟨_,SqL.of (x1 _ _ hDD),Nat.le_refl _⟩)
  (λ j H1 y H1' x1 ⟨e,hy⟩=>⟨e,hy _ (SqL.of (x1 _ _ hDD))⟩) (λ j y H1 hy x1 R r=>?_) (λ H4 x4 h4=>?_)
 ·have hj:j<(ps.map λ p:List Int=>p.filter λ x=>decide (x<m)).length:=by have:=(List.getElem?_eq_some_iff.mp hy).1;rw [List.length_map];omega
  obtain⟨a,rfl,ha⟩:=pp j y _ hy (List.getElem?_eq_getElem hj);have hv:yR H2 (.ref a)=decide (0<((ps.map λ p:List Int=>p.filter λ x=>decide (x<m))[j].map V.int).length):=by
   show(match H2 a with | some (.tup ys)=>decide (0<ys.length) | _=>false)=_
   rw [ha]
  refine⟨_,rfl,a,_,rfl,.inr (SqT.of (x1 _ _ ha)),_,_,rfl,rfl,_,rfl,?_⟩;have:=r H1 (Ext.refl _);rw [hv] at this;have e2:decide ((((ps.map λ p:List Int=>p.filter λ x=>decide (x<m))[j].map V.int).length:Int)>0)=decide (0<((ps.map λ p:List Int=>p.filter λ x=>decide (x<m))[j].map V.int).length):=decide_eq_decide.mpr (by omega)
  rw [e2];exact this
 refine⟨D3,_,rfl,.inl ⟨SqL.of h4,λ l hl=>?_⟩⟩;have x5:=Ext.new (o:=.tup (ys.filter (yR H2))) hl;refine q l _ (x2.trans (x4.trans x5)) (.tup aR ?_);unfold fv;refine RdsAll.filter (f:=jS) (RdsAll.mono (x4.trans x5) ry2) λ i y qq hy hq=>?_;obtain⟨a,rfl,ha⟩:=pp i y qq hy hq;show(match H2 a with | some (.tup ys)=>decide (0<ys.length) | _=>false)=_
 rw [ha];show decide (0<(qq.map V.int).length)=_;rw [List.length_map]
abbrev sV:Stmt:=ay (bR 43) 0
abbrev Gj:List Str:=["self","rule","many"]
theorem scFi:ad Gj ["self","rule","many"] (aa sV):=aJ
def kE (C:Nat->Addr)(CN:Addr):Sp:=λ vs H Q E=>∃(x:Addr)(v u:V)(t:Rl)(d:PyData)(dx:Addr)(G:Hp),vs=[.ref x,v,u]/\H x=some (.ins (C 4) dx [])/\Ext G H/\G x=none/\Ru C G t v/\Sm t.parts/\Rds G u d/\(jB 0 t.folk d=false->cF CN "found" u H E)/\∀ m,d=.int m->0<=m->m<=t.folk->∀ H',Kept H H' x->Ru C H' (.first t m) (.ref x)->Q .non H'
variable {CN:Addr}
theorem oP {G:Hp}{t:Rl}{v:V}(ru:Ru C G t v):(t.kind=4->∃ a dx fs d,v=.ref a/\G a=some (.ins (C 4) dx fs)/\fs.lookup ("dealer" : Str)=some d/\RuN C G t.inner d)/\(t.kind≠4->RuN C G t.inner v):=by
 cases t with
 | one r=>exact⟨λ e=>by have:=r.kind_lt;have e':r.kind=4:=e;omega,λ _=>ru⟩
 | blocks rs=>exact⟨λ e=>(by cases e),λ _=>ru⟩
 | first t m =>
  refine⟨λ _=>?_,λ e=>absurd rfl e⟩;obtain⟨a,dx,fs,rfl,ha,_,_,_,_,_,d,hd,rn⟩:=ru.ex;exact⟨a,dx,fs,d,rfl,ha,hd,rn⟩
theorem wb {fd:FuncData}(N:sd K)(Z:KR K C CR)(F:Fun K "__init__" "First.__init__" sV f fd)(M:Ms P w K mg base C)(Cf:dR K S "__init__" g)(G':FnOk P w K mg base aq 1 g gd ["self","size","first_state","mark","parts"] (ij C))(bG:Binds K gd ["self","size","first_state","mark","parts"] [])(mS:mg "Rule" = some (.ref S))
  (A1:Df P w K mg base (cC P w) 3 "need_number" ["thing","low","high"] (qA CN) a1 d1)(A2:Df P w K mg base aq 1 "parts_below" ["parts","many"] yv a2 d2)(m4:mg "First" = some (.ref (C 4)))(mi:mg "isinstance" = none):FnOk P w K mg base (cC P w) 4 f fd ["self","rule","many"] (kE C CN):=by
 refine la F scFi (λ vs H Q E h=>?_) (λ cdv A outer s H vs Q E hr h=>?_)
 ·obtain⟨_,_,_,_,_,_,_,rfl,_⟩:=h;rfl
 obtain⟨x,v,u,t,d,dx,G,rfl,hx,xG,nG,ru,sm,rd,qe,q⟩:=h;have nd:=scFi.nd;have hr1:Room 1 _:=hr.mono (by decide)
 refine⟨_,bZ (aw (bK A1.G hr rfl A1.m A1.kp A1.b .nil cU (ac (pv 2) (ac az (ac (bL (pv 1) M.folk hr1 ah) ao)))))
  (bZ (dC (pv 0) (kB (bw (ai (pP N) rfl mi PyProof.Rows.boot_isinstance (ac (pv 1) (ac (bS (v:=.ref (C 4)) rfl m4 rfl) ao)))) (vQ (pv 1) rfl) (pv 1)) rfl)
  (bc (aw (bF Cf G' hr1 rfl mS bG .nil ah (ac (pv 0) (ac (pv 2) (ac (bL (pv 1) M.begin hr1 ah) (ac (bJ (ac bh (ac (bL (pv 1) M.told hr1 ah) (ac (pv 2) ao)))) (ac (bK A2.G hr1 rfl A2.m A2.kp A2.b .nil ah (ac (vQ (pv 1) rfl) (ac (pv 2) ao))) ao))))))))),?_⟩
 have ruH:=ru.ext xG;refine⟨_,rfl,bV (by decide +kernel) ruH (λ R r=>⟨_,rfl,r⟩) ⟨v,t,rfl,ruH,u,d,0,t.folk,rfl,rd.mono xG,λ h1=>?_,λ h1=>qe h1⟩⟩
 obtain⟨m,rfl,m0,m1⟩:=eL h1;cases rd;have fin:∀ dv,RuN C G t.inner dv->BK K (af 0) (tC dv) "dealer" ⟨λ σ' H'=>ls (fY (ij C) [] E0 (am (af 0) (am (af 2) (am (dk (oJ C) "begin" (λ _=>hW C) E0 (af 1) aL) (am (iD (am (tC (.str "first")) (am (dk (oJ C) "told" (λ _=>ib C) E0 (af 1) aL) (am (af 2) aL)))) (am (fY yv [] E0 (am (Bu K (af 1) "parts") (am (af 2) aL))) aL)))))) ⟨λ _ H'=>Q .non H',Q,λ _ _=>False,λ _ _=>False⟩ σ' H',Q,λ _ _=>False,λ _ _=>False⟩ [some (.ref x),some v,some (.int m)] H:=λ dv rn=>by
  refine⟨_,rfl,x,C 4,dx,[],rfl,hx,Z.cls 4 (by decide),Z.no 4 (by decide) _ (by decide +kernel),by decide,?_⟩
  have k1:Kept H (ae H x (.ins (C 4) dx (bH "dealer" dv []))) x:=be _;have hx1:ae H x (.ins (C 4) dx (bH "dealer" dv [])) x=some (.ins (C 4) dx [("dealer",dv)]):=aR;generalize ae H x (.ins (C 4) dx (bH "dealer" dv []))=H1 at k1 hx1 ⊢;have xG1:=xG.kp nG k1;have ru1:=ru.ext xG1;obtain⟨a,da,fa,rfl,ha,_,_,_,⟨pp,hpp,rpp⟩,_⟩:=ru.ob.ex;refine⟨_,rfl,_,rfl,bV (by decide +kernel) ru1 (λ R r=>⟨_,rfl,r⟩) ⟨_,t,G,rfl,xG1,ru,λ b rb=>?_⟩⟩
  refine bV (by decide +kernel) ru1 (λ R r=>⟨_,rfl,r⟩) ⟨_,t,G,rfl,xG1,ru,λ c rc=>⟨_,rfl,by show 3<=sizeLine;decide,λ k hk=>?_⟩⟩
  have x2:=Ext.new (o:=.tup [.str "first",c,.int m]) hk;have hk2:ae H1 k (.tup [.str "first",c,.int m]) k=some (.tup [.str "first",c,.int m]):=aR;generalize ae H1 k (.tup [.str "first",c,.int m])=H2 at x2 hk2 ⊢;have xG2:=xG1.trans x2;refine⟨_,rfl,a,C t.kind,da,fa,_,rfl,xG2 _ _ ha,Z.cls _ t.kind_lt,Z.no _ t.kind_lt _ (by decide +kernel),hpp,_,rfl,pp,m,t.parts,rfl,rpp.mono xG2,sm,λ l H3 x3 rl=>?_⟩
  have x13:=x2.trans x3;have xG3:=xG1.trans x13;have hx3:=x13 _ _ hx1;have hk3:=x3 _ _ hk2;refine⟨x,_,_,_,_,4,dx,[("dealer",dv)],rfl,by decide,hx3,(by show 1<=5;decide),q m rfl m0 m1 _ ((k1.trans (x13.kept x)).trans (be _)) ?_⟩
  have kk:Kept H3 (ae H3 x (.ins (C 4) dx (fg (.int m) b (.ref k) (.ref l) [("dealer",dv)]))) x:=be _;have xGe:=xG3.kp nG kk;refine gc aR (rb.mono xGe) ((Rds.tup hk3 (.cons (.str _) (.cons (rc.mono xG3) (.cons (.int _) .nil)))).kept hx3 kk) (rl.kept hx3 kk) (λ n hn=>?_) ⟨dv,?_,rn.ext xGe⟩
  ·have e:n = "dealer" := by simpa using hn
   rw [e]
   decide +kernel
  ·rw [cM (by decide +kernel)]
   rfl
 have dl:=oP ru;refine⟨_,rfl,_,_,_,_,rfl,ruH.kd Z,Z.kk t.kind 4 t.kind_lt (by decide),_,rfl,?_⟩
 by_cases e4:t.kind=4
 ·rw [show(t.kind==4)=true from by simpa using e4]
  obtain⟨a,da,fa,dv,rfl,ha,hd,rn⟩:=dl.1 e4;exact cW ⟨_,rfl,a,C 4,da,fa,_,rfl,xG _ _ ha,Z.cls 4 (by decide),Z.no 4 (by decide) _ (by decide +kernel),hd,fin dv rn⟩
 ·rw [show(t.kind==4)=false from by simpa using e4]
  exact cH ⟨_,rfl,fin v (dl.2 e4)⟩
end
def vN (H H':Hp):Prop:=∀ b o,H b=some o->(∀ xs,o ≠ .lst xs)->H' b=some o
mutual
def bO:PyData->Bool
 | .list _=>false
 | .dict _=>false
 | .tuple xs=>noLsts xs
 | _=>true
def noLsts:List PyData->Bool
 | []=>true
 | x::xs=>bO x&&noLsts xs
end
theorem gv:∀{ds:List PyData},(∀ d∈ds,bO d=true)->noLsts ds=true
 | [],_=>by simp [noLsts]
 | x::xs,h=>by
  simp only [noLsts,h x (List.mem_cons_self ..),gv λ d hd=>h d (List.mem_cons_of_mem _ hd),Bool.and_self]
mutual
theorem Rds.keepT {G G':Hp}(s:vN G G'):∀{v:V}{d:PyData},bO d=true->Rds G v d->Rds G' v d
 | _,_,_,.non=>.non
 | _,_,_,.bl b=>.bl b
 | _,_,_,.int i=>.int i
 | _,_,_,.str x=>.str x
 | _,_,h,.lst e r=>by simp [bO] at h
 | _,_,h,.tup e r=>.tup (s _ _ e (λ _ z=>by cases z)) (RdsAll.keepT s (by simpa only [bO] using h) r)
 | _,_,h,.dic0 e=>by simp [bO] at h
 | _,_,h,.dic e r=>by simp [bO] at h
theorem RdsAll.keepT {G G':Hp}(s:vN G G'):∀{vs:List V}{ds:List PyData},noLsts ds=true->RdsAll G vs ds->RdsAll G' vs ds
 | _,_,_,.nil=>.nil
 | _,_,h,.cons r t=>by
  simp only [noLsts,Bool.and_eq_true] at h;exact .cons (Rds.keepT s h.1 r) (RdsAll.keepT s h.2 t)
end
theorem R0.nl (r:R0):bO r.told=true:=by cases r <;> simp [R0.told,bO,noLsts]
theorem R0.nlB (r:R0):bO r.begin=true:=by cases r <;> simp [R0.begin,bO]
theorem Rl.nl:∀ t:Rl,bO t.told=true
 | .one r=>r.nl
 | .blocks rs=>by
  have:noLsts (rs.map R0.told)=true:=gv λ d hd=>by
   obtain⟨r,_,rfl⟩:=List.mem_map.mp hd;exact r.nl
  simp only [Rl.told,bO,noLsts,this,Bool.and_self]
 | .first t m=>by simp only [Rl.told,bO,noLsts,t.nl,Bool.and_self]
theorem Rl.nlB:∀ t:Rl,bO t.begin=true
 | .one r=>r.nlB
 | .blocks []=>by simp [Rl.begin,bO,noLsts]
 | .blocks (r::_)=>by simp only [Rl.begin,bO,noLsts,r.nlB,Bool.and_self]
 | .first t _=>t.nlB
theorem nR:∀(ns:List Int),noLsts (ns.map PyData.int)=true
 | []=>by simp [noLsts]
 | n::ns=>by simp only [List.map_cons,noLsts,bO,nR ns,Bool.and_self]
theorem iA (ps:List (List Int)):bO (eH ps)=true:=by
 show noLsts (ps.map jS)=true;refine gv λ d hd=>?_;obtain⟨p,_,rfl⟩:=List.mem_map.mp hd;exact nR p
theorem Ob.keepT {C:Addr}{H H':Hp}{v:V}{fk:Int}{bg tl pt:PyData}{X Y:List (Str × V)->Prop}(h:Ob C H v fk bg tl pt X)(s:vN H H')(n1:bO bg=true)(n2:bO tl=true)(n3:bO pt=true)(k:∀ fs,X fs->Y fs):Ob C H' v fk bg tl pt Y:=by
 obtain⟨a,dx,fs,rfl,ha,h1,⟨b,h2,r2⟩,⟨m,h3,r3⟩,⟨p,h4,r4⟩,h5,h6⟩:=h.ex;exact⟨a,dx,fs,rfl,s _ _ ha (λ _ z=>by cases z),h1,⟨b,h2,r2.keepT s n1⟩,⟨m,h3,r3.keepT s n2⟩,⟨p,h4,r4.keepT s n3⟩,h5,k fs h6⟩
section
variable {C:Nat->Addr}{H H':Hp}
theorem ko {a b:Int}:bO (.tuple [.int a,.int b])=true:=by simp [bO,noLsts]
theorem Ru0.keepT {r:R0}{v:V}(h:Ru0 C H r v)(s:vN H H'):Ru0 C H' r v:=Ob.keepT h s r.nlB r.nl (iA _) λ fs e=>by
 cases r with
 | split _ _=>trivial
 | pairs _ a b =>
  obtain⟨c,e1,e2⟩:=e;exact⟨c,e1,e2.keepT s ko⟩
 | coins _ a b f =>
  obtain⟨⟨c,e1,e2⟩,e3⟩:=e;exact⟨⟨c,e1,e2.keepT s ko⟩,e3⟩
theorem All0.keepT {rs:List R0}{ws:List V}(h:All0 C H rs ws)(s:vN H H'):All0 C H' rs ws:=⟨h.1,λ i r w a b=>Ru0.keepT (h.2 i r w a b) s⟩
theorem RuB.keepT {rs:List R0}{v:V}(h:RuB C H rs v)(s:vN H H'):RuB C H' rs v:=Ob.keepT h s (Rl.nlB _) (Rl.nl _) (iA _) λ fs e=>by
 obtain⟨l,ws,e1,e2,e3⟩:=e;exact⟨l,ws,e1,s _ _ e2 (λ _ z=>by cases z),e3.keepT s⟩
theorem RuN.keepT {t:Rl}{v:V}(h:RuN C H t v)(s:vN H H'):RuN C H' t v:=by
 cases t with
 | one r=>exact Ru0.keepT h s
 | blocks rs=>exact RuB.keepT h s
 | first _ _=>exact h.elim
theorem Ru.keepT {t:Rl}{v:V}(h:Ru C H t v)(s:vN H H'):Ru C H' t v:=by
 cases t with
 | one r=>exact Ru0.keepT h s
 | blocks rs=>exact RuB.keepT h s
 | first t m=>exact Ob.keepT h s t.nlB (Rl.nl _) (iA _) λ fs ⟨d,e1,e2⟩=>⟨d,e1,e2.keepT s⟩
theorem rG {rs:List R0}{ws:List V}{r:R0}{v:V}(h:All0 C H rs ws)(k:Ru0 C H r v):All0 C H (rs ++ [r]) (ws ++ [v]):=by
 refine⟨by rw [List.length_append,List.length_append,h.1];rfl,λ i r' w' hr hw=>?_⟩
 rcases Nat.lt_or_ge i rs.length with lt | ge
 ·rw [List.getElem?_append_left lt] at hr;rw [List.getElem?_append_left (by rw [<- h.1];exact lt)] at hw
  exact h.2 i r' w' hr hw
 ·rw [List.getElem?_append_right ge] at hr;rw [List.getElem?_append_right (by rw [<- h.1];exact ge)] at hw
  have i0:i=rs.length:=by
   rcases Nat.lt_or_ge (i-rs.length) 1 with z | z
   ·omega
   ·rw [List.getElem?_eq_none (by simpa using z)] at hr;cases hr
  subst i0;rw [Nat.sub_self] at hr;rw [h.1,Nat.sub_self] at hw;cases hr;cases hw;exact k
end
theorem dO {H:Hp}{x dx:Addr}{u v:HO}(hx:H x=none)(hd:H dx=none)(ne:dx≠x):Ext H (ae (ae H dx u) x v):=by
 have h2:ae H dx u x=none:=by rw [ag ne.symm];exact hx
 exact(Ext.new hd).trans (Ext.new h2)
end My
namespace My
open PySem PySem.W L2
structure Dk (P:Program)(w:World)(K:Frag)(mg:Str->Option Value)(base:Heap)(C:Nat->Addr)(CN CS CT CM:Addr)(f0 f1 f2 f3 f4:Addr)(e0 e1 e2 e3 e4:FuncData):Prop where
 k0:Mk K (C 0) f0
 k1:Mk K (C 1) f1
 k2:Mk K (C 2) f2
 k3:Mk K (C 3) f3
 k4:Mk K (C 4) f4
 g0:FnOk P w K mg base (cC P w) 4 f0 e0 ["self","folk","ones"] (nV C CN)
 g1:FnOk P w K mg base (cC P w) 6 f1 e1 ["self","pairs","coin"] (lu C CN CS)
 g2:FnOk P w K mg base (cC P w) 6 f2 e2 ["self","folk","coin","far"] (kX C CN CS)
 g3:FnOk P w K mg base (cC P w) 4 f3 e3 ["self","rules"] (jb K C CT CM)
 g4:FnOk P w K mg base (cC P w) 4 f4 e4 ["self","rule","many"] (kE C CN)
 b0:Binds K e0 ["self","folk","ones"] []
 b1:Binds K e1 ["self","pairs","coin"] []
 b2:Binds K e2 ["self","folk","coin","far"] []
 b3:Binds K e3 ["self","rules"] []
 b4:Binds K e4 ["self","rule","many"] []
 m0:mg "Split" = some (.ref (C 0))
 m1:mg "Pairs" = some (.ref (C 1))
 m2:mg "Coins" = some (.ref (C 2))
 m3:mg "Blocks" = some (.ref (C 3))
 m4:mg "First" = some (.ref (C 4))
section
variable {K:Frag}{C:Nat->Addr}{CN CS CT CM:Addr}{H:Hp}{σ:St}{Q:VK}{E:XK}
theorem gK {lo hi n:Int}(h1:lo<=n)(h2:n<=hi):jB lo hi (.int n)=true:=by
 show(decide (lo<=n)&&decide (n<=hi))=true;rw [decide_eq_true h1,decide_eq_true h2];rfl
end
def GD (H0:Hp)(σ:St)(te:TE)(d:PyData):Prop:=∀(H:Hp)(Q:VK),Ext H0 H->(∀ v H',Ext H H'->Rds H' v d->Q v H')->te σ H Q
def GDs (H0:Hp)(σ:St)(ta:TA)(ds:List PyData):Prop:=∀(H:Hp)(Q:List V->Hp->Prop),Ext H0 H->(∀ vs H',Ext H H'->RdsAll H' vs ds->Q vs H')->ta σ H Q
section
variable {H0:Hp}{σ:St}{te:TE}{ta:TA}{d:PyData}{ds:List PyData}
theorem GD.int (i:Int):GD H0 σ (tC (.int i)) (.int i):=λ H Q _ q=>q _ H (Ext.refl _) (.int i)
theorem GDs.nil:GDs H0 σ aL []:=λ H Q _ q=>q [] H (Ext.refl _) .nil
theorem GDs.cons (h:GD H0 σ te d)(k:GDs H0 σ ta ds):GDs H0 σ (am te ta) (d::ds):=λ H Q x q =>
 h H _ x λ v H1 x1 r=>k H1 _ (x.trans x1) λ vs H2 x2 rs=>q (v::vs) H2 (x1.trans x2) (.cons (r.mono x2) rs)
theorem GD.tup (k:GDs H0 σ ta ds)(hz:ds.length<=sizeLine):GD H0 σ (iD ta) (.tuple ds):=λ H Q x q =>
 k H _ x λ vs H1 x1 rs=>⟨by rw [rs.length];exact hz,λ p hp=>q _ _ (x1.trans (Ext.new hp)) (.tup aR (rs.mono (Ext.new hp)))⟩
theorem GDs.use {Q:VK}(k:GDs H0 σ ta ds)(hz:ds.length<=sizeLine)(q:∀ l vs H',Ext H0 H'->H0 l=none->H' l=some (.lst vs)->RdsAll H' vs ds->Q (.ref l) H'):cL ta σ H0 Q :=
 k H0 _ (Ext.refl _) λ vs H1 x1 rs=>⟨by rw [rs.length];exact hz,λ p hp=>q p vs _ (x1.trans (Ext.new hp)) (by
  cases e:H0 p with
  | none=>rfl
  | some o=>rw [x1 _ _ e] at hp;cases hp) aR (rs.mono (Ext.new hp))⟩
end
theorem Sc.wo' {K:Frag}{H H':Hp}{s p:Addr}{ns:List Int}(c:Sc K H s p ns)(x:Ext (wo H p) (wo H' p))(b:BoxAt H' p):Sc K H' s p ns:=by
 refine⟨?_,c.l63,c.ne,b⟩;rcases c.sq with(h | ⟨o,h⟩) | h
 ·exact .inl (.inl (ak _ _ _ _ (x _ _ (bD c.ne h))))
 ·exact .inl (.inr ⟨o,ak _ _ _ _ (x _ _ (bD c.ne h))⟩)
 ·exact .inr h
def coins8:List (Int × Int):=[(1,2),(1,2),(1,3),(2,3),(1,4),(5,7),(1,100),(99,100)]
def r6 (c:Int × Int):PyData:=.tuple [.int c.1,.int c.2]
theorem oF:∀ c∈coins8,c6 (r6 c)=true:=by decide +kernel
theorem Ru0.wo {C:Nat->Addr}{H:Hp}{p:Addr}{r:R0}{v:V}(h:Ru0 C H r v)(b:BoxAt H p):Ru0 C (wo H p) r v:=h.keepT λ a o e n=>by
 obtain⟨_,_,_,hp,_⟩:=b.ex;exact bD (λ z=>by subst z;rw [hp] at e;cases e;exact n _ rfl) e
section
variable {K:Frag}{C:Nat->Addr}{CN CS CT CM:Addr}{H:Hp}{R:VK}{E:XK}{x dx:Addr}
theorem oN {n k:Int}(hx:H x=none)(hd:H dx=none)(ne:dx≠x)(ok:(R0.split n k).ok)(q:∀ H',Ext H H'->Ru C H' (.one (.split n k)) (.ref x)->R .non H'):nV C CN [.ref x,.int n,.int k] (ae (ae H dx (.own x)) x (.ins (C 0) dx [])) R E:=by
 have xe:=dO (u:=.own x) (v:=.ins (C 0) dx []) hx hd ne;obtain⟨o1,o2,o3,o4⟩:=id ok;refine⟨x,_,_,_,_,dx,rfl,aR,.int _,.int _,λ h=>(by rw [gK o1 o2] at h;cases h),λ m e _ _ h=>(by cases e;rw [gK o3 o4] at h;cases h),λ n' k' e1 e2 _ H' kp ru=>?_⟩
 cases e1;cases e2;exact q H' (xe.kp hx kp) ru
theorem oB {n a b:Int}{c:V}(hx:H x=none)(hd:H dx=none)(ne:dx≠x)(rc:Rds H c (.tuple [.int a,.int b]))(ok:(R0.pairs n a b).ok)(q:∀ H',Ext H H'->Ru C H' (.one (.pairs n a b)) (.ref x)->R .non H'):lu C CN CS [.ref x,.int n,c] (ae (ae H dx (.own x)) x (.ins (C 1) dx [])) R E:=by
 have xe:=dO (u:=.own x) (v:=.ins (C 1) dx []) hx hd ne;obtain⟨o1,o2,o3⟩:=id ok;refine⟨x,_,_,_,_,dx,rfl,aR,.int _,rc.mono xe,λ h=>(by rw [gK o1 o2] at h;cases h),λ _ h=>(by rw [o3] at h;cases h),λ n' a' b' e1 e2 _ H' kp ru=>?_⟩
 cases e1;cases e2;exact q H' (xe.kp hx kp) ru
theorem oQ {n a b f:Int}{c:V}(hx:H x=none)(hd:H dx=none)(ne:dx≠x)(rc:Rds H c (.tuple [.int a,.int b]))(ok:(R0.coins n a b f).ok)(q:∀ H',Ext H H'->Ru C H' (.one (.coins n a b f)) (.ref x)->R .non H'):kX C CN CS [.ref x,.int n,c,.int f] (ae (ae H dx (.own x)) x (.ins (C 2) dx [])) R E:=by
 have xe:=dO (u:=.own x) (v:=.ins (C 2) dx []) hx hd ne;obtain⟨o1,o2,o3,o4,o5⟩:=id ok;refine⟨x,_,_,_,_,_,_,dx,rfl,aR,.int _,rc.mono xe,.int _,λ h=>(by rw [gK o1 o2] at h;cases h),λ _ h=>(by rw [o3] at h;cases h),λ _ _ h=>(by rw [gK o4 o5] at h;cases h),λ n' a' b' f' e1 e2 e3 _ H' kp ru=>?_⟩
 cases e1;cases e2;cases e3;exact q H' (xe.kp hx kp) ru
theorem nw {l:Addr}{ws:List V}{rs:List R0}(hx:H x=none)(hd:H dx=none)(ne:dx≠x)(hl:H l=some (.lst ws))(al:All0 C H rs ws)(ok:(Rl.blocks rs).ok)(q:∀ H',Ext H H'->Ru C H' (.blocks rs) (.ref x)->R .non H'):jb K C CT CM [.ref x,.ref l] (ae (ae H dx (.own x)) x (.ins (C 3) dx [])) R E:=by
 have xe:=dO (u:=.own x) (v:=.ins (C 3) dx []) hx hd ne;obtain⟨o1,o2,o3,o4⟩:=id ok;exact⟨x,_,dx,H,rfl,aR,xe,hx,.inr (.inr ⟨l,ws,rs,rfl,hl,al,o1,o2,o3,λ h=>absurd o4 (by omega),λ _ H' kp ru=>q H' (xe.kp hx kp) ru⟩)⟩
theorem pF {v:V}{r:Rl}{m:Int}(hx:H x=none)(hd:H dx=none)(ne:dx≠x)(ru:Ru C H r v)(ok:(Rl.first r m).ok)(q:∀ H',Ext H H'->Ru C H' (.first r m) (.ref x)->R .non H'):kE C CN [.ref x,v,.int m] (ae (ae H dx (.own x)) x (.ins (C 4) dx [])) R E:=by
 have xe:=dO (u:=.own x) (v:=.ins (C 4) dx []) hx hd ne;obtain⟨o1,o2,o3⟩:=id ok;refine⟨x,_,_,r,_,dx,H,rfl,aR,xe,hx,ru,Rl.sm o1,.int m,λ h=>(by rw [gK o2 o3] at h;cases h),λ m' e _ _ H' kp ru=>?_⟩
 cases e;exact q H' (xe.kp hx kp) ru
end
section
variable {P:Program}{w:World}{K:Frag}{mg:Str->Option Value}{base:Heap}{C:Nat->Addr}{CR CN CS CT CM f f0 f1 f2 f3 f4 a1:Addr}{fd e0 e1 e2 e3 e4 d1:FuncData}
abbrev nE:Stmt:=bR 69
abbrev oG (i:Nat):Stmt:=(ax nE).getD i (.Pass ⟨0,0,0,0⟩)
abbrev vD:List Str:=["_law_script","_law_pen","_law_most","_law_coin","_law_way","_law_pairs","_law_folk_here"]
theorem scPR:ad vD ["_law_script","_law_pen","_law_most"] (aa nE):=aJ
def RowP (C:Nat->Addr)(H:Hp)(v:V)(r:R0):Prop:=∃ l u,v=.ref l/\H l=some (.lst [.str r.word,u,.int r.folk])/\Ru0 C H r u
theorem RowP.ext {C:Nat->Addr}{H H':Hp}{v:V}{r:R0}(h:RowP C H v r)(x:Ext H H'):RowP C H' v r:=by
 obtain⟨l,u,e,hl,ru⟩:=h;exact⟨l,u,e,x _ _ hl,ru.ext x⟩
def oX (K:Frag)(C:Nat->Addr):Sp:=λ vs H Q _=>∃(s p:Addr)(ns:List Int)(m:Int),vs=[.ref s,.ref p,.int m]/\Sc K H s p ns/\1<=m/\m<=20/\∀ l r H',Sc K H' s p ns->Ext (wo H p) (wo H' p)->wo H p l=none->RowP C (wo H' p) (.ref l) r->r.ok->r.folk<=m->Q (.ref l) H'
def kP (a b:Int):TE:=iD (am (tC (.int a)) (am (tC (.int b)) aL))
def ze:TA:=am (kP 1 2) (am (kP 1 2) (am (kP 1 3) (am (kP 2 3) (am (kP 1 4) (am (kP 5 7) (am (kP 1 100) (am (kP 99 100) aL)))))))
def wa (K:Frag):TS:=cj (aB (cE K) (cL ze) (fj K (tC (.int 8)))) (aP 3)
def BQ (K:Frag):TS:=cj (fj K (tC (.int 3))) (aP 4)
def j3 (t:TE):TE:=aB (ck λ i j=>.int (i+j)) (tC (.int 1)) t
def AK (K:Frag)(C:Nat->Addr)(CN CS:Addr):TS:=fc (yM (tB (aB nF (af 4) (tC (.int 1)))) (tB (aB (ck λ i j=>.bl (decide (i>j))) (af 2) (tC (.int 1)))))
 (aV (cj (j3 (fj K (aB (rI ix λ i j=>.int (i/j)) (af 2) (tC (.int 2))))) (aP 5)) (cX (cL (am (tC (.str "pairs")) (am (dM (C 1) (lu C CN CS) [] E0 (am (af 5) (am (af 3) aL))) (am (aB (rI CMul λ i j=>.int (i*j)) (tC (.int 2)) (af 5)) aL)))))) cp
def wP (K:Frag):TS:=cj (j3 (fj K (af 2))) (aP 6)
def xj (K:Frag)(C:Nat->Addr)(CN CS:Addr):TS:=fc (tB (aB nF (af 4) (tC (.int 2)))) (cX (cL (am (tC (.str "coins")) (am (dM (C 2) (kX C CN CS) [] E0 (am (af 6) (am (af 3) (am (j3 (fj K (aB (cE K) (cL (am (tC (.int 2)) (am (tC (.int 20)) aL))) (fj K (tC (.int 2)))))) aL)))) (am (af 6) aL))))) cp
def uW (K:Frag)(C:Nat->Addr)(CN:Addr):TS:=cX (cL (am (tC (.str "split")) (am (dM (C 0) (nV C CN) [] E0 (am (af 6) (am (fj K (aB (ck λ i j=>.int (i+j)) (af 6) (tC (.int 1)))) aL))) (am (af 6) aL))))
def F5 (K:Frag)(C:Nat->Addr)(CN CS:Addr):TS:=aV (wa K) (aV (BQ K) (aV (AK K C CN CS) (aV (wP K) (aV (xj K C CN CS) (uW K C CN)))))
section
variable {cdv:Value}{A:Around}{outer:List Env}{s:Shared}{H:Hp}{E:XK}(L:Dk P w K mg base C CN CS CT CM f0 f1 f2 f3 f4 e0 e1 e2 e3 e4)(A1:Df P w K mg base aq 1 "_law_take" ["_law_script","_law_pen","_law_many"] (dH K) a1 d1)(hr:pJ 7 "_law_plain_rule" nE A s f cdv)
include A1 hr
theorem DU:Bx (PS (aH aq P w K mg base vD "_law_plain_rule" (aa nE) f cdv A outer s H E).nox (oG 0) (wa K)):=by
 have hr1:Room 1 _:=hr.mono (by decide)
 exact aW (i:=3) scPR.nd rfl (Or.inl rfl) (Do fU (ig (fh (eO (fh ⟨az⟩ (fh ⟨az⟩ bN))) (fh (eO (fh ⟨az⟩ (fh ⟨az⟩ bN))) (fh (eO (fh ⟨az⟩ (fh ⟨az⟩ bN))) (fh (eO (fh ⟨az⟩ (fh ⟨az⟩ bN)))
  (fh (eO (fh ⟨az⟩ (fh ⟨az⟩ bN))) (fh (eO (fh ⟨az⟩ (fh ⟨az⟩ bN))) (fh (eO (fh ⟨az⟩ (fh ⟨az⟩ bN))) (fh (eO (fh ⟨az⟩ (fh ⟨az⟩ bN))) bN)))))))))
  ⟨bK A1.G hr1 rfl A1.m A1.kp A1.b .nil ah (ac (pv 0) (ac (pv 1) (ac az ao)))⟩)
theorem Fb:Bx (PS (aH aq P w K mg base vD "_law_plain_rule" (aa nE) f cdv A outer s H E).nox (oG 1) (BQ K)):=by
 have hr1:Room 1 _:=hr.mono (by decide)
 exact aW (i:=4) scPR.nd rfl (Or.inl rfl) ⟨bK A1.G hr1 rfl A1.m A1.kp A1.b .nil ah (ac (pv 0) (ac (pv 1) (ac az ao)))⟩
theorem EJ:Bx (PS (aH aq P w K mg base vD "_law_plain_rule" (aa nE) f cdv A outer s H E).nox (oG 3) (wP K)):=by
 have hr1:Room 1 _:=hr.mono (by decide)
 exact aW (i:=6) scPR.nd rfl (Or.inl rfl) ⟨aj bo az (bK A1.G hr1 rfl A1.m A1.kp A1.b .nil ah (ac (pv 0) (ac (pv 1) (ac (pv 2) ao))))⟩
include L
theorem D8:Bx (PS (aH aq P w K mg base vD "_law_plain_rule" (aa nE) f cdv A outer s H E).nox (oG 2) (AK K C CN CS)):=by
 have hr1:Room 1 _:=hr.mono (by decide)
 exact iu ⟨PW.pt (my (av cT (pv 4) az (au _)) (km (av ft (pv 2) az (au _))))⟩
  (cQ (aW (i:=5) scPR.nd rfl (Or.inl rfl) ⟨aj bo az (bK A1.G hr1 rfl A1.m A1.kp A1.b .nil ah (ac (pv 0) (ac (pv 1) (ac (aj fH (pv 2) az) ao))))⟩)
  (aY (fP (ig (fh ⟨bh⟩ (fh ⟨gm L.k1 L.g1 hr rfl L.m1 L.b1 .nil fq (ac (pv 5) (ac (pv 3) ao))⟩ (fh ⟨aj dB az (pv 5)⟩ bN))))))) eF
theorem Ej:Bx (PS (aH aq P w K mg base vD "_law_plain_rule" (aa nE) f cdv A outer s H E).nox (oG 4) (xj K C CN CS)):=by
 have hr1:Room 1 _:=hr.mono (by decide)
 exact iu ⟨av cT (pv 4) az (au _)⟩ (aY (fP (ig (fh ⟨bh⟩ (fh ⟨gm L.k2 L.g2 hr rfl L.m2 L.b2 .nil fq (ac (pv 6) (ac (pv 3) (ac (aj bo az (bK A1.G hr1 rfl A1.m A1.kp A1.b .nil ah (ac (pv 0) (ac (pv 1) (ac (c8 fU (dh (ac az (ac az ao))) (bK A1.G hr1 rfl A1.m A1.kp A1.b .nil ah (ac (pv 0) (ac (pv 1) (ac az ao))))) ao))))) ao)))⟩ (fh ⟨pv 6⟩ bN)))))) eF
theorem EE:Bx (PS (aH aq P w K mg base vD "_law_plain_rule" (aa nE) f cdv A outer s H E).nox (oG 5) (uW K C CN)):=by
 have hr1:Room 1 _:=hr.mono (by decide)
 have hr5:Room 5 _:=hr.mono (by decide)
 exact fP (ig (fh ⟨bh⟩ (fh ⟨gm L.k0 L.g0 hr5 rfl L.m0 L.b0 .nil fq (ac (pv 6) (ac (bK A1.G hr1 rfl A1.m A1.kp A1.b .nil ah (ac (pv 0) (ac (pv 1) (ac (aj bo (pv 6) az) ao)))) ao))⟩ (fh ⟨pv 6⟩ bN))))
theorem yH:Bx (PSs (aH aq P w K mg base vD "_law_plain_rule" (aa nE) f cdv A outer s H E).nox (ax nE) (F5 K C CN CS)) :=
 cQ (DU A1 hr) (cQ (Fb A1 hr) (cQ (D8 L A1 hr) (cQ (EJ A1 hr) (cQ (Ej L A1 hr) (aY (EE L A1 hr))))))
end
theorem nA {H H1:Hp}{s p:Addr}{ns:List Int}{m:Int}{Q:VK}{r:R0}{x:Addr}(sc1:Sc K H1 s p ns)(xw:Ext (wo H p) (wo H1 p))(ru:Ru0 C H1 r (.ref x))(ok:r.ok)(le:r.folk<=m)
  (q:∀ l r H',Sc K H' s p ns->Ext (wo H p) (wo H' p)->wo H p l=none->RowP C (wo H' p) (.ref l) r->r.ok->r.folk<=m->Q (.ref l) H')(l:Addr)(hl:H1 l=none):Q (.ref l) (ae H1 l (.lst [.str r.word,.ref x,.int r.folk])):=by
 have x2:=Ext.new (o:=.lst [.str r.word,.ref x,.int r.folk]) hl;have g2:ae H1 l (.lst [.str r.word,.ref x,.int r.folk]) l=some (.lst [.str r.word,.ref x,.int r.folk]):=aR;have sc2:=sc1.ext x2;refine q l r _ sc2 (xw.trans (bq x2 p)) ?_ ⟨l,_,rfl,bD (sc1.bx.ne hl) g2,(ru.wo sc1.bx).ext (bq x2 p)⟩ ok le;cases e:wo H p l with
 | none=>rfl
 | some o=>have:=ak _ _ _ _ (xw _ _ e);rw [hl] at this;cases this
theorem xK (H:Hp)(σ:St):GDs H σ ze (coins8.map r6) :=
 .cons (.tup (.cons (.int 1) (.cons (.int 2) .nil)) (by decide)) (.cons (.tup (.cons (.int 1) (.cons (.int 2) .nil)) (by decide)) (.cons (.tup (.cons (.int 1) (.cons (.int 3) .nil)) (by decide)) (.cons (.tup (.cons (.int 2) (.cons (.int 3) .nil)) (by decide))
  (.cons (.tup (.cons (.int 1) (.cons (.int 4) .nil)) (by decide)) (.cons (.tup (.cons (.int 5) (.cons (.int 7) .nil)) (by decide)) (.cons (.tup (.cons (.int 1) (.cons (.int 100) .nil)) (by decide)) (.cons (.tup (.cons (.int 99) (.cons (.int 100) .nil)) (by decide)) .nil)))))))
theorem z7 {De:cw}{u:TS}{H:Hp}{sA p:Addr}{ns:List Int}{o2 o3 o4 o5 o6:Option V}(sc:Sc K H sA p ns)(k:∀ cv co H1,co∈coins8->Sc K H1 sA p ns->Ext (wo H p) (wo H1 p)->Rds (wo H1 p) cv (r6 co)->u De [some (.ref sA),some (.ref p),o2,some cv,o4,o5,o6] H1) :
  aV (wa K) u De [some (.ref sA),some (.ref p),o2,o3,o4,o5,o6] H:=by
 refine aG (te:=aB (cE K) (cL ze) (fj K (tC (.int 8)))) (i:=3) (D:=De) (jv ((xK H _).use (by decide) λ l0 vs H0 x0 n0 g0 rs=>?_))
 refine bv (sc.ext x0) rfl rfl (λ R r=>r) (by decide) (by decide) λ r H1 r0 r8 sc1 k1=>?_
 have pn0:l0≠p:=sc.bx.ne n0;have g1:=k1 _ _ g0 pn0;have lv:=rs.length;rw [List.length_map] at lv;have hr8:r.toNat<vs.length:=by rw [lv];show _<8;omega
 obtain⟨d,ed,rd⟩:=rs.get (List.getElem?_eq_getElem hr8);rw [List.getElem?_map] at ed;obtain⟨co,eco,rfl⟩:=Option.map_eq_some_iff.mp ed;have rdw:Rds (wo H0 p) vs[r.toNat] (r6 co):=rd.keepT (λ a o e n=>by
  obtain⟨_,_,_,hp,_⟩:=(sc.ext x0).bx.ex;exact bD (λ z=>by subst z;rw [hp] at e;cases e;exact n _ rfl) e) ko
 have er:r=(r.toNat:Int):=by omega
 refine⟨l0,_,r,vs[r.toNat],rfl,rfl,SqL.of g1,by have z:=dL (List.getElem?_eq_getElem hr8);rwa [<- er] at z,?_⟩
 exact k _ co H1 (List.mem_of_getElem? eco) sc1 ((bq x0 p).trans (aI k1)) (rdw.mono (aI k1))
theorem Af {De:cw}{u:TS}{H H2:Hp}{sA p:Addr}{ns:List Int}{m:Int}{cv:V}{co:Int × Int}{o4 o5 o6:Option V}{Q:VK}(sc2:Sc K H2 sA p ns)(xb:Ext (wo H p) (wo H2 p))(rdw2:Rds (wo H2 p) cv (r6 co))(cok:c6 (r6 co)=true)(em:m>1)(m2:m<=20)(hDe:De.rt=Q)
  (q:∀ l r H',Sc K H' sA p ns->Ext (wo H p) (wo H' p)->wo H p l=none->RowP C (wo H' p) (.ref l) r->r.ok->r.folk<=m->Q (.ref l) H') :
  aV (cj (j3 (fj K (aB (rI ix λ i j=>.int (i/j)) (af 2) (tC (.int 2))))) (aP 5)) (cX (cL (am (tC (.str "pairs")) (am (dM (C 1) (lu C CN CS) [] E0 (am (af 5) (am (af 3) aL))) (am (aB (rI CMul λ i j=>.int (i*j)) (tC (.int 2)) (af 5)) aL))))) De [some (.ref sA),some (.ref p),some (.int m),some cv,o4,o5,o6] H2:=by
 refine aG (te:=j3 (fj K (aB (rI ix λ i j=>.int (i/j)) (af 2) (tC (.int 2))))) (i:=5) (D:=De) ?_;show fj K (aB (rI ix λ i j=>.int (i/j)) (af 2) (tC (.int 2))) _ H2 _;refine bv (m:=m/2) sc2 rfl rfl (λ R r=>⟨_,rfl,_,_,rfl,rfl,⟨by decide,by decide⟩,r⟩) (by omega) (by omega) λ z H3 z0 zm sc3 k3=>⟨_,_,rfl,rfl,?_⟩
 refine⟨_,rfl,_,rfl,?_⟩;have rdw3:=rdw2.mono (aI k3);refine λ x dx hx hd ne=>oB hx hd ne (rdw3.mono (ak _ _)) ⟨by omega,by omega,cok⟩ λ H6 x6 ru=>⟨rfl,?_⟩
 refine⟨_,rfl,_,_,rfl,rfl,.inl ⟨by decide,by decide⟩,by show 3<=sizeLine;decide,λ l hl=>?_⟩
 show De.rt _ _;rw [hDe];exact nA (r:=.pairs (1+z) co.1 co.2) (sc3.ext x6) ((xb.trans (aI k3)).trans (bq x6 p)) ru ⟨by omega,by omega,cok⟩ (by show 2*(1+z)<=m;omega) q l hl
theorem zP {De:cw}{H H3:Hp}{sA p:Addr}{ns:List Int}{m n:Int}{o2 o3 o4 o5:Option V}{Q:VK}(sc3:Sc K H3 sA p ns)(xc:Ext (wo H p) (wo H3 p))(n1:1<=n)(nm:n<=m)(m2:m<=20)(hDe:De.rt=Q)
  (q:∀ l r H',Sc K H' sA p ns->Ext (wo H p) (wo H' p)->wo H p l=none->RowP C (wo H' p) (.ref l) r->r.ok->r.folk<=m->Q (.ref l) H'):uW K C CN De [some (.ref sA),some (.ref p),o2,o3,o4,o5,some (.int n)] H3:=by
 refine⟨_,rfl,?_⟩;refine bv (m:=n+1) sc3 rfl rfl (λ R r=>⟨_,rfl,_,_,rfl,rfl,r⟩) (by omega) (by omega) λ u H7 u0 ub sc7 k7=>?_
 refine λ x dx hx hd ne=>oN hx hd ne ⟨by omega,by omega,by omega,by omega⟩ λ H6 x6 ru=>⟨rfl,?_⟩
 refine⟨_,rfl,by show 3<=sizeLine;decide,λ l hl=>?_⟩
 show De.rt _ _;rw [hDe];exact nA (r:=.split n u) (sc7.ext x6) ((xc.trans (aI k7)).trans (bq x6 p)) ru ⟨by omega,by omega,by omega,by omega⟩ (by show n<=m;omega) q l hl
def Cv (K:Frag):TE:=fj K (aB (cE K) (cL (am (tC (.int 2)) (am (tC (.int 20)) aL))) (fj K (tC (.int 2))))
theorem yy {H3:Hp}{sA p:Addr}{ns:List Int}{σ:St}{R:VK}(sc3:Sc K H3 sA p ns)(h0:σ[0]?=some (some (.ref sA)))(h1:σ[1]?=some (some (.ref p)))(k:∀ u H5,0<=u->u<20->Sc K H5 sA p ns->Ext (wo H3 p) (wo H5 p)->R (.int u) H5):Cv K σ H3 R:=by
 refine⟨_,h0,_,h1,by show 2<=sizeLine;decide,λ l5 h5=>?_⟩
 have x5:=Ext.new (o:=.lst [V.int 2,.int 20]) h5;have g5:ae H3 l5 (.lst [V.int 2,.int 20]) l5=some (.lst [V.int 2,.int 20]):=aR;have n5:=sc3.bx.ne h5;show fj K (tC (.int 2)) _ (ae H3 l5 (.lst [V.int 2,.int 20])) _;have sc5:=sc3.ext x5;generalize ae H3 l5 (.lst [V.int 2,.int 20])=H4 at x5 g5 sc5 ⊢;refine bv sc5 h0 h1 (λ R r=>r) (by decide) (by decide) λ j H6 j0 j2 sc6 k6=>?_
 have g6:=k6 _ _ g5 n5;obtain⟨b,eb,b1,b2⟩:∃ b:Int,([V.int 2,.int 20]:List V)[j.toNat]?=some (.int b)/\2<=b/\b<=20:=by
  rcases(by omega:j=0\/j=1) with rfl | rfl
  ·exact⟨2,rfl,by decide,by decide⟩
  ·exact⟨20,rfl,by decide,by decide⟩
 have ej:j=(j.toNat:Int):=by omega
 refine⟨l5,_,j,.int b,rfl,rfl,SqL.of g6,by rw [ej];exact dL eb,?_⟩
 exact⟨sA,ns,p,b,rfl,sc6.sq,sc6.l63,sc6.ne,sc6.bx,by omega,by omega,λ u H7 u0 ub bx7 k7 _=>k u H7 (by omega) (by omega) (sc6.kept k7 bx7) (((bq x5 p).trans (aI k6)).trans (aI k7))⟩
theorem wS {De:cw}{H H3:Hp}{sA p:Addr}{ns:List Int}{m n:Int}{cv:V}{co:Int × Int}{o2 o4 o5:Option V}{Q:VK}(sc3:Sc K H3 sA p ns)(xc:Ext (wo H p) (wo H3 p))(rdw3:Rds (wo H3 p) cv (r6 co))(cok:c6 (r6 co)=true)(n1:1<=n)(nm:n<=m)(m2:m<=20)(hDe:De.rt=Q)
  (q:∀ l r H',Sc K H' sA p ns->Ext (wo H p) (wo H' p)->wo H p l=none->RowP C (wo H' p) (.ref l) r->r.ok->r.folk<=m->Q (.ref l) H') :
  cX (cL (am (tC (.str "coins")) (am (dM (C 2) (kX C CN CS) [] E0 (am (af 6) (am (af 3) (am (j3 (Cv K)) aL)))) (am (af 6) aL)))) De [some (.ref sA),some (.ref p),o2,some cv,o4,o5,some (.int n)] H3:=by
 refine⟨_,rfl,_,rfl,?_⟩;refine yy sc3 rfl rfl λ u H5 u1 u2 sc5 x5=>⟨_,_,rfl,rfl,?_⟩;refine λ x dx hx hd ne=>oQ hx hd ne ((rdw3.mono x5).mono (ak _ _)) ⟨by omega,by omega,cok,by omega,by omega⟩ λ H6 x6 ru=>⟨rfl,?_⟩
 refine⟨_,rfl,by show 3<=sizeLine;decide,λ l hl=>?_⟩
 show De.rt _ _;rw [hDe];exact nA (r:=.coins n co.1 co.2 (1+u)) (sc5.ext x6) ((xc.trans x5).trans (bq x6 p)) ru ⟨by omega,by omega,cok,by omega,by omega⟩ (by show n<=m;omega) q l hl
theorem qE {De:cw}{H H2:Hp}{sA p:Addr}{ns:List Int}{m y:Int}{cv:V}{co:Int × Int}{o5 o6:Option V}{Q:VK}(sc2:Sc K H2 sA p ns)(xb:Ext (wo H p) (wo H2 p))(rdw2:Rds (wo H2 p) cv (r6 co))(cok:c6 (r6 co)=true)(m1:1<=m)(m2:m<=20)(hDe:De.rt=Q)
  (q:∀ l r H',Sc K H' sA p ns->Ext (wo H p) (wo H' p)->wo H p l=none->RowP C (wo H' p) (.ref l) r->r.ok->r.folk<=m->Q (.ref l) H'):aV (wP K) (aV (xj K C CN CS) (uW K C CN)) De [some (.ref sA),some (.ref p),some (.int m),some cv,some (.int y),o5,o6] H2:=by
 refine aG (te:=j3 (fj K (af 2))) (i:=6) ?_;show fj K (af 2) _ H2 _;refine bv sc2 rfl rfl (λ R r=>⟨_,rfl,r⟩) (by omega) (by omega) λ z H3 z0 zm sc3 k3=>⟨_,_,rfl,rfl,?_⟩
 have xc:=xb.trans (aI k3);have rdw3:=rdw2.mono (aI k3);refine⟨_,rfl,rfl,_,rfl,?_⟩;by_cases e2:y=2
 ·rw [decide_eq_true (by rw [e2])]
  exact cW (wS sc3 xc rdw3 cok (by omega) (by omega) m2 hDe q)
 ·rw [decide_eq_false (λ z=>e2 (V.int.inj z))];exact cH (zP sc3 xc (by omega) (by omega) m2 hDe q)
theorem xv {H:Hp}{sA p:Addr}{ns:List Int}{m:Int}{o3 o4 o5 o6:Option V}{De:cw}(sc:Sc K H sA p ns)(m1:1<=m)(m2:m<=20)
  (q:∀ l r H',Sc K H' sA p ns->Ext (wo H p) (wo H' p)->wo H p l=none->RowP C (wo H' p) (.ref l) r->r.ok->r.folk<=m->De.rt (.ref l) H'):Bx (F5 K C CN CS De [some (.ref sA),some (.ref p),some (.int m),o3,o4,o5,o6] H):=by
 refine⟨z7 sc λ cv co H1 hco sc1 xa rdw1=>?_⟩;refine aG (te:=fj K (tC (.int 3))) (i:=4) ?_;refine bv sc1 rfl rfl (λ R r=>r) (by decide) (by decide) λ y H2 y0 y3 sc2 k2=>?_
 have xb:=xa.trans (aI k2);have rdw2:=rdw1.mono (aI k2);have cok:=oF co hco;refine⟨_,rfl,rfl,_,rfl,?_⟩;by_cases e1:y=1
 ·subst e1;refine cW ⟨_,rfl,_,_,rfl,rfl,_,rfl,?_⟩;by_cases em:m>1
  ·rw [decide_eq_true em];exact cW (Af (u:=cp) sc2 xb rdw2 cok em m2 rfl q)
  ·rw [decide_eq_false em];exact cH (qE sc2 xb rdw2 cok m1 m2 rfl q)
 ·rw [decide_eq_false (λ z=>e1 (V.int.inj z))];exact cH (cH (qE sc2 xb rdw2 cok m1 m2 rfl q))
theorem gS {X:Cx}{body:List Stmt}{t:TS}{D:cw}{σ:St}{H:Hp}(h:Bx (PSs X body t))(r:Bx (t D σ H)):∃ t,PSs X body t/\t D σ H:=⟨t,h.h,r.h⟩
theorem Aq (F:Fun K "_law_plain_rule" "_law_plain_rule" nE f fd)(L:Dk P w K mg base C CN CS CT CM f0 f1 f2 f3 f4 e0 e1 e2 e3 e4)(A1:Df P w K mg base aq 1 "_law_take" ["_law_script","_law_pen","_law_many"] (dH K) a1 d1):FnOk P w K mg base aq 8 f fd ["_law_script","_law_pen","_law_most"] (oX K C):=by
 refine F.ok scPR (λ vs H Q E h=>?_) (λ cdv A outer s H vs Q E hr h=>?_)
 ·obtain⟨_,_,_,_,rfl,_⟩:=h;rfl
 obtain⟨sA,p,ns,m,rfl,sc,m1,m2,q⟩:=h;exact gS (yH L A1 hr) (xv sc m1 m2 q)
end
theorem ji:∀{cl:List (Str × Addr)}{z:Str},z∈cl.map (·.1)->∃ c,cl.lookup z=some c
 | (x,d)::cl,z,h=>by
  by_cases e:z=x
  ·subst e;exact⟨d,gZ⟩
  ·rw [List.map_cons,List.mem_cons] at h;rcases h with h | h
   ·exact absurd h e
   ·obtain⟨c,hc⟩:=ji h;exact⟨c,jP e hc⟩
theorem dE {X:Cx}{sc:Scope}{cl:List (Str × Addr)}{ts zs:List Str}{js:List Nat}{M:List Str}{L:List (Str × NameKind)}(clos:closureFor sc X.env=pure cl)(kind:sc.kind=.function)(nc:∀ y∈sc.names,y.2 ≠ .cell)(nm:∀ y∈sc.names,y.2=.local->sc.names.lookup y.1=some .local)(var:∀ x∈ts,sc.names.lookup x=some .local)
  (hM:cl.map (·.1)=M)(hc:cl.map (λ y=>X.env.cells.lookup y.1)=cl.map (λ y=>some y.2))(rl:(relabel sc X.env).names=L)(has:∀ y∈L,(y.2=.cell\/y.2=.free)->y.1∈M)(nd:(ts++zs).Nodup)
  (hj:zs.map some=js.map (λ j=>X.N[j]?))(hv:zs.map (λ z=>X.env.scope.names.lookup z)=zs.map (λ _=>some .cell))(hl:zs.map (λ z=>L.lookup z)=zs.map (λ _=>some .cell)):aU X sc cl ts zs js:=by
 have ln:js.length=zs.length:=by have:=congrArg List.length hj;simpa using this.symm
 refine⟨clos,kind,nc,nm,var,λ z c h=>?_,λ z h=>?_,nd,λ k z h=>?_,ln⟩
 ·have m:=PySem.mem_of_lookup h;obtain⟨i,hi,e⟩:=List.getElem_of_mem m;have q:=congrArg (λ l=>l[i]?) hc;simp only [List.getElem?_map,List.getElem?_eq_getElem hi,e,Option.map_some] at q;exact Option.some.inj q
 ·rw [rl] at h;refine ji ?_;rw [hM];rcases h with h | h
  ·exact has _ (PySem.mem_of_lookup h) (.inl rfl)
  ·exact has _ (PySem.mem_of_lookup h) (.inr rfl)
 ·have hk:k<zs.length:=(List.getElem?_eq_some_iff.mp h).1;have hk':k<js.length:=by rw [ln];exact hk
  have q:=congrArg (λ l=>l[k]?) hj;simp only [List.getElem?_map,h,List.getElem?_eq_getElem hk',Option.map_some] at q;have v:=congrArg (λ l=>l[k]?) hv;simp only [List.getElem?_map,h,Option.map_some] at v;have u:=congrArg (λ l=>l[k]?) hl;simp only [List.getElem?_map,h,Option.map_some] at u;have v':X.env.scope.names.lookup z=some .cell:=Option.some.inj v;refine⟨js[k],List.getElem?_eq_getElem hk',(Option.some.inj q).symm,.inr (.inl v'),λ e=>?_,.inl (by rw [rl];exact Option.some.inj u)⟩
  have e':X.env.scope.names.lookup z=some .local:=e;rw [v'] at e';cases e'
section
variable {K:Frag}{te:TE}{tt:TT}{g:TG}{k:Nat}{cap:St}{D:Addr}{H1:Hp}{Q:Hp->Prop}{a:Addr}{xs:List V}
theorem iT (Pv:Nat->List V->Hp->Prop)(hz:xs.length<sizeLine)(h0:Pv 0 [] (ae H1 D (.lst [])))(hl:∀ i ys H,Pv i ys H->SqL K H a xs)
  (hs:∀(i:Nat) x ys H,xs[i]?=some x->ys.length<=i->H D=some (.lst ys)->Pv i ys H->∀ os:St,os.length=k->∀ N:List V->Hp->Prop,(∀ ys' H',Pv (i+1) ys' H'->ys'.length<=i+1->H' D=some (.lst ys')->N ys' H') ->
   g x (os++cap) H λ σ2 H0=>(∃ os':St,os'.length=k/\σ2=os'++cap)/\tt σ2 H0 λ b H5=>(b=false->N ys H5)/\(b=true->te σ2 H5 λ y H4=>H4 D=some (.lst ys)/\N (ys ++ [y]) (ae H4 D (.lst (ys ++ [y])))))
  (hd:∀ ys H,ys.length<=xs.length->H D=some (.lst ys)->Pv xs.length ys H->Q H) :
  ∃ W:Nat->Nat->List V->Hp->Prop,(∃ m,W 0 m [] (ae H1 D (.lst []))) /\
   ∀ i m ys H2,W i m ys H2->H2 D=some (.lst ys)/\(((kq K a).stop i H2/\Q H2)\/((kq K a).go i H2/\ys.length<sizeLine /\
    ∀ x H3,(kq K a).yld i H2 x H3->∀ os:St,os.length=k->g x (os++cap) H3 λ σ2 H0=>(∃ os':St,os'.length=k/\σ2=os'++cap)/\tt σ2 H0 λ b H5=>(b=false->∃ m',m'<m/\W (i+1) m' ys H5) /\
     (b=true->te σ2 H5 λ y H4=>H4 D=some (.lst ys)/\∃ m',m'<m/\W (i+1) m' (ys ++ [y]) (ae H4 D (.lst (ys ++ [y])))))):=by
 refine⟨λ i m ys H=>m=xs.length-i/\i<=xs.length/\ys.length<=i/\H D=some (.lst ys)/\Pv i ys H,⟨xs.length,by simp,Nat.zero_le _,Nat.le_refl _,aR,h0⟩,?_⟩
 rintro i m ys H ⟨rfl,hi,hy,hD',p⟩;refine⟨hD',?_⟩;have q:=hl i ys H p;by_cases hlt:i<xs.length
 ·refine .inr ⟨⟨xs,xs[i],q,by simp [hlt]⟩,by omega,λ x H' y os los=>?_⟩
  obtain⟨e,y⟩:=y;subst e;exact hs i x ys _ (y xs q) hy hD' p os los (λ ys' H''=>∃ m',m'<xs.length-i/\(m'=xs.length-(i+1)/\i+1<=xs.length/\ys'.length<=i+1/\H'' D=some (.lst ys')/\Pv (i+1) ys' H'')) λ ys' H'' p' l' d'=>⟨xs.length-(i+1),by omega,rfl,hlt,l',d',p'⟩
 ·have e:i=xs.length:=by omega
  subst e;exact .inl ⟨⟨xs,q,Nat.le_refl _⟩,hd ys H hy hD' p⟩
end
section
variable {P:Program}{w:World}{K:Frag}{mg:Str->Option Value}{base:Heap}{C:Nat->Addr}{CR CN CS CT CM f f0 f1 f2 f3 f4 a1 a2:Addr}{fd e0 e1 e2 e3 e4 d1 d2:FuncData}
abbrev ky:Stmt:=bR 70
abbrev mX (i:Nat):Stmt:=(ax ky).getD i (.Pass ⟨0,0,0,0⟩)
abbrev pI:List Str:=["_law_script","_law_pen","_law_most","_law_several","_law_many","_law_blocks","_law_ahead","_law_word","_law_rule_here","_law_folk_here"]
theorem scRL:ad pI ["_law_script","_law_pen","_law_most"] (aa ky):=aJ
abbrev E2:Scope:={ kind:=.function,names:=[(".0",.local),("_law_k",.local),("_law_plain_rule",.globalImplicit),("max",.globalImplicit),("int",.globalImplicit),("_law_most",.free),("_law_pen",.free),("_law_script",.free)],isGenerator:=false,isCoroutine:=false }
abbrev Eg:Scope:={ kind:=.function,names:=[(".0",.local),("_law_one",.local)],isGenerator:=false,isCoroutine:=false }
abbrev Ax:Scope:={ kind:=.function,names:=[(".0",.local),("_law_word",.local),("_law_folk_here",.local),("_law_many",.free)],isGenerator:=false,isCoroutine:=false }
abbrev Ei:Scope:={ kind:=.function,names:=[(".0",.local),("_law_place",.local),("_law_many",.free)],isGenerator:=false,isCoroutine:=false }
abbrev Ex:Scope:={ kind:=.function,names:=[(".0",.local),("_law_word",.local),("_law_folk_here",.local)],isGenerator:=false,isCoroutine:=false }
theorem EL:((["_law_k"]:List Str)++(["_law_most","_law_pen","_law_script"]:List Str)).Nodup:=by decide +kernel
theorem EO:((["_law_one"]:List Str)++([]:List Str)).Nodup:=by decide +kernel
theorem Br:((["_law_word","_law_folk_here"]:List Str)++(["_law_many"]:List Str)).Nodup:=by decide +kernel
theorem Fx:((["_law_place"]:List Str)++(["_law_many"]:List Str)).Nodup:=by decide +kernel
theorem pc:((["_law_word","_law_folk_here"]:List Str)++([]:List Str)).Nodup:=by decide +kernel
def FI (K:Frag)(i:Nat):TE:=gU (λ xs H Q=>∃ i j,xs=[.int i,.int j]/\Q (.int (if j>i then j else i)) H) (am (tC (.int 1)) (am (aB (rI ix λ i j=>.int (i/j)) (af i) (aB (cE K) (cL (am (tC (.int 3)) (am (tC (.int 4)) aL))) (gU (λ xs H Q=>(∃ i,xs=[.int i]/\Q (.int i) H)\/∃ k,xs=[.bl k]/\Q (.int (if k then 1 else 0)) H) (am (aB (ck λ i j=>.bl (decide (i>j))) (af i) (tC (.int 8))) aL)))) aL))
def Bt (K:Frag)(C:Nat->Addr):TE:=fY (oX K C) [] E0 (am (af 3) (am (af 2) (am (FI K 1) aL)))
def zJ (K:Frag)(C:Nat->Addr):TS:=cj (cL (am (fY (oX K C) [] E0 (am (af 0) (am (af 1) (am (af 2) aL)))) aL)) (aP 3)
def zy (K:Frag)(C:Nat->Addr):TS:=fc (tB (aB nF (fj K (tC (.int 3))) (tC (.int 0)))) (aV (cj (j3 (fj K (tC (.int 4)))) (aP 4)) (cj (c7 (jz (am (af 4) aL)) 1 [2,1,0] (aP 0) (Bt K C)) (aP 3))) cp
def vE (K:Frag):TS:=aV (ls (Aj K "list" jD (af 5) (am (iD (am (af 7) (am (gU oy (am (gU vh (am (af 6) (am (aB (ck λ i j=>.int (i+j)) (af 6) (af 9)) aL))) aL)) aL))) aL))) (cj (aB (ck λ i j=>.int (i+j)) (af 6) (af 9)) (aP 6))
def uE (K:Frag):TS:=iQ (aZ K (af 3)) (vy K 3 (eY (aP 7) (eY (aP 8) (eY (aP 9) oK)))) (vE K)
def wI (K:Frag):TS:=cj (aB (cE K) (aB (cE K) (af 3) (tC (.int 0))) (tC (.int 1))) (aP 8)
def u6 (K:Frag):TE:=aB (cE K) (af 0) (tC (.int 1))
def u8 (K:Frag)(C:Nat->Addr)(CT CM:Addr):TS:=fc (Bp (tB (aB (ck λ i j=>.bl (decide (i>j))) (gU (λ xs H Q=>∃ p ys,xs=[.ref p]/\(SqL K H p ys\/SqT K H p ys)/\Q (.int ys.length) H) (am (af 3) aL)) (tC (.int 1)))) (tB (aB nF (fj K (tC (.int 4))) (tC (.int 0)))))
 (cj (dM (C 3) (jb K C CT CM) [] E0 (am (c7 (aZ K (af 3)) 1 [] (aP 0) (u6 K)) aL)) (aP 8)) cp
def Dt:TT:=tB (aB (ck λ i j=>.bl (decide (i<j))) (af 0) (af 1))
def Gs (K:Frag):TE:=cO (aZ K (af 1)) 1 [2] (aP 0) Dt (af 0)
def uY (K:Frag):TE:=iD (am (af 0) (am (Gs K) aL))
def lW (K:Frag):TG:=qH K 2 (eY (aP 0) (eY (aP 1) oK))
def Cb (K:Frag):TS:=cj (fj K (aB (ck λ i j=>.int (i+j)) (af 6) (tC (.int 1)))) (aP 4)
def By (K:Frag)(C:Nat->Addr)(CN:Addr):TS:=cj (dM (C 4) (kE C CN) [] E0 (am (af 8) (am (af 4) aL))) (aP 8)
def AO (K:Frag):TS:=cj (c7 (aZ K (af 5)) 2 [4] (lW K) (uY K)) (aP 5)
def ye (K:Frag)(C:Nat->Addr)(CN:Addr):TS:=fc (tB (aB nF (fj K (tC (.int 4))) (tC (.int 0)))) (aV (Cb K) (aV (By K C CN) (AO K))) cp
def AA (K:Frag):TT:=tB (aB (pZ K) (af 1) (cL aL))
def zt (K:Frag):TS:=cX (iD (am (af 8) (am (cO (aZ K (af 5)) 2 [] (lW K) (AA K) (iD (am (af 0) (am (af 1) aL)))) aL)))
def FQ (K:Frag)(C:Nat->Addr)(CN CT CM:Addr):TS:=aV (zJ K C) (aV (zy K C) (aV (cj (cL aL) (aP 5)) (aV (cj (tC (.int 0)) (aP 6)) (aV (uE K) (aV (wI K) (aV (u8 K C CT CM) (aV (ye K C CN) (zt K))))))))
section
variable {cdv:Value}{A:Around}{outer:List Env}{s:Shared}{H:Hp}{E:XK}(L:Dk P w K mg base C CN CS CT CM f0 f1 f2 f3 f4 e0 e1 e2 e3 e4)(A1:Df P w K mg base aq 1 "_law_take" ["_law_script","_law_pen","_law_many"] (dH K) a1 d1)(A2:Df P w K mg base aq 8 "_law_plain_rule" ["_law_script","_law_pen","_law_most"] (oX K C) a2 d2)(hr:pJ 8 "_law_rule" ky A s f cdv)
theorem zw:aU (aH aq P w K mg base pI "_law_rule" (aa ky) f cdv A outer s H E).nox E2 [("_law_script",s.heap.objs.size+1),("_law_pen",s.heap.objs.size+2),("_law_most",s.heap.objs.size+3)] ["_law_k"] ["_law_most","_law_pen","_law_script"] [2,1,0] :=
 dE (M:=["_law_script","_law_pen","_law_most"]) (L:=[(".0",.local),("_law_k",.local),("_law_plain_rule",.globalImplicit),("max",.globalImplicit),("int",.globalImplicit),("_law_most",.cell),("_law_pen",.cell),("_law_script",.cell)]) rfl rfl (by decide +kernel) (by decide +kernel) (by decide +kernel) rfl rfl rfl (by decide +kernel) (by decide +kernel) rfl rfl rfl
theorem vZ {X:Cx}:aU X Eg [] ["_law_one"] [] []:=ie (L:=[(".0",.local),("_law_one",.local)]) rfl rfl (by decide +kernel) (by decide +kernel) (by decide +kernel) rfl (by decide +kernel) (by decide +kernel)
theorem zp:aU (aH aq P w K mg base pI "_law_rule" (aa ky) f cdv A outer s H E).nox Ax [("_law_many",s.heap.objs.size+4)] ["_law_word","_law_folk_here"] ["_law_many"] [4] :=
 dE (M:=["_law_many"]) (L:=[(".0",.local),("_law_word",.local),("_law_folk_here",.local),("_law_many",.cell)]) rfl rfl (by decide +kernel) (by decide +kernel) (by decide +kernel) rfl rfl rfl (by decide +kernel) (by decide +kernel) rfl rfl rfl
theorem yN {s':Shared}{H':Hp}{C1:Addr}{fp:List Addr}:aU (aT (aH aq P w K mg base pI "_law_rule" (aa ky) f cdv A outer s H E).nox Ax [("_law_many",s.heap.objs.size+4)] ((["_law_word","_law_folk_here"]:List Str)++(["_law_many"]:List Str)) s' H' C1 fp) Ei [("_law_many",s.heap.objs.size+4)] ["_law_place"] ["_law_many"] [2] :=
 dE (M:=["_law_many"]) (L:=[(".0",.local),("_law_place",.local),("_law_many",.cell)]) rfl rfl (by decide +kernel) (by decide +kernel) (by decide +kernel) rfl rfl rfl (by decide +kernel) (by decide +kernel) rfl rfl rfl
theorem yX {X:Cx}:aU X Ex [] ["_law_word","_law_folk_here"] [] []:=ie (L:=[(".0",.local),("_law_word",.local),("_law_folk_here",.local)]) rfl rfl (by decide +kernel) (by decide +kernel) (by decide +kernel) rfl (by decide +kernel) (by decide +kernel)
include A2 hr
theorem Ft:Bx (PS (aH aq P w K mg base pI "_law_rule" (aa ky) f cdv A outer s H E).nox (mX 0) (zJ K C)) :=
 aW (i:=3) scRL.nd rfl (Or.inl rfl) (ig (fh ⟨bK A2.G hr rfl A2.m A2.kp A2.b .nil ah (ac (pv 0) (ac (pv 1) (ac (pv 2) ao)))⟩ bN))
include A1
theorem EI (mr:mg "range" = none)(mm:mg "max" = none)(mi:mg "int" = none):Bx (PS (aH aq P w K mg base pI "_law_rule" (aa ky) f cdv A outer s H E).nox (mX 1) (zy K C)):=by
 have hr1:Room 1 _:=hr.mono (by decide)
 exact iu ⟨av cT (bK A1.G hr1 rfl A1.m A1.kp A1.b .nil ah (ac (pv 0) (ac (pv 1) (ac az ao)))) az (au _)⟩
  (cQ (aW (i:=4) scRL.nd rfl (Or.inr rfl) ⟨aj bo az (bK A1.G hr1 rfl A1.m A1.kp A1.b .nil ah (ac (pv 0) (ac (pv 1) (ac az ao))))⟩)
  (aY ⟨mw (iy:=3) (te:=Bt K C) (g:=aP 0) rfl zw (fF rfl mr (ac (pv 4) ao)) (λ s H C fp=>by exact bU (i:=0) EL rfl (.inl rfl)) (λ s H C fp=>by
   exact bK A2.G hr rfl A2.m A2.kp A2.b .nil ah (ac (pv 3) (ac (pv 2) (ac (ai (pu rfl) rfl mm PyProof.Rows.boot_max (ac az (ac (aj fH (pv 1) (c8 fU (dh (ac az (ac az ao))) (aM gE rfl mi PyProof.Rows.boot_int (ac (bY ft (pv 1) az (au _)) ao)))) ao))) ao)))) scRL.nd rfl (Or.inl rfl) rfl⟩)) eF
omit A1 A2 hr
theorem EN (ml:mg "list" = none)(mr:mg "range" = none):Bx (PS (aH aq P w K mg base pI "_law_rule" (aa ky) f cdv A outer s H E).nox (mX 4) (uE K)):=by
 have nd:=scRL.nd;exact⟨cJ PassesOwn.never rfl (aE (pv 3)) (t9 rfl (dX (bU (i:=7) nd rfl (Or.inl rfl)) (dX (bU (i:=8) nd rfl (Or.inl rfl)) (dX (bU (i:=9) nd rfl (Or.inl rfl)) ba))))
  (bZ (aw (jf PySem.F.plainAttrs_list PySem.F.slot_list_append PySem.F.type_list_append cn (pv 5) (ac (bJ (ac (pv 7) (ac (aM (jp rfl) rfl ml PyProof.Rows.boot_list (ac (aM jo rfl mr PyProof.Rows.boot_range (ac (pv 6) (ac (aj bo (pv 6) (pv 9)) ao))) ao)) ao))) ao)))
  (bc (gW (i:=6) nd rfl (Or.inl rfl) (aj bo (pv 6) (pv 9)))))⟩
theorem EM:Bx (PS (aH aq P w K mg base pI "_law_rule" (aa ky) f cdv A outer s H E).nox (mX 5) (wI K)) :=
 aW (i:=8) scRL.nd rfl (Or.inl rfl) ⟨c8 fU (c8 fU (pv 3) az) az⟩
include L A1 hr
theorem DX (ml:mg "len" = none):Bx (PS (aH aq P w K mg base pI "_law_rule" (aa ky) f cdv A outer s H E).nox (mX 6) (u8 K C CT CM)):=by
 have hr1:Room 1 _:=hr.mono (by decide)
 have hr5:Room 5 _:=hr.mono (by decide)
 exact iu ⟨PW.pt (gk (av ft (ai ar rfl ml PySem.boot_len (ac (pv 3) ao)) az (au _)) (eB (av cT (bK A1.G hr1 rfl A1.m A1.kp A1.b .nil ah (ac (pv 0) (ac (pv 1) (ac az ao)))) az (au _))))⟩
  (aY (aW (i:=8) scRL.nd rfl (Or.inl rfl) ⟨gm L.k3 L.g3 hr5 rfl L.m3 L.b3 .nil fq (ac (bT (te:=u6 K) (g:=aP 0) rfl vZ (aE (pv 3)) (λ s H C fp=>by exact bU (i:=0) EO rfl (.inl rfl)) (λ s H C fp=>by exact c8 fU (pv 0) az)) ao)⟩)) eF
theorem Fu:Bx (PS (aH aq P w K mg base pI "_law_rule" (aa ky) f cdv A outer s H E).nox (mX 7) (ye K C CN)):=by
 have hr1:Room 1 _:=hr.mono (by decide)
 have hr5:Room 5 _:=hr.mono (by decide)
 exact iu ⟨av cT (bK A1.G hr1 rfl A1.m A1.kp A1.b .nil ah (ac (pv 0) (ac (pv 1) (ac az ao)))) az (au _)⟩
  (cQ (aW (i:=4) scRL.nd rfl (Or.inr rfl) ⟨bK A1.G hr1 rfl A1.m A1.kp A1.b .nil ah (ac (pv 0) (ac (pv 1) (ac (aj bo (pv 6) az) ao)))⟩)
  (cQ (aW (i:=8) scRL.nd rfl (Or.inl rfl) ⟨gm L.k4 L.g4 hr5 rfl L.m4 L.b4 .nil fq (ac (pv 8) (ac (pv 4) ao))⟩)
  (aY ⟨mw (iy:=5) (te:=uY K) (g:=lW K) rfl zp (aE (pv 5)) (λ s H C fp=>by exact bI rfl (dX (bU (i:=0) Br rfl (.inl rfl)) (dX (bU (i:=1) Br rfl (.inl rfl)) ba))) (λ s H C fp=>by
   exact bJ (ac (pv 0) (ac (eQ (te:=af 0) (tt:=Dt) (g:=aP 0) rfl yN (aE (pv 1)) (λ s H C fp=>by exact bU (i:=0) Fx rfl (.inl rfl)) (λ s H C fp=>by exact av nU (pv 0) (pv 1) (au _)) (λ s H C fp=>by exact pv 0)) ao))) scRL.nd rfl (Or.inl rfl) rfl⟩))) eF
omit L A1
theorem Ef:Bx (PS (aH aq P w K mg base pI "_law_rule" (aa ky) f cdv A outer s H E).nox (mX 8) (zt K)):=by
 have hu:=hr.units0;exact fP (eO (fh ⟨pv 8⟩ (fh ⟨eQ (te:=iD (am (af 0) (am (af 1) aL))) (tt:=AA K) (g:=lW K) rfl yX (aE (pv 5)) (λ s H C fp=>by exact bI rfl (dX (bU (i:=0) pc rfl (.inl rfl)) (dX (bU (i:=1) pc rfl (.inl rfl)) ba))) (λ s H C fp=>by exact av (qo hu) (pv 1) (dh ao) (au _)) (λ s H C fp=>by exact bJ (ac (pv 0) (ac (pv 1) ao)))⟩ bN)))
include L A1 A2
theorem yQ (mr:mg "range" = none)(mm:mg "max" = none)(mi:mg "int" = none)(ml:mg "list" = none)(mn:mg "len" = none):Bx (PSs (aH aq P w K mg base pI "_law_rule" (aa ky) f cdv A outer s H E).nox (ax ky) (FQ K C CN CT CM)) :=
 cQ (Ft A2 hr) (cQ (EI A1 A2 hr mr mm mi) (cQ (aW (i:=5) scRL.nd rfl (Or.inl rfl) ⟨dh ao⟩) (cQ (aW (i:=6) scRL.nd rfl (Or.inl rfl) ⟨az⟩) (cQ (EN ml mr) (cQ EM (cQ (DX L A1 hr mn) (cQ (Fu L A1 hr) (aY (Ef hr)))))))))
end
end
def Al2 {α β:Type}(R:α->β->Prop)(xs:List α)(ys:List β):Prop:=xs.length=ys.length/\∀(i:Nat) x y,xs[i]?=some x->ys[i]?=some y->R x y
theorem Al2.nil {α β:Type}{R:α->β->Prop}:Al2 R [] []:=⟨rfl,λ i x y h=>by simp at h⟩
theorem Al2.mono {α β:Type}{R S:α->β->Prop}{xs:List α}{ys:List β}(h:Al2 R xs ys)(k:∀ x y,R x y->S x y):Al2 S xs ys:=⟨h.1,λ i x y a b=>k x y (h.2 i x y a b)⟩
theorem Al2.app {α β:Type}{R:α->β->Prop}{xs:List α}{ys:List β}{x:α}{y:β}(h:Al2 R xs ys)(k:R x y):Al2 R (xs ++ [x]) (ys ++ [y]):=by
 refine⟨by rw [List.length_append,List.length_append,h.1];rfl,λ i a b ha hb=>?_⟩
 rcases Nat.lt_or_ge i xs.length with lt | ge
 ·rw [List.getElem?_append_left lt] at ha;rw [List.getElem?_append_left (by rw [<- h.1];exact lt)] at hb
  exact h.2 i a b ha hb
 ·rw [List.getElem?_append_right ge] at ha;rw [List.getElem?_append_right (by rw [<- h.1];exact ge),<- h.1] at hb
  match i-xs.length,ha,hb with
  | 0,ha,hb=>cases ha;cases hb;exact k
  | n+1,ha,hb=>simp at ha
theorem Al2.at {α β:Type}{R:α->β->Prop}{xs:List α}{ys:List β}(h:Al2 R xs ys){i:Nat}{x:α}(e:xs[i]?=some x):∃ y,ys[i]?=some y/\R x y:=by
 have l:i<ys.length:=by rw [<- h.1];exact(List.getElem?_eq_some_iff.mp e).1
 exact⟨ys[i],List.getElem?_eq_getElem l,h.2 i _ _ e (List.getElem?_eq_getElem l)⟩
theorem j9 {m:Int}:∀{rs:List R0},(∀ r∈rs,r.folk<=m)->(rs.map R0.folk).sum<=rs.length*m
 | [],_=>by simp
 | r::rs,h=>by
  have h1:=h r (List.mem_cons_self ..);have h2:=j9 λ x hx=>h x (List.mem_cons_of_mem _ hx);simp only [List.map_cons,List.sum_cons,List.length_cons];have:((rs.length+1:Nat):Int)*m=rs.length*m+m:=by rw [Int.natCast_add,Int.add_mul];omega
  omega
structure Sv (C:Nat->Addr)(G:Hp)(sv:Addr)(rs:List R0):Prop where
 ex:∃ xs,G sv=some (.lst xs)/\Al2 (RowP C G) xs rs
 l1:1<=rs.length
 l4:rs.length<=4
 ok:∀ r∈rs,r.ok
 sm:(rs.map R0.folk).sum<=20
theorem Sv.ext {C:Nat->Addr}{G G':Hp}{sv:Addr}{rs:List R0}(h:Sv C G sv rs)(x:Ext G G'):Sv C G' sv rs:=by
 obtain⟨xs,e,al⟩:=h.ex;exact⟨⟨xs,x _ _ e,al.mono λ _ _ r=>r.ext x⟩,h.l1,h.l4,h.ok,h.sm⟩
section
variable {P:Program}{w:World}{K:Frag}{mg:Str->Option Value}{base:Heap}{C:Nat->Addr}{CR CN CS CT CM:Addr}{De:cw}{u:TS}{H:Hp}{sA p:Addr}{ns:List Int}{m:Int}{o3 o4 o5 o6 o7 o8 o9:Option V}
theorem w6 (sc:Sc K H sA p ns)(m1:1<=m)(m2:m<=20)(k:∀ sv rs H',Sc K H' sA p ns->Ext (wo H p) (wo H' p)->Sv C (wo H' p) sv rs->u De [some (.ref sA),some (.ref p),some (.int m),some (.ref sv),o4,o5,o6,o7,o8,o9] H') :
  aV (zJ K C) u De [some (.ref sA),some (.ref p),some (.int m),o3,o4,o5,o6,o7,o8,o9] H:=by
 refine aG (te:=cL (am (fY (oX K C) [] E0 (am (af 0) (am (af 1) (am (af 2) aL)))) aL)) (i:=3) ?_;refine⟨_,rfl,_,rfl,_,rfl,sA,p,ns,m,rfl,sc,m1,m2,λ l r H1 sc1 x1 n1 row ok le=>⟨by show 1<=sizeLine;decide,λ sv hsv=>?_⟩⟩
 have x2:=Ext.new (o:=.lst [V.ref l]) hsv;have g2:ae H1 sv (.lst [V.ref l]) sv=some (.lst [V.ref l]):=aR;have nn:=sc1.bx.ne hsv;refine k sv [r] _ (sc1.ext x2) (x1.trans (bq x2 p)) ⟨⟨_,bD nn g2,Al2.nil.app (row.ext (bq x2 p))⟩,Nat.le_refl _,(show 1<=4 by decide),λ r' h=>by rw [List.mem_singleton.mp h];exact ok,?_⟩
 have:=(R0.folk_ok ok).2
 simpa using this
theorem A0 {i:Nat}{σ:St}{R:VK}(si:σ[i]?=some (some (.int m)))(m1:1<=m)(m2:m<=20)(k:∀ b H',Ext H H'->1<=b->4*b<=20->R (.int b) H'):FI K i σ H R:=by
 refine⟨_,si,by show 2<=sizeLine;decide,λ l hl=>⟨_,si,_,_,rfl,rfl,.inr ⟨_,rfl,?_⟩⟩⟩
 have x1:=Ext.new (o:=.lst [V.int 3,.int 4]) hl;have g1:ae H l (.lst [V.int 3,.int 4]) l=some (.lst [V.int 3,.int 4]):=aR;by_cases e:m>8
 ·rw [decide_eq_true e];refine⟨l,_,1,.int 4,rfl,rfl,SqL.of g1,dL (j:=1) rfl,_,_,rfl,rfl,⟨by decide,by decide⟩,_,_,rfl,?_⟩
  refine k _ _ x1 (by split <;> omega) (by split <;> omega)
 ·rw [decide_eq_false e];refine⟨l,_,0,.int 3,rfl,rfl,SqL.of g1,dL (j:=0) rfl,_,_,rfl,rfl,⟨by decide,by decide⟩,_,_,rfl,?_⟩
  refine k _ _ x1 (by split <;> omega) (by split <;> omega)
theorem RowP.wt {H:Hp}{D:Addr}{ys:List V}{l:Addr}{r:R0}(h:RowP C (wo H p) (.ref l) r)(n:l≠D)(hD:H D=some (.lst ys)):RowP C (wt H p D) (.ref l) r:=by
 obtain⟨l',u,e,hl,ru⟩:=h;cases e;refine⟨l,u,rfl,bD n hl,ru.keepT λ a o e' nl=>?_⟩;exact bD (λ z=>by subst z;rw [ak _ _ _ _ e'] at hD;cases hD;exact nl _ rfl) e'
theorem yG (sc:Sc K H sA p ns)(m1:1<=m)(m2:m<=20){sv:Addr}{rs:List R0}(hv:Sv C (wo H p) sv rs)(k:∀ sv rs o4 H',Sc K H' sA p ns->Ext (wo H p) (wo H' p)->Sv C (wo H' p) sv rs->u De [some (.ref sA),some (.ref p),some (.int m),some (.ref sv),o4,o5,o6,o7,o8,o9] H') :
  aV (zy K C) u De [some (.ref sA),some (.ref p),some (.int m),some (.ref sv),o4,o5,o6,o7,o8,o9] H:=by
 refine bv sc rfl rfl (λ R r=>r) (by decide) (by decide) λ z H1 z0 z3 sc1 k1=>⟨rfl,_,rfl,?_⟩
 have xa:=aI k1;by_cases ez:z=0
 ·rw [decide_eq_true (by rw [ez])]
  refine cW ?_;refine aG (te:=j3 (fj K (tC (.int 4)))) (i:=4) ?_;refine bv sc1 rfl rfl (λ R r=>r) (by decide) (by decide) λ y H2 y0 y4 sc2 k2=>⟨_,_,rfl,rfl,?_⟩
  have xb:=xa.trans (aI k2);refine⟨_,rfl,1+y,rfl,by omega,by omega,λ D hD=>?_⟩
  have nD:=sc2.bx.ne hD;obtain⟨n,rfl⟩:∃ n:Nat,y=(n:Int):=⟨y.toNat,by omega⟩
  have en:(1+(n:Int)).toNat=n+1:=by omega
  rw [en];have woD:wo H p D=none:=by
   cases e:wo H p D with
   | none=>rfl
   | some o=>have:=ak _ _ _ _ (xb _ _ e);rw [hD] at this;cases this
  refine jr (lo:=0) (n:=n+1) (λ i ys H'=>Sc K H' sA p ns/\Ext (wo H p) (wo H' p)/\∃ rs,rs.length=i/\Al2 (RowP C (wt H' p D)) ys rs/\∀ r∈rs,r.ok/\r.folk<=5) (by rw [sizeLine_eq];omega) ?_ ?_ ?_
  ·have x3:=Ext.new (o:=.lst []) hD;exact⟨sc2.ext x3,xb.trans (bq x3 p),[],rfl,Al2.nil,λ r h=>nomatch h⟩
  ·rintro i ys H' hi ly hDD ⟨sc',x',rs',lr,al,good⟩ os los R k';obtain⟨o0,rfl⟩:∃ o0,os=[o0]:=by
    match os,los with
    | [o0],_=>exact⟨o0,rfl⟩
   refine⟨⟨[_],rfl,rfl⟩,_,rfl,_,rfl,?_⟩;refine A0 (i:=1) rfl m1 m2 λ b H5 x5 b1 b4=>⟨sA,p,ns,b,rfl,sc'.ext x5,b1,by omega,λ l r H6 sc6 x6 n6 row ok le=>?_⟩
   have hD5:=bD nD (x5 _ _ hDD);have hD6:H6 D=some (.lst ys):=ak _ _ _ _ (x6 _ _ hD5);have lD:l≠D:=λ e=>by rw [e,hD5] at n6;cases n6
   have x7:Ext (wt H' p D) (wt H6 p D):=aI (((bq x5 p).trans x6).kept D);have row':=row.wt lD hD6;have xf:Ext (wo H p) (wo (ae H6 D (.lst (ys ++ [.ref l]))) p):=λ b o e=>by
    have n1:b≠D:=λ z=>by rw [z,woD] at e;cases e
    have e2:=((x'.trans (bq x5 p)).trans x6) _ _ e;exact bD (gR e) (by rw [ag n1];exact ak _ _ _ _ e2)
   refine k' _ H6 hD6 ⟨sc.wo' xf (sc6.bx.up nD),xf,rs' ++ [r],by rw [List.length_append,lr];rfl,?_,λ r' h=>?_⟩
   ·exact((al.mono λ _ _ q=>q.ext x7).app row').mono λ _ _ q=>q.ext lP
   ·rcases List.mem_append.mp h with h | h
    ·exact good r' h
    ·rw [List.mem_singleton.mp h];exact⟨ok,by omega⟩
  ·rintro ys H' ly hDD ⟨sc',x',rs',lr,al,good⟩;refine k D rs' _ H' sc' x' ⟨⟨ys,bD nD hDD,al.mono λ _ _ q=>q.ext (ak _ _)⟩,by omega,by omega,λ r h=>(good r h).1,?_⟩
   have:=j9 (m:=5) λ r h=>(good r h).2;omega
 ·rw [decide_eq_false (λ h=>ez (V.int.inj h))];exact cH (k sv rs _ H1 sc1 xa (hv.ext xa))
end
abbrev Bk:=Str × List Int
def kA (b:Bk):PyData:=.tuple [.str b.1,mE b.2]
def fe (rs:List R0):List Bk:=(rs.map R0.word).zip (bM 0 (rs.map R0.folk))
def gH (m:Int)(B:List Bk):List Bk:=B.map λ b=>(b.1,b.2.filter λ x=>decide (x<m))
def fV (B:List Bk):List Bk:=B.filter λ b=>!b.2.isEmpty
def Rl.bl:Rl->List Bk
 | .one r=>[(r.word,cy 0 r.folk.toNat)]
 | .blocks rs=>fe rs
 | .first t m=>fV (gH m t.bl)
theorem qJ (rs:List R0):(fe rs).length=rs.length:=by
 unfold fe;rw [List.length_zip,List.length_map,dy,List.length_map,Nat.min_self]
theorem rR (rs:List R0)(r:R0):fe (rs ++ [r])=fe rs ++ [(r.word,cy ((rs.map R0.folk).sum) r.folk.toNat)]:=by
 unfold fe;rw [List.map_append,List.map_append];show((rs.map R0.word) ++ [r.word]).zip (bM 0 (rs.map R0.folk ++ [r.folk]))=_;rw [iq,List.zip_append (by rw [List.length_map,dy,List.length_map])]
 rw [Int.zero_add];rfl
theorem v5 {lo:Int}{n:Nat}(h:1<=n):cy lo n ≠ []:=λ e=>by
 have:=congrArg List.length e;unfold cy at this;rw [List.length_map,List.length_range] at this;simp at this;omega
theorem nI:∀(ns:List Int)(s:Int),(∀ n∈ns,1<=n)->∀ p∈bM s ns,p ≠ []
 | [],_,_,p,h=>nomatch h
 | n::ns,s,h,p,hp=>by
  rcases List.mem_cons.mp hp with rfl | hp
  ·exact v5 (by have:=h n (List.mem_cons_self ..);omega)
  ·exact nI ns (s+n) (λ x hx=>h x (List.mem_cons_of_mem _ hx)) p hp
theorem qz {rs:List R0}(ok:∀ r∈rs,r.ok):fV (fe rs)=fe rs:=by
 unfold fV;rw [List.filter_eq_self];intro b hb;have h2:b.2∈bM 0 (rs.map R0.folk):=(List.of_mem_zip hb).2;have:=nI _ 0 (λ n hn=>by
  obtain⟨r,hr,rfl⟩:=List.mem_map.mp hn;exact(R0.folk_ok (ok r hr)).1) _ h2
 cases e:b.2 with
 | nil=>exact absurd e this
 | cons _ _=>rfl
section
variable {P:Program}{w:World}{K:Frag}{mg:Str->Option Value}{base:Heap}{C:Nat->Addr}{CR CN CS CT CM:Addr}{De:cw}{u:TS}{H:Hp}{sA p:Addr}{ns:List Int}{m:Int}{o0 o1 o2 o3 o4 o5 o6 o7 o8 o9:Option V}
theorem ld {G:Hp}{x:V}{b:Bk}(r:Rds G x (kA b)):∃ a l,x=.ref a/\G a=some (.tup [.str b.1,.ref l])/\G l=some (.lst (b.2.map V.int)):=by
 obtain⟨a,xs,rfl,ha,rs⟩:=kh r;cases rs with
 | cons r1 rs =>
  cases rs with
  | cons r2 rs =>
   cases rs;cases r1;cases r2 with
   | lst hl ra=>exact⟨a,_,rfl,ha,by rw [<- jJ ra];exact hl⟩
theorem qp {G:Hp}{a l:Addr}{b:Bk}(ha:G a=some (.tup [.str b.1,.ref l]))(hl:G l=some (.lst (b.2.map V.int))):Rds G (.ref a) (kA b):=.tup ha (.cons (.str _) (.cons (.lst hl (cI G _)) .nil))
theorem wD (sc:Sc K H sA p ns){sv:Addr}{rs:List R0}(hv:Sv C (wo H p) sv rs)(k:∀ bl ys o7 o8 o9 H',Sc K H' sA p ns->Ext (wo H p) (wo H' p)->wo H' p bl=some (.lst ys)->RdsAll (wo H' p) ys ((fe rs).map kA)->u De [some (.ref sA),some (.ref p),o2,some (.ref sv),o4,some (.ref bl),some (.int (rs.map R0.folk).sum),o7,o8,o9] H') :
  aV (cj (cL aL) (aP 5)) (aV (cj (tC (.int 0)) (aP 6)) (aV (uE K) u)) De [some (.ref sA),some (.ref p),o2,some (.ref sv),o4,o5,o6,o7,o8,o9] H:=by
 refine aG (te:=cL aL) (i:=5) ⟨by show 0<=sizeLine;decide,λ bl hbl=>?_⟩
 have x1:=Ext.new (o:=.lst []) hbl;have g1:ae H bl (.lst []) bl=some (.lst []):=aR;have nb:=sc.bx.ne hbl;refine aG (te:=tC (.int 0)) (i:=6) ?_;show aV (uE K) u De [some (.ref sA),some (.ref p),o2,some (.ref sv),o4,some (.ref bl),some (.int 0),o7,o8,o9] (ae H bl (.lst []));have sc1:=sc.ext x1;generalize ae H bl (.lst [])=H1 at x1 g1 sc1 ⊢;obtain⟨xs,hsv,al⟩:=hv.ex;have l4:=hv.l4;have wob:wo H p bl=none:=by
  cases e:wo H p bl with
  | none=>rfl
  | some o=>have:=ak _ _ _ _ e;rw [hbl] at this;cases this
 refine⟨_,rfl,sv,rfl,⟨xs,SqL.of (x1 _ _ (ak _ _ _ _ hsv))⟩,dw (xs:=xs) (λ i σ H'=>∃ ys o7 o8 o9,σ=[some (.ref sA),some (.ref p),o2,some (.ref sv),o4,some (.ref bl),some (.int ((rs.take i).map R0.folk).sum),o7,o8,o9]/\Sc K H' sA p ns/\Ext (wo H p) (wo H' p)/\H' bl=some (.lst ys)/\ys.length=i/\RdsAll (wt H' p bl) ys ((fe (rs.take i)).map kA)) ⟨[],_,_,_,rfl,sc1,bq x1 p,g1,rfl,.nil⟩ ?_ ?_ ?_⟩
 ·rintro i σ H' _ ⟨ys,o7,o8,o9,rfl,sc',x',_⟩;exact SqL.of (ak _ _ _ _ (x' _ _ hsv))
 ·rintro i x σ H' ex ⟨ys,o7,o8,o9,rfl,sc',x',hb,ly,ra⟩;obtain⟨r,er,l,uu,rfl,hl,ru⟩:=al.at ex;have li:i<xs.length:=(List.getElem?_eq_some_iff.mp ex).1;have lxr:=al.1;have rok:=R0.folk_ok (hv.ok r (List.mem_of_getElem? er));have smb:0<=((rs.take i).map R0.folk).sum/\((rs.take i).map R0.folk).sum<=80:=by
   refine⟨du λ n hn=>?_,?_⟩
   ·obtain⟨r',hr',rfl⟩:=List.mem_map.mp hn;have:=R0.folk_ok (hv.ok r' (List.mem_of_mem_take hr'));omega
   ·have h1:=j9 (m:=20) (rs:=rs.take i) λ r' hr'=>(R0.folk_ok (hv.ok r' (List.mem_of_mem_take hr'))).2;have:(rs.take i).length<=4:=by rw [List.length_take];omega
    omega
  refine⟨l,_,rfl,SqL.of (ak _ _ _ _ (x' _ _ hl)),rfl,_,_,rfl,_,_,rfl,_,_,rfl,rfl,?_⟩;show vE K _ [some (.ref sA),some (.ref p),o2,some (.ref sv),o4,some (.ref bl),some (.int ((rs.take i).map R0.folk).sum),some (.str r.word),some uu,some (.int r.folk)] H';refine⟨_,rfl,.inl ⟨rfl,_,SqL.of hb⟩,_,rfl,_,rfl,_,rfl,_,rfl,_,_,rfl,rfl,_,_,rfl,λ rg hrg=>?_⟩;have x2:=Ext.new (o:=.rng ((rs.take i).map R0.folk).sum (((rs.take i).map R0.folk).sum+r.folk)) hrg;have g2:ae H' rg (.rng ((rs.take i).map R0.folk).sum (((rs.take i).map R0.folk).sum+r.folk)) rg=some (.rng ((rs.take i).map R0.folk).sum (((rs.take i).map R0.folk).sum+r.folk)):=aR;have sc2:=sc'.ext x2;have hb2:=x2 _ _ hb;generalize ae H' rg (.rng ((rs.take i).map R0.folk).sum (((rs.take i).map R0.folk).sum+r.folk))=H2 at x2 g2 sc2 hb2 ⊢;refine⟨rg,_,_,rfl,g2,by omega,by omega,λ pl hpl=>?_⟩
  have ef:(((rs.take i).map R0.folk).sum+r.folk-((rs.take i).map R0.folk).sum).toNat=r.folk.toNat:=by congr 1;omega
  rw [ef,jI];have x3:=Ext.new (o:=.lst ((cy ((rs.take i).map R0.folk).sum r.folk.toNat).map V.int)) hpl;have g3:ae H2 pl (.lst ((cy ((rs.take i).map R0.folk).sum r.folk.toNat).map V.int)) pl=some (.lst ((cy ((rs.take i).map R0.folk).sum r.folk.toNat).map V.int)):=aR;have sc3:=sc2.ext x3;have np3:=sc2.bx.ne hpl;have nb3:pl≠bl:=λ e=>by rw [e,hb2] at hpl;cases hpl
  have hb3:=x3 _ _ hb2;generalize ae H2 pl (.lst ((cy ((rs.take i).map R0.folk).sum r.folk.toNat).map V.int))=H3 at x3 g3 sc3 hb3 ⊢;refine⟨by show 2<=sizeLine;decide,λ t ht=>?_⟩
  have x4:=Ext.new (o:=.tup [.str r.word,.ref pl]) ht;have g4:ae H3 t (.tup [.str r.word,.ref pl]) t=some (.tup [.str r.word,.ref pl]):=aR;have sc4:=sc3.ext x4;have np4:=sc3.bx.ne ht;have nb4:t≠bl:=λ e=>by rw [e,hb3] at ht;cases ht
  have hb4:=x4 _ _ hb3;have g34:=x4 _ _ g3;generalize ae H3 t (.tup [.str r.word,.ref pl])=H4 at x4 g4 sc4 hb4 g34 ⊢;have xx:=(x2.trans x3).trans x4;have xf:Ext (wo H p) (wo (ae H4 bl (.lst (ys ++ [.ref t]))) p):=λ b o e=>by
   have n1:b≠bl:=λ z=>by rw [z,wob] at e;cases e
   have e2:=(x'.trans (bq xx p)) _ _ e;exact bD (gR e) (by rw [ag n1];exact ak _ _ _ _ e2)
  refine⟨bl,ys,.ref t,rfl,rfl,hb4,by rw [sizeLine_eq];omega,?_⟩
  refine⟨_,rfl,_,rfl,_,_,rfl,rfl,ys ++ [.ref t],some (.str r.word),some uu,some (.int r.folk),?_,sc.wo' xf (sc4.bx.up nb),xf,aR,by rw [List.length_append,ly];rfl,?_⟩
  ·have et:((rs.take (i+1)).map R0.folk).sum=((rs.take i).map R0.folk).sum+r.folk:=by
    rw [aA er,List.map_append,List.sum_append];simp
   rw [et];rfl
  ·rw [aA er,rR,List.map_append];refine((ra.mono (lT xx p bl)).append (.cons ?_ .nil)).mono lP;exact qp (b:=(r.word,cy ((rs.take i).map R0.folk).sum r.folk.toNat)) (gP np4 nb4 g4) (gP np3 nb3 g34)
 ·rintro σ H' ⟨ys,o7,o8,o9,rfl,sc',x',hb,ly,ra⟩;rw [al.1,List.take_length] at ra ⊢;exact k bl ys _ _ _ H' sc' x' (bD nb hb) (ra.mono (ak _ _))
variable {te:TE}{tt:TT}{cap:St}{D:Addr}{H1:Hp}{Q:Hp->Prop}{a:Addr}{xs:List V}
theorem sg (p:V->Bool)(hz:xs.length<sizeLine)(h1:H1 a=some (.lst xs))(hD:H1 D=none)
  (hs:∀(i:Nat) x H,xs[i]?=some x->Ext H1 H->∀ R:Bool->Hp->Prop,R (p x) H->tt (some x::cap) H R)
  (hd:∀ H,Ext H1 H->H D=some (.lst (xs.filter p))->Q H) :
  ∃ W:Nat->Nat->List V->Hp->Prop,(∃ m,W 0 m [] (ae H1 D (.lst []))) /\
   ∀ i m ys H2,W i m ys H2->H2 D=some (.lst ys)/\(((kq K a).stop i H2/\Q H2)\/((kq K a).go i H2/\ys.length<sizeLine /\
    ∀ x H3,(kq K a).yld i H2 x H3->tt (some x::cap) H3 λ b H0=>(b=false->∃ m',m'<m/\W (i+1) m' ys H0) /\
     (b=true->af 0 (some x::cap) H0 λ y H4=>H4 D=some (.lst ys)/\∃ m',m'<m/\W (i+1) m' (ys ++ [y]) (ae H4 D (.lst (ys ++ [y])))))):=by
 refine⟨λ i m ys H=>m=xs.length-i/\i<=xs.length/\ys.length<=i/\H D=some (.lst ys)/\Ext H1 H/\ys=(xs.take i).filter p,⟨xs.length,by simp,Nat.zero_le _,Nat.le_refl _,aR,Ext.new hD,rfl⟩,?_⟩
 rintro i m ys H ⟨rfl,hi,hy,hD',x',ey⟩;refine⟨hD',?_⟩;have q:SqL K H a xs:=SqL.of (x' _ _ h1);by_cases hlt:i<xs.length
 ·refine .inr ⟨⟨xs,xs[i],q,by simp [hlt]⟩,by omega,λ x H' y=>?_⟩
  obtain⟨e,y⟩:=y;subst e;have ex:=y xs q;have et:(xs.take (i+1)).filter p=(xs.take i).filter p++(if p x then [x] else []):=by
   rw [aA ex,List.filter_append,List.filter_cons,List.filter_nil]
  refine hs i x _ ex x' _ ⟨λ b=>⟨xs.length-(i+1),by omega,rfl,hlt,by omega,hD',x',?_⟩,λ b=>⟨x,rfl,hD',xs.length-(i+1),by omega,rfl,hlt,by rw [List.length_append];show ys.length+1<=i+1;omega,aR,aO _ x' hD,?_⟩⟩
  ·rw [et,b,ey];simp
  ·rw [et,b,ey];simp
 ·have e:i=xs.length:=by omega
  subst e;rw [List.take_length] at ey;subst ey;exact .inl ⟨⟨xs,q,Nat.le_refl _⟩,hd H x' hD'⟩
theorem f7 (p:V->Bool)(hz:xs.length<sizeLine)(h1:H1 a=some (.lst xs))(hD:H1 D=none)
  (hs:∀(i:Nat) x H,xs[i]?=some x->Ext H1 H->∀ R:Bool->Hp->Prop,R (p x) H->tt (some x::cap) H R)
  (hd:∀ H,Ext H1 H->H D=some (.lst (xs.filter p))->Q H) :
  ∃ W:Nat->Nat->List V->Hp->Prop,(∃ m,W 0 m [] (ae H1 D (.lst []))) /\
   ∀ i m ys H2,W i m ys H2->H2 D=some (.lst ys)/\(((kq K a).stop i H2/\Q H2)\/((kq K a).go i H2/\ys.length<sizeLine /\
    ∀ x H3,(kq K a).yld i H2 x H3->∀ os:St,os.length=1->aP 0 x (os++cap) H3 λ σ2 H0=>(∃ os':St,os'.length=1/\σ2=os'++cap)/\tt σ2 H0 λ b H5=>(b=false->∃ m',m'<m/\W (i+1) m' ys H5) /\
     (b=true->af 0 σ2 H5 λ y H4=>H4 D=some (.lst ys)/\∃ m',m'<m/\W (i+1) m' (ys ++ [y]) (ae H4 D (.lst (ys ++ [y])))))):=by
 obtain⟨W,w0,turn⟩:=sg (K:=K) (tt:=tt) (cap:=cap) (D:=D) (H1:=H1) (Q:=Q) p hz h1 hD hs hd;refine⟨W,w0,λ i m ys H2 w=>?_⟩;obtain⟨hD2,alt⟩:=turn i m ys H2 w;refine⟨hD2,?_⟩;rcases alt with a | ⟨go,hl,st⟩
 ·exact .inl a
 ·refine .inr ⟨go,hl,λ x H3 y os los=>?_⟩;obtain⟨o,rfl⟩:∃ o,os=[o]:=by
   match os,los with
   | [o],_=>exact⟨o,rfl⟩
  exact⟨⟨[some x],rfl,rfl⟩,st x H3 y⟩
end
def Rl.plain1:Rl->Prop
 | .first _ _=>False
 | _=>True
def Rl.flat:Rl->Prop
 | .first t _=>t.plain1
 | _=>True
theorem Ru.wo {C:Nat->Addr}{H:Hp}{p:Addr}{t:Rl}{v:V}(h:Ru C H t v)(b:BoxAt H p):Ru C (wo H p) t v:=h.keepT λ a o e n=>by
 obtain⟨_,_,_,hp,_⟩:=b.ex;exact bD (λ z=>by subst z;rw [hp] at e;cases e;exact n _ rfl) e
section
variable {P:Program}{w:World}{K:Frag}{mg:Str->Option Value}{base:Heap}{C:Nat->Addr}{CR CN CS CT CM:Addr}{De:cw}{u:TS}{H:Hp}{sA p:Addr}{ns:List Int}{m:Int}{o0 o1 o2 o3 o4 o5 o6 o7 o8 o9:Option V}
theorem yY {σ:St}{sv:Addr}{rs:List R0}{Q:VK}(s3:σ[3]?=some (some (.ref sv)))(hv:Sv C (wo H p) sv rs)(k:∀ x H',Ext H H'->Ru C H' (.blocks rs) (.ref x)->Q (.ref x) H'):dM (C 3) (jb K C CT CM) [] E0 (am (c7 (aZ K (af 3)) 1 [] (aP 0) (u6 K)) aL) σ H Q:=by
 obtain⟨xs,hsv,al⟩:=hv.ex;have l4:=hv.l4;have lx:=al.1;refine⟨_,s3,sv,rfl,⟨xs,SqL.of (ak _ _ _ _ hsv)⟩,λ D hD=>?_⟩;refine bz (a:=sv) (xs:=xs) (λ i ys H'=>Ext H H'/\All0 C (wo H p) (rs.take i) ys) (by rw [sizeLine_eq];omega) ⟨Ext.new hD,rfl,λ i r w h=>by simp at h⟩ (λ i ys H' pv=>SqL.of (pv.1 _ _ (ak _ _ _ _ hsv))) ?_ ?_
 ·rintro i x ys H' ex ly hDD ⟨x',all⟩ os los R k';obtain⟨o0,rfl⟩:∃ o0,os=[o0]:=by
   match os,los with
   | [o0],_=>exact⟨o0,rfl⟩
  obtain⟨r,er,l,uu,rfl,hl,ru⟩:=al.at ex;refine⟨⟨[some (.ref l)],rfl,rfl⟩,_,rfl,l,_,_,_,rfl,rfl,SqL.of (x' _ _ (ak _ _ _ _ hl)),dL (j:=1) rfl,?_⟩;refine k' _ H' hDD ⟨aO _ x' hD,?_⟩;rw [aA er];exact rG all ru
 ·rintro ys H' ly hDD ⟨x',all⟩;rw [lx,List.take_length] at all;refine λ x dx hx hd ne=>nw hx hd ne hDD (all.ext ((ak _ _).trans x')) ⟨hv.l1,by omega,hv.ok,hv.sm⟩ λ H2 x2 ru=>⟨rfl,k x H2 (x'.trans x2) ru⟩
theorem wc (sc:Sc K H sA p ns){sv:Addr}{rs:List R0}(hv:Sv C (wo H p) sv rs)(k:∀ v t H',Sc K H' sA p ns->Ext (wo H p) (wo H' p)->Ru C (wo H' p) t v->t.plain1->t.ok->t.bl=fe rs->t.folk=(rs.map R0.folk).sum->u De [some (.ref sA),some (.ref p),o2,some (.ref sv),o4,o5,o6,o7,some v,o9] H') :
  aV (wI K) (aV (u8 K C CT CM) u) De [some (.ref sA),some (.ref p),o2,some (.ref sv),o4,o5,o6,o7,o8,o9] H:=by
 obtain⟨xs,hsv,al⟩:=hv.ex;have lx:=al.1;have l1:=hv.l1;have l0:0<xs.length:=by omega
 obtain⟨r0,er0,l,uu,e0,hl,ru⟩:=al.at (List.getElem?_eq_getElem l0);refine aG (te:=aB (cE K) (aB (cE K) (af 3) (tC (.int 0))) (tC (.int 1))) (i:=8) ?_;refine⟨_,rfl,sv,_,_,_,rfl,rfl,SqL.of (ak _ _ _ _ hsv),dL (j:=0) (List.getElem?_eq_getElem l0),l,_,_,_,e0,rfl,SqL.of (ak _ _ _ _ hl),dL (j:=1) rfl,?_⟩;show aV (u8 K C CT CM) u De [some (.ref sA),some (.ref p),o2,some (.ref sv),o4,o5,o6,o7,some uu,o9] H;have many:∀(H1:Hp)(o8:Option V)(De':cw),De'.nx=u De->Sc K H1 sA p ns->Ext (wo H p) (wo H1 p)->cj (dM (C 3) (jb K C CT CM) [] E0 (am (c7 (aZ K (af 3)) 1 [] (aP 0) (u6 K)) aL)) (aP 8) De' [some (.ref sA),some (.ref p),o2,some (.ref sv),o4,o5,o6,o7,o8,o9] H1:=by
  intro H1 o8 De' hDe sc1 x1;refine yY (p:=p) rfl (hv.ext x1) λ x H2 x2 ru2=>?_;show De'.nx [some (.ref sA),some (.ref p),o2,some (.ref sv),o4,o5,o6,o7,some (.ref x),o9] H2;rw [hDe];have l4:=hv.l4;exact k (.ref x) (.blocks rs) H2 (sc1.ext x2) (x1.trans (bq x2 p)) (ru2.wo (sc1.ext x2).bx) trivial ⟨hv.l1,by omega,hv.ok,hv.sm⟩ rfl rfl
 refine⟨_,rfl,sv,xs,rfl,.inl (SqL.of (ak _ _ _ _ hsv)),_,_,rfl,rfl,_,rfl,?_⟩;by_cases hx:((xs.length:Nat):Int)>1
 ·rw [decide_eq_true hx];exact cW (cW (many H _ _ rfl sc (Ext.refl _)))
 ·rw [decide_eq_false hx];refine cH (bv sc rfl rfl (λ R r=>r) (by decide) (by decide) λ z H1 z0 z3 sc1 k1=>⟨rfl,_,rfl,?_⟩)
  by_cases ez:z=0
  ·rw [decide_eq_true (by rw [ez])]
   exact cW (many H1 _ _ rfl sc1 (aI k1))
  ·rw [decide_eq_false (λ h=>ez (V.int.inj h))];have er:rs=[r0]:=by
    match rs,er0,(by omega:rs.length=1) with
    | [r],e,_=>cases e;rfl
   subst er;refine cH (k uu (.one r0) H1 sc1 (aI k1) (ru.ext (aI k1)) trivial (hv.ok r0 (List.mem_singleton.mpr rfl)) ?_ ?_)
   ·show [(r0.word,cy 0 r0.folk.toNat)]=fe [r0];rfl
   ·show r0.folk=([r0].map R0.folk).sum;simp
def FH (m:Int):V->Bool
 | .int i=>decide (i<m)
 | _=>false
theorem xn {bl:Addr}{ys:List V}{B:List Bk}{Q:VK}{σ:St}(s5:σ[5]?=some (some (.ref bl)))(s4:σ[4]?=some (some (.int m)))(b:BoxAt H p)(hb:wo H p bl=some (.lst ys))(ra:RdsAll (wo H p) ys (B.map kA))(l6:B.length<=6)(l20:∀ b∈B,b.2.length<=20)(k:∀ D zs H',Ext H H'->wo H' p D=some (.lst zs)->RdsAll (wo H' p) zs ((gH m B).map kA)->Q (.ref D) H') :
  c7 (aZ K (af 5)) 2 [4] (lW K) (uY K) σ H Q:=by
 have ly:=ra.length;rw [List.length_map] at ly;refine⟨_,s5,bl,rfl,⟨ys,SqL.of (ak _ _ _ _ hb)⟩,λ D hD=>?_⟩;have nD:=b.ne hD;have ec:cu [4] σ=[some (.int m)]:=by unfold cu;rw [List.map_cons,s4];rfl
 rw [ec];refine bz (a:=bl) (xs:=ys) (λ i zs H'=>Ext H H'/\RdsAll (wt H' p D) zs ((gH m (B.take i)).map kA)) (by rw [sizeLine_eq];omega) ⟨Ext.new hD,.nil⟩ (λ i zs H' pv=>SqL.of (pv.1 _ _ (ak _ _ _ _ hb))) ?_ ?_
 ·rintro i x zs H' ex lz hDD ⟨x',rz⟩ os los R k';obtain⟨o0,o1,rfl⟩:∃ o0 o1,os=[o0,o1]:=by
   match os,los with
   | [o0,o1],_=>exact⟨o0,o1,rfl⟩
  obtain⟨d,ed,rd⟩:=ra.get ex;rw [List.getElem?_map] at ed;obtain⟨bk,ebk,rfl⟩:=Option.map_eq_some_iff.mp ed;obtain⟨a,l,rfl,ha,hl⟩:=ld rd;have lb:=l20 bk (List.mem_of_getElem? ebk);refine⟨a,_,rfl,SqT.of (x' _ _ (ak _ _ _ _ ha)),rfl,_,_,rfl,_,_,rfl,rfl,⟨[some (.str bk.1),some (.ref l)],rfl,rfl⟩,_,rfl,?_⟩;refine⟨_,rfl,l,rfl,⟨_,SqL.of (x' _ _ (ak _ _ _ _ hl))⟩,λ D2 hD2=>?_⟩;refine f7 (a:=l) (FH m) (by rw [sizeLine_eq,List.length_map];omega) (x' _ _ (ak _ _ _ _ hl)) hD2 ?_ ?_
  ·rintro j v H2 ev x2 R2 r2;rw [List.getElem?_map] at ev;obtain⟨n,en,rfl⟩:=Option.map_eq_some_iff.mp ev;exact⟨_,rfl,_,rfl,_,_,rfl,rfl,_,rfl,r2⟩
  ·intro H2 x2 hD22;rw [cS (λ x=>decide (x<m)) (FH m) (λ _=>rfl)] at hD22;have nD2:D2≠D:=λ e=>by rw [e,hDD] at hD2;cases hD2
   have b2:=b.ext x';have nD2p:=b2.ne hD2;refine⟨by show 2<=sizeLine;decide,λ t ht=>?_⟩
   have x3:=Ext.new (o:=.tup [.str bk.1,.ref D2]) ht;have g3:ae H2 t (.tup [.str bk.1,.ref D2]) t=some (.tup [.str bk.1,.ref D2]):=aR;have ntD:t≠D:=λ e=>by rw [e,x2 _ _ hDD] at ht;cases ht
   have ntp:=(b2.ext x2).ne ht;generalize ae H2 t (.tup [.str bk.1,.ref D2])=H3 at x3 g3 ⊢;have x23:=x2.trans x3;refine k' _ H3 (x23 _ _ hDD) ⟨aO _ (x'.trans x23) hD,?_⟩;have et:gH m (B.take (i+1))=gH m (B.take i) ++ [(bk.1,bk.2.filter λ x=>decide (x<m))]:=by
    unfold gH;rw [aA ebk,List.map_append];rfl
   rw [et,List.map_append];refine((rz.mono (lT x23 p D)).append (.cons ?_ .nil)).mono lP;exact qp (b:=(bk.1,bk.2.filter λ x=>decide (x<m))) (gP ntp ntD g3) (gP nD2p nD2 (x3 _ _ hD22))
 ·rintro zs H' lz hDD ⟨x',rz⟩;rw [ly,List.take_length] at rz;exact k D zs H' x' (bD nD hDD) (rz.mono (ak _ _))
theorem uR {σ:St}{te:TE}{g:TG}(h:te σ H λ x H1=>g x σ H1 De.nx):cj te g De σ H:=h
theorem v0 (sc:Sc K H sA p ns){bl:Addr}{ys:List V}{rs:List R0}{t:Rl}{v:V}(ru:Ru C (wo H p) t v)(pl:t.plain1)(ok:t.ok)(eb:t.bl=fe rs)(rok:∀ r∈rs,r.ok)(l4:rs.length<=4)(hb:wo H p bl=some (.lst ys))(ra:RdsAll (wo H p) ys ((fe rs).map kA))
  (k:∀ v t o4 bl ys B H',Sc K H' sA p ns->Ext (wo H p) (wo H' p)->Ru C (wo H' p) t v->t.flat->t.ok->B.length<=4->(∀ b∈B,b.2.length<=20)->wo H' p bl=some (.lst ys)->RdsAll (wo H' p) ys (B.map kA)->fV B=t.bl->u De [some (.ref sA),some (.ref p),o2,o3,o4,some (.ref bl),o6,o7,some v,o9] H')(s6:o6=some (.int t.folk)) :
  aV (ye K C CN) u De [some (.ref sA),some (.ref p),o2,o3,o4,some (.ref bl),o6,o7,some v,o9] H:=by
 subst s6;have fk:=Rl.folk_ok ok;have lB:(fe rs).length<=4:=by rw [qJ];exact l4
 have l20:∀ b∈fe rs,b.2.length<=20:=λ b hb=>io _ 0 (λ n hn=>by
  obtain⟨r,hr,rfl⟩:=List.mem_map.mp hn;exact(R0.folk_ok (rok r hr)).2) _ (List.of_mem_zip hb).2
 refine bv sc rfl rfl (λ R r=>r) (by decide) (by decide) λ z H1 z0 z3 sc1 k1=>⟨rfl,_,rfl,?_⟩
 have xa:=aI k1;by_cases ez:z=0
 ·rw [decide_eq_true (by rw [ez])]
  refine cW ?_;refine aG (te:=fj K (aB (ck λ i j=>.int (i+j)) (af 6) (tC (.int 1)))) (i:=4) ?_;refine bv (m:=t.folk+1) sc1 rfl rfl (λ R r=>⟨_,rfl,_,_,rfl,rfl,r⟩) (by omega) (by omega) λ y H2 y0 ym sc2 k2=>?_
  have xb:=xa.trans (aI k2);refine aG (te:=dM (C 4) (kE C CN) [] E0 (am (af 8) (am (af 4) aL))) (i:=8) ?_;have okf:(Rl.first t y).ok:=⟨ok,y0,by omega⟩
  refine⟨_,rfl,_,rfl,λ x dx hx hd ne=>pF hx hd ne ((ru.ext xb).ext (ak _ _)) okf λ H3 x3 ru3=>⟨rfl,?_⟩⟩;have sc3:=sc2.ext x3;have xc:=xb.trans (bq x3 p);refine uR (te:=c7 (aZ K (af 5)) 2 [4] (lW K) (uY K)) (g:=aP 5) ?_;refine xn (p:=p) (m:=y) rfl rfl sc3.bx (xc _ _ hb) (ra.mono xc) (by omega) l20 λ D zs H4 x4 hD rz=>?_
  have sc4:=sc3.ext x4;refine k (.ref x) (.first t y) (some (.int y)) D zs (gH y (fe rs)) H4 sc4 (xc.trans (bq x4 p)) ((ru3.wo sc3.bx).ext (bq x4 p)) pl okf (by unfold gH;rw [List.length_map];exact lB) (λ b hb=>?_) hD rz (by show _=fV (gH y t.bl);rw [eb])
  obtain⟨b',hb',rfl⟩:=List.mem_map.mp hb;exact Nat.le_trans (List.length_filter_le _ _) (l20 b' hb')
 ·rw [decide_eq_false (λ h=>ez (V.int.inj h))];refine cH (k v t _ bl ys (fe rs) H1 sc1 xa (ru.ext xa) ?_ ok lB l20 (xa _ _ hb) (ra.mono xa) (by rw [qz rok,eb]))
  cases t with
  | one r=>trivial
  | blocks rs=>trivial
  | first t m=>exact pl.elim
theorem wr (sc:Sc K H sA p ns){bl:Addr}{ys:List V}{B:List Bk}{v:V}(l4:B.length<=4)(l20:∀ b∈B,b.2.length<=20)(hb:wo H p bl=some (.lst ys))(ra:RdsAll (wo H p) ys (B.map kA))
  (k:∀ a D zs H',Ext H H'->H D=none->wo H' p a=some (.tup [v,.ref D])->wo H' p D=some (.lst zs)->RdsAll (wo H' p) zs ((fV B).map kA)->De.rt (.ref a) H'):zt K De [o0,o1,o2,o3,o4,some (.ref bl),o6,o7,some v,o9] H:=by
 have ly:=ra.length;rw [List.length_map] at ly;refine⟨_,rfl,_,rfl,bl,rfl,⟨ys,SqL.of (ak _ _ _ _ hb)⟩,λ D hD=>?_⟩;have nD:=sc.bx.ne hD;refine iT (a:=bl) (xs:=ys) (λ i zs H'=>Ext H H'/\RdsAll (wt H' p D) zs ((fV (B.take i)).map kA)) (by rw [sizeLine_eq];omega) ⟨Ext.new hD,.nil⟩ (λ i zs H' pv=>SqL.of (pv.1 _ _ (ak _ _ _ _ hb))) ?_ ?_
 ·rintro i x zs H' ex lz hDD ⟨x',rz⟩ os los N kN;obtain⟨o0,o1,rfl⟩:∃ o0 o1,os=[o0,o1]:=by
   match os,los with
   | [o0,o1],_=>exact⟨o0,o1,rfl⟩
  obtain⟨d,ed,rd⟩:=ra.get ex;rw [List.getElem?_map] at ed;obtain⟨bk,ebk,rfl⟩:=Option.map_eq_some_iff.mp ed;obtain⟨a,l,rfl,ha,hl⟩:=ld rd;refine⟨a,_,rfl,SqT.of (x' _ _ (ak _ _ _ _ ha)),rfl,_,_,rfl,_,_,rfl,rfl,⟨[some (.str bk.1),some (.ref l)],rfl,rfl⟩,_,rfl,by show 0<=sizeLine;decide,λ q hq=>?_⟩
  have x2:=Ext.new (o:=.lst []) hq;have g2:ae H' q (.lst []) q=some (.lst []):=aR;generalize ae H' q (.lst [])=H2 at x2 g2 ⊢;have et:fV (B.take (i+1))=fV (B.take i)++(if(!bk.2.isEmpty)=true then [bk] else []):=by
   unfold fV;rw [aA ebk,List.filter_append,List.filter_cons,List.filter_nil]
  refine⟨l,q,_,rfl,rfl,SqL.of (x2 _ _ (x' _ _ (ak _ _ _ _ hl))),SqL.of g2,_,rfl,?_⟩;have ee:(bk.2.map V.int).isEmpty=bk.2.isEmpty:=by cases bk.2 <;> rfl
  rw [ee];refine⟨λ hf=>kN zs H2 ⟨x'.trans x2,?_⟩ (by omega) (x2 _ _ hDD),λ ht=>?_⟩
  ·rw [et,if_neg (by rw [hf];decide),List.append_nil]
   exact rz.mono (lT x2 p D)
  ·refine⟨_,rfl,_,rfl,by show 2<=sizeLine;decide,λ tt htt=>?_⟩
   have x3:=Ext.new (o:=.tup [.str bk.1,.ref l]) htt;have g3:ae H2 tt (.tup [.str bk.1,.ref l]) tt=some (.tup [.str bk.1,.ref l]):=aR;have ntD:tt≠D:=λ e=>by rw [e,x2 _ _ hDD] at htt;cases htt
   have ntp:=(sc.bx.ext (x'.trans x2)).ne htt;generalize ae H2 tt (.tup [.str bk.1,.ref l])=H3 at x3 g3 ⊢;have x23:=x2.trans x3;have hDD3:=x23 _ _ hDD;refine⟨hDD3,kN _ _ ⟨aO _ (x'.trans x23) hD,?_⟩ (by rw [List.length_append];show zs.length+1<=i+1;omega) aR⟩
   have lD:l≠D:=λ e=>by rw [e] at hl;have:=ak _ _ _ _ hl;rw [hD] at this;cases this
   rw [et,if_pos ht,List.map_append];refine((rz.mono (lT x23 p D)).append (.cons ?_ .nil)).mono lP;exact qp (b:=bk) (gP ntp ntD g3) (gP (gR hl) lD (x23 _ _ (x' _ _ (ak _ _ _ _ hl))))
 ·rintro zs H' lz hDD ⟨x',rz⟩;rw [ly,List.take_length] at rz;refine⟨by show 2<=sizeLine;decide,λ a ha=>?_⟩
  have x3:=Ext.new (o:=.tup [v,.ref D]) ha;have g3:ae H' a (.tup [v,.ref D]) a=some (.tup [v,.ref D]):=aR;have nap:=(sc.bx.ext x').ne ha;exact k a D zs _ (x'.trans x3) hD (bD nap g3) (bD nD (x3 _ _ hDD)) ((rz.mono (ak _ _)).mono (bq x3 p))
def yh (K:Frag)(C:Nat->Addr):Sp:=λ vs H Q _=>∃(s p:Addr)(ns:List Int)(m:Int),vs=[.ref s,.ref p,.int m]/\Sc K H s p ns/\1<=m/\m<=20/\∀ a v D zs t H',Sc K H' s p ns->Ext (wo H p) (wo H' p)->wo H p D=none->wo H' p a=some (.tup [v,.ref D])->Ru C (wo H' p) t v->t.flat->t.ok->wo H' p D=some (.lst zs)->RdsAll (wo H' p) zs (t.bl.map kA)->Q (.ref a) H'
theorem zv (sc:Sc K H sA p ns)(m1:1<=m)(m2:m<=20)(q:∀ a v D zs t H',Sc K H' sA p ns->Ext (wo H p) (wo H' p)->wo H p D=none->wo H' p a=some (.tup [v,.ref D])->Ru C (wo H' p) t v->t.flat->t.ok->wo H' p D=some (.lst zs)->RdsAll (wo H' p) zs (t.bl.map kA)->De.rt (.ref a) H') :
  Bx (FQ K C CN CT CM De [some (.ref sA),some (.ref p),some (.int m),o3,o4,o5,o6,o7,o8,o9] H):=by
 refine⟨w6 sc m1 m2 λ sv rs H1 sc1 x1 sv1=>?_⟩;refine yG sc1 m1 m2 sv1 λ sv rs o4 H2 sc2 x2 sv2=>?_;refine wD sc2 sv2 λ bl ys o7 o8 o9 H3 sc3 x3 hb ra=>?_;refine wc sc3 (sv2.ext x3) λ v t H4 sc4 x4 ru pl ok eb ef=>?_;refine v0 sc4 ru pl ok eb sv2.ok sv2.l4 (x4 _ _ hb) (ra.mono x4) (λ v t o4 bl ys B H5 sc5 x5 ru5 fl ok5 l4 l20 hb5 ra5 ec=>?_) (by rw [ef])
 refine wr sc5 l4 l20 hb5 ra5 λ a D zs H6 x6 nD ha hD rz=>?_;have wn:wo H p D=none:=by
  cases e:wo H p D with
  | none=>rfl
  | some o=>rw [ak _ _ _ _ ((((x1.trans x2).trans x3).trans (x4.trans x5)) _ _ e)] at nD;cases nD
 have x56:=bq x6 p;rw [ec] at rz;exact q a v D zs t H6 (sc5.ext x6) ((((x1.trans x2).trans x3).trans (x4.trans x5)).trans x56) wn ha (ru5.ext x56) fl ok5 hD rz
theorem BV {f f0 f1 f2 f3 f4 a1 a2:Addr}{fd e0 e1 e2 e3 e4 d1 d2:FuncData}(F:Fun K "_law_rule" "_law_rule" ky f fd)(L:Dk P w K mg base C CN CS CT CM f0 f1 f2 f3 f4 e0 e1 e2 e3 e4)(A1:Df P w K mg base aq 1 "_law_take" ["_law_script","_law_pen","_law_many"] (dH K) a1 d1)(A2:Df P w K mg base aq 8 "_law_plain_rule" ["_law_script","_law_pen","_law_most"] (oX K C) a2 d2)(mr:mg "range" = none)(mm:mg "max" = none)(mi:mg "int" = none)(ml:mg "list" = none)(mn:mg "len" = none):FnOk P w K mg base aq 9 f fd ["_law_script","_law_pen","_law_most"] (yh K C):=by
 refine F.ok scRL (λ vs H Q E h=>?_) (λ cdv A outer s H vs Q E hr h=>?_)
 ·obtain⟨_,_,_,_,rfl,_⟩:=h;rfl
 obtain⟨sA,p,ns,m,rfl,sc,m1,m2,q⟩:=h;exact gS (yQ L A1 A2 hr mr mm mi ml mn) (zv sc m1 m2 q)
end
theorem dY (s:Int)(n:Nat):(cy s n).length=n:=by unfold cy;rw [List.length_map,List.length_range]
theorem og {s:Int}{n i:Nat}(h:i<n):(cy s n)[i]?=some (s+(i:Nat)):=by
 unfold cy;rw [List.getElem?_map,List.getElem?_range h];rfl
theorem jL (s:Int)(a b:Nat):cy s (a+b)=cy s a++cy (s+(a:Nat)) b:=by
 unfold cy;rw [List.range_add,List.map_append,List.map_map]
 congr 1
 apply List.map_congr_left;intro k _;show s+((a+k:Nat):Int)=s+(a:Nat)+(k:Nat);omega
theorem hZ (s:Int)(n:Nat):cy s (n+1)=s::cy (s+1) n:=by
 rw [Nat.add_comm n 1,jL];show [s+((0:Nat):Int)]++_=_;simp
theorem gD:∀(n:Nat)(s m:Int),m<=s->(cy s n).filter (λ x=>decide (x<m))=[]
 | 0,s,m,h=>rfl
 | n+1,s,m,h=>by
  rw [hZ,List.filter_cons,if_neg (by simp;omega)]
  exact gD n (s+1) m (by omega)
theorem iF:∀(n:Nat)(s m:Int),s+(n:Nat)<=m->(cy s n).filter (λ x=>decide (x<m))=cy s n
 | 0,s,m,h=>rfl
 | n+1,s,m,h=>by
  rw [hZ,List.filter_cons,if_pos (by simp;omega),iF n (s+1) m (by omega)]
theorem qi (n:Nat)(s m:Int)(h1:s<=m)(h2:m<=s+(n:Nat)):(cy s n).filter (λ x=>decide (x<m))=cy s (m-s).toNat:=by
 obtain⟨a,ha⟩:∃ a:Nat,m-s=(a:Int):=⟨(m-s).toNat,by omega⟩
 obtain⟨b,rfl⟩:∃ b:Nat,n=a+b:=⟨n-a,by omega⟩
 rw [jL,List.filter_append,iF a s m (by omega),gD b _ m (by omega),List.append_nil,ha,Int.toNat_natCast]
theorem jm (m:Int)(p:List Int)(ps:List (List Int)):fv m (p::ps)=if 0<(p.filter λ x=>decide (x<m)).length then(p.filter λ x=>decide (x<m))::fv m ps else fv m ps:=by
 unfold fv;rw [List.map_cons,List.filter_cons];by_cases h:0<(p.filter λ x=>decide (x<m)).length
 ·rw [if_pos h,if_pos (decide_eq_true h)]
 ·rw [if_neg h,if_neg (by rw [decide_eq_false h];decide)]
theorem f6:∀(ns:List Int)(s m:Int),(∀ n∈ns,1<=n)->∃ ns',(∀ n∈ns',1<=n)/\fv m (bM s ns)=bM s ns'/\(s<=m->m<=s+ns.sum->s+ns'.sum=m)/\(m<=s->ns'=[])
 | [],s,m,_=>⟨[],(λ n h=>nomatch h),rfl,(λ h1 h2=>by simp at h2 ⊢;omega),λ _=>rfl⟩
 | n::ns,s,m,h=>by
  have hn:=h n (List.mem_cons_self ..);obtain⟨ns',g1,g2,g3,g4⟩:=f6 ns (s+n) m λ x hx=>h x (List.mem_cons_of_mem _ hx);show ∃ ns',_/\fv m (cy s n.toNat::bM (s+n) ns)=_/\_/\_;rw [jm,g2];by_cases hs:s<m
  ·by_cases hm:s+n<=m
   ·refine⟨n::ns',λ x hx=>?_,?_,λ _ h2=>?_,λ h3=>absurd h3 (by omega)⟩
    ·rcases List.mem_cons.mp hx with rfl | hx
     ·exact hn
     ·exact g1 x hx
    ·rw [iF _ _ _ (by omega),dY,if_pos (by omega)]
     rfl
    ·rw [List.sum_cons] at h2 ⊢;have:=g3 (by omega) (by omega)
     omega
   ·have e:=g4 (by omega)
    subst e;refine⟨[m-s],λ x hx=>?_,?_,λ _ _=>?_,λ h3=>absurd h3 (by omega)⟩
    ·rw [List.mem_singleton.mp hx];omega
    ·rw [qi _ _ _ (by omega) (by omega),dY,if_pos (by omega)]
     rfl
    ·simp;omega
  ·have e:=g4 (by omega)
   subst e;refine⟨[],(λ n h=>nomatch h),?_,λ h1 h2=>?_,λ _=>rfl⟩
   ·rw [gD _ _ _ (by omega),if_neg (by simp)]
    rfl
   ·simp;omega
theorem j6:∀(ws:List Str)(ns:List Int)(s m:Int),(∀ n∈ns,1<=n)->fV (gH m (ws.zip (bM s ns)))=ws.zip (fv m (bM s ns))
 | [],ns,s,m,_=>by simp [fV,gH]
 | w::ws,[],s,m,_=>rfl
 | w::ws,n::ns,s,m,h=>by
  have hn:=h n (List.mem_cons_self ..);have h':∀ x∈ns,1<=x:=λ x hx=>h x (List.mem_cons_of_mem _ hx);have ih:=j6 ws ns (s+n) m h';show fV (gH m ((w,cy s n.toNat)::ws.zip (bM (s+n) ns)))=(w::ws).zip (fv m (cy s n.toNat::bM (s+n) ns));rw [jm];show fV ((w,(cy s n.toNat).filter λ x=>decide (x<m))::gH m (ws.zip (bM (s+n) ns)))=_;unfold fV at ih ⊢;rw [List.filter_cons];by_cases hl:0<((cy s n.toNat).filter λ x=>decide (x<m)).length
  ·rw [if_pos hl,if_pos (by
    cases e:(cy s n.toNat).filter (λ x=>decide (x<m)) with
    | nil=>rw [e] at hl;exact absurd hl (by simp)
    | cons _ _=>rfl),List.zip_cons_cons]
   show _::_=_;rw [ih]
  ·rw [if_neg hl];have e:(cy s n.toNat).filter (λ x=>decide (x<m))=[]:=List.eq_nil_of_length_eq_zero (by omega)
   have ms:m<=s:=by
    rcases Int.lt_or_le s m with lt | ge
    ·exfalso;obtain⟨k,hk⟩:∃ k:Nat,n.toNat=k+1:=⟨n.toNat-1,by omega⟩
     rw [hk,hZ,List.filter_cons,if_pos (by simpa using lt)] at e
     cases e
    ·exact ge
   rw [if_neg (by rw [e];exact Bool.false_ne_true),ih]
   obtain⟨ns',_,g2,_,g4⟩:=f6 ns (s+n) m h';rw [g2,g4 (by omega)]
   show ws.zip []=(w::ws).zip [];rw [List.zip_nil_right,List.zip_nil_right]
theorem dP {rs:List R0}(ok:∀ r∈rs,r.ok):∀ n∈rs.map R0.folk,1<=n:=λ n hn=>by
 obtain⟨r,hr,rfl⟩:=List.mem_map.mp hn;exact(R0.folk_ok (ok r hr)).1
theorem iM:∀{t:Rl},t.ok->t.flat->∃ ns,(∀ n∈ns,1<=n)/\t.parts=bM 0 ns/\ns.sum=t.folk
 | .one r,h,_=>⟨[r.folk],λ n hn=>by rw [List.mem_singleton.mp hn];exact(R0.folk_ok h).1,rfl,by simp [Rl.folk]⟩
 | .blocks rs,h,_=>⟨rs.map R0.folk,dP h.2.2.1,rfl,rfl⟩
 | .first (.one r) m,h,_=>by
  obtain⟨ns',g1,g2,g3,_⟩:=f6 ([r].map R0.folk) 0 m (dP λ r' h'=>by rw [List.mem_singleton.mp h'];exact h.1)
  refine⟨ns',g1,g2,?_⟩;have:=g3 h.2.1 (by have:=h.2.2;simp [Rl.folk] at this ⊢;exact this)
  rw [Int.zero_add] at this;exact this
 | .first (.blocks rs) m,h,_=>by
  obtain⟨ns',g1,g2,g3,_⟩:=f6 (rs.map R0.folk) 0 m (dP h.1.2.2.1);refine⟨ns',g1,g2,?_⟩;have:=g3 h.2.1 (by rw [Int.zero_add];exact h.2.2)
  rw [Int.zero_add] at this;exact this
 | .first (.first _ _) _,_,h=>h.elim
theorem rV:∀{t:Rl},t.ok->t.flat->t.bl=(t.base.map R0.word).zip t.parts
 | .one r,_,_=>rfl
 | .blocks rs,_,_=>rfl
 | .first (.one r) m,h,_=>j6 ([r].map R0.word) ([r].map R0.folk) 0 m (dP λ r' h'=>by rw [List.mem_singleton.mp h'];exact h.1)
 | .first (.blocks rs) m,h,_=>j6 (rs.map R0.word) (rs.map R0.folk) 0 m (dP h.1.2.2.1)
 | .first (.first _ _) _,_,h=>h.elim
theorem mJ:∀{t:Rl},t.flat->t.parts.length<=t.base.length
 | .one r,_=>Nat.le_refl _
 | .blocks rs,_=>by show(bM 0 (rs.map R0.folk)).length<=rs.length;rw [dy,List.length_map];exact Nat.le_refl _
 | .first (.one r) m,_=>by
  show(fv m [cy 0 r.folk.toNat]).length<=1;unfold fv;exact Nat.le_trans (List.length_filter_le _ _) (by simp)
 | .first (.blocks rs) m,_=>by
  show(fv m (bM 0 (rs.map R0.folk))).length<=rs.length;unfold fv;refine Nat.le_trans (List.length_filter_le _ _) ?_;rw [List.length_map,dy,List.length_map];exact Nat.le_refl _
 | .first (.first _ _) _,h=>h.elim
theorem fm {t:Rl}(ok:t.ok)(fl:t.flat):t.bl.map (·.2)=t.parts:=by
 rw [rV ok fl];exact List.map_snd_zip (by rw [List.length_map];exact mJ fl)
def lc (b:Bk):Bool:=decide (V.str b.1=V.str "pairs")&&decide (b.2.length%2=0)
theorem qx:∀(ps:List (List Int))(rs:List R0),List.zipWith (λ (p:List Int)(r:R0)=>r.isP&&decide (p.length%2=0)) ps rs=((rs.map R0.word).zip ps).map lc
 | [],rs=>by simp
 | p::ps,[]=>by simp
 | p::ps,r::rs=>by
  show(r.isP&&decide (p.length%2=0))::_=lc (r.word,p)::_;rw [qx ps rs];unfold lc;rw [R0.word_p];rfl
theorem mT {t:Rl}(ok:t.ok)(fl:t.flat):lS t=t.bl.map lc:=by
 unfold lS;rw [rV ok fl];exact qx _ _
theorem jq:∀(ns:List Int)(s:Int),(∀ n∈ns,1<=n)->(bM s ns).flatten=cy s ns.sum.toNat
 | [],s,_=>rfl
 | n::ns,s,h=>by
  have hn:=h n (List.mem_cons_self ..);have h':∀ x∈ns,1<=x:=λ x hx=>h x (List.mem_cons_of_mem _ hx);have s0:0<=ns.sum:=du λ x hx=>by have:=h' x hx;omega
  show(cy s n.toNat::bM (s+n) ns).flatten=_;rw [List.flatten_cons,jq ns (s+n) h',List.sum_cons];have e:(n+ns.sum).toNat=n.toNat+ns.sum.toNat:=by omega
  rw [e,jL]
  congr 2
  omega
theorem nO {t:Rl}(ok:t.ok)(fl:t.flat):(t.bl.map (·.2)).flatten=cy 0 t.folk.toNat:=by
 obtain⟨ns,h1,h2,h3⟩:=iM ok fl;rw [fm ok fl,h2,jq ns 0 h1,h3]
theorem i9:∀(B:List Bk),(∀ b∈B,b.2.length%2=0)->(B.map (·.2)).flatten.length%2=0
 | [],_=>rfl
 | b::B,h=>by
  have h1:=h b (List.mem_cons_self ..);have h2:=i9 B λ x hx=>h x (List.mem_cons_of_mem _ hx);rw [List.map_cons,List.flatten_cons,List.length_append];omega
theorem lQ {t:Rl}(ok:t.ok)(fl:t.flat){n:Nat}(e:t.folk=(n:Nat))(al:(lS t).all id=true):n%2=0:=by
 rw [mT ok fl] at al;have h:=i9 t.bl λ b hb=>by
  have:=List.all_eq_true.mp al (lc b) (List.mem_map.mpr ⟨b,hb,rfl⟩);unfold lc at this;simp only [id,Bool.and_eq_true,decide_eq_true_eq] at this;exact this.2
 rw [nO ok fl,dY,e,Int.toNat_natCast] at h;exact h
def DN (o:Int × Bool):PyData:=.tuple [.int o.1,.bool o.2]
def xM (os:List (Int × Bool)):Prop:=∀ o∈os,-99<=o.1/\o.1<=99
theorem jt {H:Hp}{xs:List V}{os:List (Int × Bool)}(h:RdsAll H xs (os.map DN)):pk H xs os:=by
 have l:=h.length;rw [List.length_map] at l;refine⟨l,λ i x o h1 h2=>?_⟩;obtain⟨d,ed,rd⟩:=h.get h1;rw [List.getElem?_map,h2] at ed;cases ed;obtain⟨a,ys,rfl,ha,rs⟩:=kh rd;cases rs with
 | cons r1 rs=>cases rs with
  | cons r2 rs=>cases rs;cases r1;cases r2;exact⟨a,rfl,ha⟩
section
variable {P:Program}{w:World}{K:Frag}{mg:Str->Option Value}{base:Heap}{f a1:Addr}{fd d1:FuncData}
abbrev DC:Stmt:=bR 71
theorem DT:ad ["_law_blocks"] ["_law_blocks"] (aa DC):=aJ
def uU:Sp:=λ vs H Q _=>∃(D:Addr)(zs:List V)(B:List Bk),vs=[.ref D]/\H D=some (.lst zs)/\RdsAll H zs (B.map kA)/\B.length<=20/\∀ H',Ext H H'->Q (.int ((B.map (·.2)).flatten.length:Nat)) H'
abbrev CK:Scope:={ kind:=.function,names:=[(".0",.local),("_law_word",.local),("_law_folk_here",.local),("len",.globalImplicit)],isGenerator:=false,isCoroutine:=false }
theorem wV {X:Cx}:aU X CK [] ["_law_word","_law_folk_here"] [] []:=ie (L:=[(".0",.local),("_law_word",.local),("_law_folk_here",.local),("len",.globalImplicit)]) rfl rfl (by decide +kernel) (by decide +kernel) (by decide +kernel) rfl (by decide +kernel) (by decide +kernel)
def eV (K:Frag)(i:Nat):TE:=gU (λ xs H Q=>∃ p ys,xs=[.ref p]/\(SqL K H p ys\/SqT K H p ys)/\Q (.int ys.length) H) (am (af i) aL)
theorem BD (F:Fun K "_law_folk" "_law_folk" DC f fd)(ms:mg "sum" = none)(mn:mg "len" = none):FnOk P w K mg base aq 1 f fd ["_law_blocks"] uU:=by
 refine F.ok DT (λ vs H Q E h=>?_) (λ cdv A outer s H vs Q E hr h=>?_)
 ·obtain⟨_,_,_,rfl,_⟩:=h;rfl
 obtain⟨D,zs,B,rfl,hD,ra,l20,q⟩:=h;refine⟨_,bc (cZ (ai (dQ rfl) rfl ms PyProof.Rows.boot_sum (ac (bT (te:=eV K 1) (g:=lW K) rfl wV (aE (pv 0)) (λ s H C fp=>by exact bI rfl (dX (bU (i:=0) pc rfl (.inl rfl)) (dX (bU (i:=1) pc rfl (.inl rfl)) ba))) (λ s H C fp=>by exact ai ar rfl mn PySem.boot_len (ac (pv 1) ao))) ao))),?_⟩
 have lz:=ra.length;rw [List.length_map] at lz;refine⟨_,rfl,D,rfl,⟨zs,SqL.of hD⟩,λ D2 hD2=>?_⟩;refine bz (a:=D) (xs:=zs) (λ i ys H'=>Ext H H'/\ys=((B.take i).map λ b=>((b.2.length:Nat):Int)).map V.int) (by rw [sizeLine_eq];omega) ⟨Ext.new hD2,rfl⟩ (λ i ys H' pv=>SqL.of (pv.1 _ _ hD)) ?_ ?_
 ·rintro i x ys H' ex ly hDD ⟨x',ey⟩ os los R k;obtain⟨o0,o1,rfl⟩:∃ o0 o1,os=[o0,o1]:=by
   match os,los with
   | [o0,o1],_=>exact⟨o0,o1,rfl⟩
  obtain⟨d,ed,rd⟩:=ra.get ex;rw [List.getElem?_map] at ed;obtain⟨bk,ebk,rfl⟩:=Option.map_eq_some_iff.mp ed;obtain⟨a,l,rfl,ha,hl⟩:=ld rd;refine⟨a,_,rfl,SqT.of (x' _ _ ha),rfl,_,_,rfl,_,_,rfl,rfl,⟨[some (.str bk.1),some (.ref l)],rfl,rfl⟩,_,rfl,l,_,rfl,.inl (SqL.of (x' _ _ hl)),?_⟩;refine k _ H' hDD ⟨aO _ x' hD2,?_⟩;rw [aA ebk,List.map_append,List.map_append,<- ey,List.length_map];rfl
 ·rintro ys H' ly hDD ⟨x',ey⟩;rw [lz,List.take_length] at ey;rw [ey] at hDD;refine⟨D2,_,rfl,SqL.of hDD,?_⟩;have e:∀ B:List Bk,(B.map λ b=>((b.2.length:Nat):Int)).sum=(((B.map (·.2)).flatten.length:Nat):Int):=λ B=>by
   induction B with
   | nil=>rfl
   | cons b B ih =>
    rw [List.map_cons,List.sum_cons,ih,List.map_cons,List.flatten_cons,List.length_append];omega
  rw [e];exact q H' x'
abbrev Dx:Stmt:=bR 73
theorem Em:ad ["_law_one","_law_other"] ["_law_one","_law_other"] (aa Dx):=aJ
def l9:Sp:=λ vs H Q _=>∃ v1 v2 o p,vs=[v1,v2]/\BY H v1 o/\BY H v2 p/\Q (.int (i8 o p)) H
theorem BO (F:Fun K "_law_stands" "_law_stands" Dx f fd)(mi:mg "int" = none):FnOk P w K mg base aq 1 f fd ["_law_one","_law_other"] l9:=by
 refine F.ok Em (λ vs H Q E h=>?_) (λ cdv A outer s H vs Q E hr h=>?_)
 ·obtain⟨_,_,_,_,rfl,_⟩:=h;rfl
 obtain⟨v1,v2,o,p,rfl,⟨a1,rfl,h1⟩,⟨a2,rfl,h2⟩,q⟩:=h;refine⟨_,bZ (bB (PW.pt (my (bw (c8 kD (pv 1) az)) (km (av ft (c8 kD (pv 0) az) (c8 kD (pv 1) az) (au _))))) (bc (cZ az)) gz)
  (bc (cZ (aj eJ az (aM gE rfl mi PyProof.Rows.boot_int (ac (dJ (c8 kD (pv 0) az) (eu (bY ft (c8 kD (pv 1) az) (c8 kD (pv 0) az) (au _)))) ao))))),?_⟩
 obtain⟨n1,s1⟩:=o;obtain⟨n2,s2⟩:=p;have fin:(s2&&decide (n1>n2))=false->Q (.int (if(s1&&decide (n2>n1))=true then -1 else 0)) H:=λ e=>by
  have:i8 (n1,s1) (n2,s2)=if(s1&&decide (n2>n1))=true then -1 else 0:=by
   show pL n1 s1 n2 s2=_;unfold pL;rw [e];rfl
  rw [<- this];exact q
 have last:∀ D:cw,D.rt=Q->(s2&&decide (n1>n2))=false->cX (aB (ck λ i j=>.int (i-j)) (tC (.int 0)) (gU (λ xs H Q=>(∃ i,xs=[.int i]/\Q (.int i) H)\/∃ k,xs=[.bl k]/\Q (.int (if k then 1 else 0)) H) (am (vP (aB (sG K) (af 0) (tC (.int 1))) (aB (ck λ i j=>.bl (decide (i>j))) (aB (sG K) (af 1) (tC (.int 0))) (aB (sG K) (af 0) (tC (.int 0))))) aL))) D [some (.ref a1),some (.ref a2)] H:=by
  intro D hD e;have f:=fin e;refine⟨_,rfl,a1,_,_,_,rfl,rfl,SqT.of h1,dL (j:=1) rfl,_,rfl,?_⟩;cases s1 with
  | false =>
   refine cH (.inr ⟨_,rfl,_,_,rfl,rfl,?_⟩);show D.rt _ _;rw [hD];exact f
  | true =>
   refine cW ⟨_,rfl,a2,_,_,_,rfl,rfl,SqT.of h2,dL (j:=0) rfl,_,rfl,a1,_,_,_,rfl,rfl,SqT.of h1,dL (j:=0) rfl,_,_,rfl,rfl,.inr ⟨_,rfl,_,_,rfl,rfl,?_⟩⟩;show D.rt _ _;rw [hD];cases g:decide (n2>n1) with
   | true=>rw [g] at f;exact f
   | false=>rw [g] at f;exact f
 refine⟨_,rfl,a2,_,_,_,rfl,rfl,SqT.of h2,dL (j:=1) rfl,_,rfl,?_⟩;cases s2 with
 | false=>exact cH (cH (last _ rfl rfl))
 | true =>
  refine cW ⟨_,rfl,a1,_,_,_,rfl,rfl,SqT.of h1,dL (j:=0) rfl,_,rfl,a2,_,_,_,rfl,rfl,SqT.of h2,dL (j:=0) rfl,_,_,rfl,rfl,_,rfl,?_⟩;cases g:decide (n1>n2) with
  | true =>
   refine cW ?_;have:i8 (n1,s1) (n2,true)=1:=by
    show pL n1 s1 n2 true=_;unfold pL;rw [g];rfl
   rw [this] at q;exact q
  | false=>exact cH (last _ rfl (by rw [g];rfl))
abbrev zL:Stmt:=bR 72
abbrev FZ:List Str:=["_law_script","_law_pen","_law_folk_here","_law_sure","_law_wide","_law_found","_law_k","_law_number"]
theorem scLO:ad FZ ["_law_script","_law_pen","_law_folk_here","_law_sure"] (aa zL):=aJ
def tV (K:Frag):Sp:=λ vs H Q _=>∃(s p:Addr)(ns:List Int)(n:Nat)(b:Bool),vs=[.ref s,.ref p,.int (n:Nat),.bl b]/\Sc K H s p ns/\n<=1200/\∀ l xs os H',Sc K H' s p ns->Ext (wo H p) (wo H' p)->wo H p l=none->wo H' p l=some (.lst xs)->RdsAll (wo H' p) xs (os.map DN)->xM os->os.length=n->Q (.ref l) H'
def F7 (K:Frag):TS:=cj (aB (cE K) (cL (am (tC (.int 2)) (am (tC (.int 5)) (am (tC (.int 19)) (am (tC (.int 199)) aL))))) (fj K (tC (.int 4)))) (aP 4)
def Gd:TS:=cj (cL aL) (aP 5)
def FM (K:Frag):TS:=cj (aB (ck λ i j=>.int (i-j)) (fj K (af 4)) (aB (rI ix λ i j=>.int (i/j)) (af 4) (tC (.int 2)))) (aP 7)
def FS (K:Frag):TS:=ls (Aj K "list" jD (af 5) (am (iD (am (af 7) (am (w5 (af 3) (aB (ck λ i j=>.bl (decide (i>j))) (fj K (tC (.int 3))) (tC (.int 0)))) aL))) aL))
def FY (K:Frag):TS:=iQ (jz (am (af 2) aL)) (aP 6) (aV (FM K) (FS K))
def F9 (K:Frag):TS:=aV (F7 K) (aV Gd (aV (FY K) (cX (af 5))))
section
variable {cdv:Value}{A:Around}{outer:List Env}{s:Shared}{H:Hp}{E:XK}
theorem wC (A1:Df P w K mg base aq 1 "_law_take" ["_law_script","_law_pen","_law_many"] (dH K) a1 d1)(mr:mg "range" = none)(hr:pJ 1 "_law_outcomes" zL A s f cdv):Bx (PSs (aH aq P w K mg base FZ "_law_outcomes" (aa zL) f cdv A outer s H E).nox (ax zL) (F9 K)):=by
 have nd:=scLO.nd;exact cQ ⟨gW (i:=4) nd rfl (Or.inl rfl) (c8 fU (dh (ac az (ac az (ac az (ac az ao))))) (bK A1.G hr rfl A1.m A1.kp A1.b .nil ah (ac (pv 0) (ac (pv 1) (ac az ao)))))⟩
  (cQ ⟨gW (i:=5) nd rfl (Or.inl rfl) (dh ao)⟩
  (cQ ⟨cJ PassesOwn.never rfl (fF rfl mr (ac (pv 2) ao)) (bU (i:=6) nd rfl (Or.inl rfl))
   (bZ (gW (i:=7) nd rfl (Or.inl rfl) (aj eJ (bK A1.G hr rfl A1.m A1.kp A1.b .nil ah (ac (pv 0) (ac (pv 1) (ac (pv 4) ao)))) (aj fH (pv 4) az)))
   (bc (aw (jf PySem.F.plainAttrs_list PySem.F.slot_list_append PySem.F.type_list_append cn (pv 5) (ac (bJ (ac (pv 7) (ac (Cp (pv 3) (eu (bY ft (bK A1.G hr rfl A1.m A1.kp A1.b .nil ah (ac (pv 0) (ac (pv 1) (ac az ao)))) az (au _)))) ao))) ao)))))⟩
  (aY ⟨cZ (pv 5)⟩)))
end
theorem zB {σ:St}{H:Hp}{sA p:Addr}{ns:List Int}{b:Bool}{R:VK}(sc:Sc K H sA p ns)(h0:σ[0]?=some (some (.ref sA)))(h1:σ[1]?=some (some (.ref p)))(h3:σ[3]?=some (some (.bl b)))(k:∀ c H',Sc K H' sA p ns->Kept H H' p->R (.bl c) H'):w5 (af 3) (aB (ck λ i j=>.bl (decide (i>j))) (fj K (tC (.int 3))) (tC (.int 0))) σ H R:=by
 refine⟨_,h3,_,rfl,?_⟩;cases b with
 | true=>exact cW (k true H sc (Kept.refl _ _))
 | false=>exact cH (bv sc h0 h1 (λ R r=>r) (by decide) (by decide) λ t H4 t0 t3 sc4 k4=>⟨_,_,rfl,rfl,k _ H4 sc4 k4⟩)
theorem Dl (F:Fun K "_law_outcomes" "_law_outcomes" zL f fd)(A1:Df P w K mg base aq 1 "_law_take" ["_law_script","_law_pen","_law_many"] (dH K) a1 d1)(mr:mg "range" = none):FnOk P w K mg base aq 2 f fd ["_law_script","_law_pen","_law_folk_here","_law_sure"] (tV K):=by
 refine F.ok scLO (λ vs H Q E h=>?_) (λ cdv A outer s H vs Q E hr h=>?_)
 ·obtain⟨_,_,_,_,_,rfl,_⟩:=h;rfl
 obtain⟨sA,p,ns,n,sb,rfl,sc,hn,q⟩:=h;obtain⟨der⟩:=wC A1 mr hr (f:=f) (cdv:=cdv) (A:=A) (outer:=outer) (s:=s) (H:=H) (E:=E);refine⟨_,der,?_⟩;refine aG (te:=aB (cE K) (cL (am (tC (.int 2)) (am (tC (.int 5)) (am (tC (.int 19)) (am (tC (.int 199)) aL))))) (fj K (tC (.int 4)))) (i:=4) (D:=⟨_,Q,_,_⟩) (jv ⟨by show 4<=sizeLine;decide,λ l0 h0=>?_⟩)
 have x0:=Ext.new (o:=.lst [V.int 2,.int 5,.int 19,.int 199]) h0;have g0:ae H l0 (.lst [V.int 2,.int 5,.int 19,.int 199]) l0=some (.lst [V.int 2,.int 5,.int 19,.int 199]):=aR;show fj K (tC (.int 4)) _ (ae H l0 (.lst [V.int 2,.int 5,.int 19,.int 199])) _;generalize ae H l0 (.lst [V.int 2,.int 5,.int 19,.int 199])=H0 at x0 g0 ⊢;have pn0:l0≠p:=sc.bx.ne h0;refine bv (sc.ext x0) rfl rfl (λ R r=>r) (by decide) (by decide) λ r H1 r0 r4 sc1 k1=>?_
 have g1:=k1 _ _ g0 pn0;obtain⟨wd,ew,w1,w2⟩:∃ wd:Int,([V.int 2,.int 5,.int 19,.int 199]:List V)[r.toNat]?=some (.int wd)/\2<=wd/\wd<=199:=by
  obtain⟨m,rfl⟩:∃ m:Nat,r=(m:Int):=⟨r.toNat,by omega⟩
  have hm:m<4:=by omega
  rw [Int.toNat_natCast]
  match m,hm with
  | 0,_=>exact⟨2,rfl,by decide,by decide⟩
  | 1,_=>exact⟨5,rfl,by decide,by decide⟩
  | 2,_=>exact⟨19,rfl,by decide,by decide⟩
  | 3,_=>exact⟨199,rfl,by decide,by decide⟩
 have er:r=(r.toNat:Int):=by omega
 refine⟨l0,_,r,.int wd,rfl,rfl,SqL.of g1,by rw [er];exact dL ew,?_⟩
 have xa:Ext (wo H p) (wo H1 p):=(bq x0 p).trans (aI k1);refine aG (te:=cL aL) (i:=5) (D:=⟨_,Q,_,_⟩) ⟨by show 0<=sizeLine;decide,λ fl hfl=>?_⟩
 have x2:=Ext.new (o:=.lst []) hfl;have g2:ae H1 fl (.lst []) fl=some (.lst []):=aR;have nf:fl≠p:=sc1.bx.ne hfl;have wofl:wo H p fl=none:=by
  cases e:wo H p fl with
  | none=>rfl
  | some o=>have:=ak _ _ _ _ (xa _ _ e);rw [hfl] at this;cases this
 show aV (FY K) (cX (af 5)) _ [some (.ref sA),some (.ref p),some (.int (n:Nat)),some (.bl sb),some (.int wd),some (.ref fl),none,none] (ae H1 fl (.lst []));have sc2:=sc1.ext x2;generalize ae H1 fl (.lst [])=H2 at x2 g2 sc2 ⊢;have xb:=xa.trans (bq x2 p);refine⟨_,rfl,(n:Int),rfl,by omega,by omega,?_⟩
 rw [Int.toNat_natCast];refine i4 (lo:=0) (n:=n) (λ i σ H'=>∃ ys os o6 o7,σ=[some (.ref sA),some (.ref p),some (.int (n:Nat)),some (.bl sb),some (.int wd),some (.ref fl),o6,o7]/\Sc K H' sA p ns/\Ext (wo H p) (wo H' p)/\H' fl=some (.lst ys)/\RdsAll (wt H' p fl) ys (os.map DN)/\xM os/\os.length=i/\ys.length=i) ⟨[],[],_,_,rfl,sc2,xb,g2,.nil,(λ o ho=>nomatch ho),rfl,rfl⟩ ?_ ?_
 ·rintro i σ H' hi ⟨ys,os,o6,o7,rfl,sc',xt,gf,ra,ok,lo,ly⟩;show aV (FM K) (FS K) _ [some (.ref sA),some (.ref p),some (.int (n:Nat)),some (.bl sb),some (.int wd),some (.ref fl),some (.int (0+(i:Int))),o7] H';refine aG (te:=aB (ck λ i j=>.int (i-j)) (fj K (af 4)) (aB (rI ix λ i j=>.int (i/j)) (af 4) (tC (.int 2)))) (i:=7) (D:=⟨_,Q,_,_⟩) (jv (bv sc' rfl rfl (λ R r=>⟨_,rfl,r⟩) (by omega) (by omega) λ r H3 r0 rw' sc3 k3=>⟨_,rfl,_,_,rfl,rfl,⟨by decide,by decide⟩,_,_,rfl,rfl,?_⟩))
  have gf3:=k3 _ _ gf nf;refine⟨_,rfl,.inl ⟨rfl,_,SqL.of gf3⟩,_,rfl,?_⟩;refine zB sc3 rfl rfl rfl λ c H4 sc4 k4=>⟨by show 2<=sizeLine;decide,λ k hk=>?_⟩
  have gf4:=k4 _ _ gf3 nf;have x5:=Ext.new (o:=.tup [.int (r-wd/2),.bl c]) hk;have g5:ae H4 k (.tup [.int (r-wd/2),.bl c]) k=some (.tup [.int (r-wd/2),.bl c]):=aR;have nk1:k≠fl:=λ e=>by rw [e,gf4] at hk;cases hk
  have nk2:k≠p:=sc4.bx.ne hk;have sc5:=sc4.ext x5;generalize ae H4 k (.tup [.int (r-wd/2),.bl c])=H5 at x5 g5 sc5 ⊢;have gf5:=x5 _ _ gf4;have b:-99<=r-wd/2/\r-wd/2<=99:=by omega
  have xw:Ext (wt H' p fl) (wt H5 p fl):=((jU k3).trans (jU k4)).trans (lT x5 p fl);have xw0:Ext (wo H' p) (wo H5 p):=((aI k3).trans (aI k4)).trans (bq x5 p);have xf:Ext (wo H p) (wo (ae H5 fl (.lst (ys ++ [.ref k]))) p):=λ b o e=>by
   have n1:b≠fl:=λ z=>by rw [z,wofl] at e;cases e
   have e2:=(xt.trans xw0) _ _ e;exact bD (gR e) (by rw [ag n1];exact ak _ _ _ _ e2)
  refine⟨fl,ys,.ref k,rfl,rfl,gf5,by rw [sizeLine_eq];omega,ys ++ [.ref k],os ++ [(r-wd/2,c)],_,_,rfl,?_,?_,aR,?_,?_,by rw [List.length_append,lo];rfl,by rw [List.length_append,ly];rfl⟩
  ·exact sc.wo' xf (sc5.bx.up nf)
  ·exact xf
  ·rw [List.map_append];exact((ra.mono xw).append (.cons (.tup (gP nk2 nk1 g5) (.cons (.int _) (.cons (.bl _) .nil))) .nil)).mono lP
  ·intro o ho;rcases List.mem_append.mp ho with h | h
   ·exact ok o h
   ·rw [List.mem_singleton.mp h];exact b
 ·rintro σ H' ⟨ys,os,o6,o7,rfl,sc',xt,gf,ra,ok,lo,ly⟩;exact⟨_,rfl,q fl ys os H' sc' xt wofl (bD nf gf) (ra.mono (ak (wo H' p) fl)) ok lo⟩
end
end My
namespace My
open PySem PySem.W L2 PySem.Spec PyProof.Rows
def q8 (lo c:Int)(n:Nat):It:=⟨λ i _=>i<n,λ i H x H'=>H'=H/\x=.int (lo+i*c),λ i _=>n<=i⟩
theorem kH {P:Program}{w:World}{K:PySem.W.Frag}{tg:Expr}(it:Addr)(lo c:Int)(n:Nat):nt P w K tg (q8 lo c n) [it] it (λ i h=>IsRangeIter h it (lo+(i:Nat)*c) ((n:Int)-(i:Nat)) c) where
 mem:=by simp
 obj:=λ i h st b hb=>by
  have e:b=it:=by simpa using hb
  subst e;exact⟨_,st,λ v z=>by
   have z':Data.fields _=Data.cell v:=z;cases z'⟩
 keep:=λ i h h' st k=>k it (by simp) _ st
 item:=by
  intro X hP hw hK hc i pins s σ H E I hf st hg;subst hP hw hK;obtain⟨f0,f1,f2,f3,f4,f5⟩:=hf it (by simp)
  have W:=Walks.range (prog:=X.prog) (w:=X.w) (I.ok.hd hc) it lo c n;refine W.item i s _ _ hg st λ v h' tk hv st' kk=>?_;obtain⟨t,rfl⟩:=hv;have I1:Inv X pins σ H { s with heap:=h',toks:=tk }:=I.turned (λ b o hb e=>kk b o (by simpa using hb) e) f0 f1 f3 f4 f5
  exact⟨_,rfl,nQ (s:={ s with heap:=h',toks:=tk }) (n:="range_iterator") st' rfl rfl (by decide) ⟨.int (lo+i*c),H,I1,⟨t,rfl⟩,⟨rfl,rfl⟩,st',λ b hb=>(hf b hb).1⟩⟩
 done:=by
  intro X hP hw hK hc i pins s σ H E I hf st hg;subst hP hw hK;obtain⟨f0,f1,f2,f3,f4,f5⟩:=hf it (by simp)
  exact wpAny_pyNext_range_end (I.ok.hd hc) st (by have:n<=i:=hg;omega) λ h' eb=>⟨rfl,I.turned (t':=s.toks) (λ b o hb e=>eb b o hb e) f0 f1 f3 f4 f5⟩
 self:=λ _ _ _ _ _ st h=>wpAny_pyIter_rangeiter st h
theorem lA {a b:Int}(h:a<=b):Builtin.Range.rangeSize a b 2=(b-a+1)/2:=by
 unfold Builtin.Range.rangeSize;simp only [show(2:Int)>0 by decide,if_true]
 split <;> omega
theorem oM {a b:Int}(h:a<=b)(ha:0<=a)(hb:b<2^60):Builtin.Range.small a b 2=true:=by
 unfold Builtin.Range.small;rw [lA h];simp only [Builtin.Range.rangeFitsLong,Bool.and_eq_true,Bool.or_eq_true,decide_eq_true_eq,beq_iff_eq,show(2:Int)>0 by decide,if_true]
 omega
def qv (ta:TA):TI:=λ σ H R=>ta σ H λ vs H1=>∃ i j:Int,vs=[.int i,.int j,.int 2]/\(0<=i/\i<=j/\j<2^60)/\R (q8 i 2 ((j-i+1)/2).toNat) H1
section
variable {X:Cx}{tg:Expr}
theorem mZ {a b c:Expr}{ta:TA}{p pos:Pos}(hg:Gl X "range")(hm:X.mg "range" = none)(ha:PA X [a,b,c] ta)(hs:starEach [a,b,c] X.env=[(false,eval a X.env),(false,eval b X.env),(false,eval c X.env)]:=by rfl)(hs2:starEach [b,c] X.env=[(false,eval b X.env),(false,eval c X.env)]:=by rfl) :
  PI X tg (.Call (.Name "range" p) [a,b,c] [] pos) (qv ta):=by
 intro pins s σ H R I h;refine Call_ (fw I hg hm boot_range (PyProof.Rows.callWith_type1 (aK (ha pos pins s σ H _ I h) λ us s1 ⟨vs,H1,I1,r1,q1⟩=>?_) (by rw [hs,hs2]) (by rw [hs2];rfl)))
 obtain⟨i,j,e,⟨q1,q2,q3⟩,q⟩:=q1;subst e;cases r1 with
 | cons r rr =>
  cases rr with
  | cons r' rr =>
   cases rr with
   | cons r'' rr =>
    cases rr;obtain⟨t,rfl⟩:=r;obtain⟨t',rfl⟩:=r';obtain⟨t'',rfl⟩:=r'';refine call_range_3 (by decide) ?_ (.inl (PyProof.noPylong_small (by omega)))
    refine wpAny_pyIter_range (IsRange.new ..) (oM q2 q1 q3) ?_;have I2:Inv X pins σ H1 { s1 with heap:=s1.heap.push { cls:=.type "range",data:=.fields #[.int i t,.int j t',.int 2 t''] },toks:=s1.toks }:=I1.kept λ b o e=>Heap.get?_push_of_some _ e
    refine⟨(s1.heap.push { cls:=.type "range",data:=.fields #[.int i t,.int j t',.int 2 t''] }).objs.size,[(s1.heap.push { cls:=.type "range",data:=.fields #[.int i t,.int j t',.int 2 t''] }).objs.size],_,_,H1,rfl,
     I2.kept (t':=s1.toks) λ b o e=>Heap.get?_push_of_some _ e,kH _ i 2 ((j-i+1)/2).toNat,?_,λ b hb=>?_,q⟩
    ·have e1:i+((0:Nat):Int)*2=i:=by simp
     have e2:((((j-i+1)/2).toNat:Nat):Int)-((0:Nat):Int)=Builtin.Range.rangeSize i j 2:=by rw [lA q2];omega
     show IsRangeIter _ _ (i+((0:Nat):Int)*2) (((((j-i+1)/2).toNat:Nat):Int)-((0:Nat):Int)) 2;rw [e1,e2];exact Heap.get?_push_size _ rfl
    ·have e:b=(s1.heap.push { cls:=.type "range",data:=.fields #[.int i t,.int j t',.int 2 t''] }).objs.size:=by simpa using hb
     subst e;exact I2.fpOk (Nat.le_refl _) (I2.hok.fresh (Nat.le_refl _))
end
theorem mx {lo c:Int}{n:Nat}{g:TG}{tb:TS}{D:cw}{σ:L2.St}{H:Hp}(Pv:Nat->L2.St->Hp->Prop)(h0:Pv 0 σ H)
  (hs:∀ i σ H,i<n->Pv i σ H->g (.int (lo+i*c)) σ H λ σ2 H2=>tb { D with nx:=Pv (i+1),ct:=Pv (i+1),bk:=D.nx } σ2 H2)(hd:∀ σ H,Pv n σ H->D.nx σ H) :
  ∃ W:Nat->Nat->L2.St->Hp->Prop,(∃ m,W 0 m σ H)/\∀ i m σ H,W i m σ H ->
   ((q8 lo c n).stop i H/\D.nx σ H)\/((q8 lo c n).go i H/\∃ N:L2.St->Hp->Prop,(∀ σ' H',N σ' H'->∃ m',m'<m/\W (i+1) m' σ' H')/\∀ x H',(q8 lo c n).yld i H x H'->g x σ H' λ σ2 H2=>tb { D with nx:=N,ct:=N,bk:=D.nx } σ2 H2):=by
 refine⟨λ i m σ H=>m=n-i/\i<=n/\Pv i σ H,⟨n,by simp,Nat.zero_le _,h0⟩,?_⟩
 rintro i m σ H ⟨rfl,hi,p⟩;by_cases hlt:i<n
 ·refine .inr ⟨hlt,Pv (i+1),λ σ' H' p'=>⟨n-(i+1),by omega,rfl,hlt,p'⟩,λ x H' y=>?_⟩
  obtain⟨e,y⟩:=y;subst e y;exact hs i σ _ hlt p
 ·have e:i=n:=by omega
  subst e;exact .inl ⟨Nat.le_refl _,hd σ H p⟩
section
variable {K:Frag}{te:TE}{tt:TT}{g:TG}{k:Nat}{cap:L2.St}{D:Addr}{H1:Hp}{Q:Hp->Prop}{a:Addr}{xs:List V}
theorem oS (Pv:Nat->List V->Hp->Prop)(hz:xs.length<sizeLine)(h0:Pv 0 [] (ae H1 D (.lst [])))(hl:∀ i ys H,Pv i ys H->SqL K H a xs)
  (hs:∀(i:Nat) x ys H p,xs[i]?=some x->ys.length<=i->H D=some (.lst ys)->Pv i ys H->H p=none->∀ os:L2.St,os.length=k->∀ N:List V->Hp->Prop,(∀ ys' H',Pv (i+1) ys' H'->ys'.length<=i+1->H' D=some (.lst ys')->N ys' H') ->
   g (.ref p) (os++cap) (ae H p (.tup [.int (i:Nat),x])) λ σ2 H0=>(∃ os':L2.St,os'.length=k/\σ2=os'++cap)/\tt σ2 H0 λ b H5=>(b=false->N ys H5)/\(b=true->te σ2 H5 λ y H4=>H4 D=some (.lst ys)/\N (ys ++ [y]) (ae H4 D (.lst (ys ++ [y])))))
  (hd:∀ ys H,ys.length<=xs.length->H D=some (.lst ys)->Pv xs.length ys H->Q H) :
  ∃ W:Nat->Nat->List V->Hp->Prop,(∃ m,W 0 m [] (ae H1 D (.lst []))) /\
   ∀ i m ys H2,W i m ys H2->H2 D=some (.lst ys)/\(((rJ K a).stop i H2/\Q H2)\/((rJ K a).go i H2/\ys.length<sizeLine /\
    ∀ x H3,(rJ K a).yld i H2 x H3->∀ os:L2.St,os.length=k->g x (os++cap) H3 λ σ2 H0=>(∃ os':L2.St,os'.length=k/\σ2=os'++cap)/\tt σ2 H0 λ b H5=>(b=false->∃ m',m'<m/\W (i+1) m' ys H5) /\
     (b=true->te σ2 H5 λ y H4=>H4 D=some (.lst ys)/\∃ m',m'<m/\W (i+1) m' (ys ++ [y]) (ae H4 D (.lst (ys ++ [y])))))):=by
 refine⟨λ i m ys H=>m=xs.length-i/\i<=xs.length/\ys.length<=i/\H D=some (.lst ys)/\Pv i ys H,⟨xs.length,by simp,Nat.zero_le _,Nat.le_refl _,aR,h0⟩,?_⟩
 rintro i m ys H ⟨rfl,hi,hy,hD',p⟩;refine⟨hD',?_⟩;have q:=hl i ys H p;by_cases hlt:i<xs.length
 ·refine .inr ⟨⟨xs,xs[i],q,by simp [hlt]⟩,by omega,λ x H' y os los=>?_⟩
  obtain⟨p',z,rfl,hp',rfl,hz'⟩:=y;exact hs i z ys H p' (hz' xs q) hy hD' p hp' os los (λ ys' H''=>∃ m',m'<xs.length-i/\(m'=xs.length-(i+1)/\i+1<=xs.length/\ys'.length<=i+1/\H'' D=some (.lst ys')/\Pv (i+1) ys' H'')) λ ys' H'' p' l' d'=>⟨xs.length-(i+1),by omega,rfl,hlt,l',d',p'⟩
 ·have e:i=xs.length:=by omega
  subst e;exact .inl ⟨⟨xs,q,Nat.le_refl _⟩,hd ys H hy hD' p⟩
end
end My
namespace My
def Sg (n:Nat)(f:Nat->Int):Int:=((List.range n).map f).sum
theorem uQ (f:Nat->Int):Sg 0 f=0:=rfl
theorem bE (n:Nat)(f:Nat->Int):Sg (n+1) f=Sg n f+f n:=by
 unfold Sg;rw [List.range_succ,List.map_append,List.sum_append];simp
theorem bA {n:Nat}{f g:Nat->Int}(h:∀ i,i<n->f i=g i):Sg n f=Sg n g:=by
 induction n with
 | zero=>rfl
 | succ n ih =>
  rw [bE,bE,ih (λ i hi=>h i (by omega)),h n (by omega)]
theorem jQ (n:Nat)(f g:Nat->Int):Sg n (λ i=>f i+g i)=Sg n f+Sg n g:=by
 induction n with
 | zero=>rfl
 | succ n ih=>rw [bE,bE,bE,ih];omega
theorem l3 (n:Nat)(f:Nat->Int):Sg n (λ i=>- f i) = - Sg n f:=by
 induction n with
 | zero=>rfl
 | succ n ih=>rw [bE,bE,ih];omega
theorem rW (n:Nat):Sg n (λ _=>0)=0:=by
 induction n with
 | zero=>rfl
 | succ n ih=>rw [bE,ih];rfl
theorem uG (n m:Nat)(f:Nat->Nat->Int):Sg n (λ i=>Sg m (f i))=Sg m (λ j=>Sg n (λ i=>f i j)):=by
 induction n with
 | zero=>rw [uQ];exact(rW m).symm
 | succ n ih =>
  rw [bE,ih,<- jQ];exact bA λ j _=>(bE n λ i=>f i j).symm
theorem nX {n:Nat}{g:Nat->Nat->Int}(h:∀ i j,i<n->j<n->g i j = - g j i):Sg n (λ i=>Sg n (g i))=0:=by
 have e:Sg n (λ i=>Sg n (g i)) = - Sg n (λ i=>Sg n (g i)):=by
  conv=>lhs;rw [uG]
  rw [<- l3];refine bA λ j hj=>?_;rw [<- l3];exact bA λ i hi=>h i j hi hj
 omega
theorem yf (k:Nat)(f:Nat->Int):Sg (2*k) f=Sg k (λ m=>f (2*m)+f (2*m+1)):=by
 induction k with
 | zero=>rfl
 | succ k ih =>
  rw [show 2*(k+1)=2*k+1+1 by omega,bE,bE,bE,ih]
  omega
theorem wj (n:Nat)(f g:Nat->Int):Sg n (λ i=>f i-g i)=Sg n f-Sg n g:=by
 rw [show(λ i=>f i-g i) = λ i=>f i+(λ i=>- g i) i from rfl,jQ,l3];rfl
theorem fu (n:Nat)(p:Nat->Bool)(f:Nat->Int):(((List.range n).filter p).map f).sum=Sg n (λ i=>if p i=true then f i else 0):=by
 induction n with
 | zero=>rfl
 | succ n ih =>
  rw [List.range_succ,List.filter_append,List.map_append,List.sum_append,ih,bE]
  congr 1
  rw [List.filter_cons];split <;> simp
def bt (x:Int)(i:Nat):Bool:=decide (x/2^i%2=1)
theorem rK (x i:Nat):bt (x:Int) i=x.testBit i:=by
 unfold bt;rw [Nat.testBit_eq_decide_div_mod_eq];have e:((x:Int)/2^i%2)=((x/2^i%2:Nat):Int):=by
  rw [Int.natCast_emod,Int.natCast_ediv,Int.natCast_pow];rfl
 rw [e];by_cases h:x/2^i%2=1
 ·rw [decide_eq_true h,decide_eq_true (by rw [h];rfl)]
 ·rw [decide_eq_false h,decide_eq_false (λ z=>h (by omega))]
theorem pT (x:Int)(i:Nat):x/2^i%2=if bt x i=true then 1 else 0:=by
 unfold bt;have h1:0<=x/2^i%2:=Int.emod_nonneg _ (by decide)
 have h2:x/2^i%2<2:=Int.emod_lt_of_pos _ (by decide)
 by_cases h:x/2^i%2=1
 ·rw [decide_eq_true h,if_pos rfl,h]
 ·rw [decide_eq_false h,if_neg (by decide)];omega
theorem ou {n i:Nat}{x:Int}(h0:0<=x)(h1:x<2^n)(hi:i<n):bt (2^n-1-x) i = !bt x i:=by
 obtain⟨m,rfl⟩:∃ m:Nat,x=(m:Int):=⟨x.toNat,by omega⟩
 have hm:m<2^n:=by
  have e:((2:Int)^n)=((2^n:Nat):Int):=by rw [Int.natCast_pow];rfl
  rw [e] at h1;exact Int.ofNat_lt.mp h1
 have e:((2:Int)^n-1-(m:Int))=((2^n-(m+1):Nat):Int):=by
  have e:((2:Int)^n)=((2^n:Nat):Int):=by rw [Int.natCast_pow];rfl
  rw [e];omega
 rw [e,rK,rK,Nat.testBit_two_pow_sub_succ hm,decide_eq_true hi,Bool.true_and]
theorem zg {n i:Nat}(hi:i<n):bt (2^n-1) i=true:=by
 have h:=ou (n:=n) (i:=i) (x:=0) (by decide) (by have:(0:Int)<2^n:=Int.pow_pos (by decide);exact this) hi
 rw [show(2:Int)^n-1-0=2^n-1 by omega] at h
 rw [h];unfold bt;simp
def eG (x:Int)(ns:List Int):Int:=Sg ns.length (λ i=>if bt x i=true then ns.getD i 0 else 0)
end My
namespace My
open PySem PySem.W L2
section
variable {P:Program}{w:World}{K:Frag}{mg:Str->Option Value}{base:Heap}{f a1 a2:Addr}{fd d1 d2:FuncData}
abbrev DR:Stmt:=bR 46
def t6:Sp:=λ vs H Q _=>∃(x:Int)(i:Nat),vs=[.int x,.int (i:Nat)]/\Q (.int (x/2^i%2)) H
theorem E5:ad ["dealing","at"] ["dealing","at"] (aa DR):=aJ
theorem AE (F:Fun K "hand_of" "hand_of" DR f fd):FnOk P w K mg base aq 1 f fd ["dealing","at"] t6:=by
 refine F.ok E5 (λ vs H Q E h=>?_) (λ cdv A outer s H vs Q E hr h=>?_)
 ·obtain⟨x,i,rfl,_⟩:=h;rfl
 obtain⟨x,i,rfl,q⟩:=h;refine⟨_,bc (cZ (aj kg (aj jY (pv 0) (pv 1)) az)),?_⟩;refine⟨_,rfl,_,rfl,_,_,rfl,rfl,(by show(0:Int)<=(i:Int);omega),_,_,rfl,rfl,?_⟩
 show Q (.int (Builtin.bitAnd (x/2^((i:Int)).toNat) 1)) H;rw [PyProof.Rows.bitAnd_m1];exact q
abbrev Dy:Stmt:=bR 45
def sQ:Sp:=λ vs H Q _=>∃(x:Int)(n:Nat),vs=[.int x,.int (n:Nat)]/\n<=20/\0<=x/\x<2^n/\Q .non H
theorem Fh:ad ["thing","folk"] ["thing","folk"] (aa Dy):=aJ
theorem BC (F:Fun K "need_hands" "need_hands" Dy f fd)(A1:Df P w K mg base aq 2 "is_whole" ["thing","low","high"] (fR K) a1 d1):FnOk P w K mg base aq 3 f fd ["thing","folk"] sQ:=by
 refine F.ok Fh (λ vs H Q E h=>?_) (λ cdv A outer s H vs Q E hr h=>?_)
 ·obtain⟨x,n,rfl,_⟩:=h;rfl
 obtain⟨x,n,rfl,n20,x0,x1,q⟩:=h;refine⟨_,bc (bB (cg (bw (bK A1.G hr rfl A1.m A1.kp A1.b .nil ah (ac (pv 0) (ac az (ac (aj eJ (aj jV az (pv 1)) az) ao)))))) (bc lf) gz),?_⟩;have th:Th K H (.int x):=(Rds.int (G:=H) x).th;refine⟨_,rfl,_,rfl,_,_,rfl,rfl,⟨by omega,by omega,by decide⟩,_,_,rfl,rfl,.int x,0,_,rfl,th,_,rfl,?_⟩
 have e:inB 0 (1*2^(n:Int).toNat-1) (.int x)=true:=by
  show(decide ((0:Int)<=x)&&decide (x<=1*2^(n:Int).toNat-1))=true;rw [Int.toNat_natCast,decide_eq_true x0,decide_eq_true (by omega)]
  rfl
 rw [e];exact cH q
abbrev vX:Stmt:=bR 65
theorem Fs:ad ["scores","dealing"] ["scores","dealing"] (aa vX):=aJ
abbrev Ea:Scope:={ kind:=.function,names:=[(".0",.local),("at",.local),("score",.local),("hand_of",.globalImplicit),("dealing",.free)],isGenerator:=false,isCoroutine:=false }
theorem CI:((["at","score"]:List Str)++(["dealing"]:List Str)).Nodup:=by decide +kernel
def sO:Sp:=λ vs H Q _=>∃(l:Addr)(ns:List Int)(x:Int),vs=[.ref l,.int x]/\H l=some (.lst (ns.map V.int))/\ns.length<=20/\0<=x/\x<2^ns.length/\∀ H',Ext H H'->Q (.int (eG x ns)) H'
def AU:TT:=tB (aB nF (fY t6 [] E0 (am (af 2) (am (af 0) aL))) (tC (.int 1)))
def F6 (K:Frag):TS:=aV (ls (fY sQ [] E0 (am (af 1) (am (eV K 0) aL)))) (cX (gU (nJ K) (am (cO (p0 K (am (af 0) aL)) 2 [1] (lW K) AU (af 1)) aL)))
section
variable {cdv:Value}{A:Around}{outer:List Env}{s:Shared}{H:Hp}{E:XK}
theorem yb:aU (aH aq P w K mg base ["scores","dealing"] "value_of" (aa vX) f cdv A outer s H E).nox Ea [("dealing",s.heap.objs.size+1)] ["at","score"] ["dealing"] [1] :=
 dE (M:=["dealing"]) (L:=[(".0",.local),("at",.local),("score",.local),("hand_of",.globalImplicit),("dealing",.cell)]) rfl rfl (by decide +kernel) (by decide +kernel) (by decide +kernel) rfl rfl rfl (by decide +kernel) (by decide +kernel) rfl rfl rfl
theorem zW (A1:Df P w K mg base aq 3 "need_hands" ["thing","folk"] sQ a1 d1)(A2:Df P w K mg base aq 1 "hand_of" ["dealing","at"] t6 a2 d2)(mn:mg "len" = none)(ms:mg "sum" = none)(me:mg "enumerate" = none)(hr:pJ 3 "value_of" vX A s f cdv) :
  Bx (PSs (aH aq P w K mg base ["scores","dealing"] "value_of" (aa vX) f cdv A outer s H E).nox (ax vX) (F6 K)):=by
 have hr1:Room 1 _:=hr.mono (by decide)
 exact cQ ⟨aw (bK A1.G hr rfl A1.m A1.kp A1.b .nil ah (ac (pv 1) (ac (ai ar rfl mn PySem.boot_len (ac (pv 0) ao)) ao)))⟩
  (aY (fP ⟨ai (dQ rfl) rfl ms PyProof.Rows.boot_sum (ac (eQ (te:=af 1) (tt:=AU) (g:=lW K) rfl yb (gX rfl me (ac (pv 0) ao)) (λ s H C fp=>by exact bI rfl (dX (bU (i:=0) CI rfl (.inl rfl)) (dX (bU (i:=1) CI rfl (.inl rfl)) ba))) (λ s H C fp=>by exact av cT (bK A2.G hr1 rfl A2.m A2.kp A2.b .nil ah (ac (pv 2) (ac (pv 0) ao))) az (au _)) (λ s H C fp=>by exact pv 1)) ao)⟩))
end
theorem AR (F:Fun K "value_of" "value_of" vX f fd)(A1:Df P w K mg base aq 3 "need_hands" ["thing","folk"] sQ a1 d1)(A2:Df P w K mg base aq 1 "hand_of" ["dealing","at"] t6 a2 d2)(mn:mg "len" = none)(ms:mg "sum" = none)(me:mg "enumerate" = none):FnOk P w K mg base aq 4 f fd ["scores","dealing"] sO:=by
 refine F.ok Fs (λ vs H Q E h=>?_) (λ cdv A outer s H vs Q E hr h=>?_)
 ·obtain⟨_,_,_,rfl,_⟩:=h;rfl
 obtain⟨l,ns,x,rfl,hl,l20,x0,x1,q⟩:=h;refine gS (zW A1 A2 mn ms me hr) ⟨?_⟩;have sz:=sizeLine_eq;refine zl ⟨_,rfl,_,rfl,l,_,rfl,.inl (SqL.of hl),x,ns.length,by rw [List.length_map];rfl,l20,x0,x1,?_⟩
 refine⟨_,rfl,l,rfl,⟨_,SqL.of hl⟩,λ D hD=>?_⟩;refine oS (a:=l) (xs:=ns.map V.int) (cap:=[some (.int x)]) (λ i ys H'=>Ext H H'/\ys=(((List.range i).filter (bt x)).map λ j=>ns.getD j 0).map V.int) (by rw [List.length_map];omega) ⟨Ext.new hD,rfl⟩ (λ i ys H' pv=>SqL.of (pv.1 _ _ hl)) ?_ ?_
 ·rintro i y ys H' p ey ly hDD ⟨x',eys⟩ hp os los N kN;obtain⟨o0,o1,rfl⟩:∃ o0 o1,os=[o0,o1]:=by
   match os,los with
   | [o0,o1],_=>exact⟨o0,o1,rfl⟩
  rw [List.getElem?_map] at ey;obtain⟨n,en,rfl⟩:=Option.map_eq_some_iff.mp ey;have xp:=Ext.new (o:=.tup [.int (i:Nat),.int n]) hp;have gp:ae H' p (.tup [.int (i:Nat),.int n]) p=some (.tup [.int (i:Nat),.int n]):=aR;generalize ae H' p (.tup [.int (i:Nat),.int n])=H2 at xp gp ⊢;have x2:=x'.trans xp;refine⟨p,_,rfl,SqT.of gp,rfl,_,_,rfl,_,_,rfl,rfl,⟨[some (.int (i:Nat)),some (.int n)],rfl,rfl⟩,?_⟩;refine⟨_,rfl,_,rfl,x,i,rfl,rfl,_,rfl,?_⟩;have ei:((List.range (i+1)).filter (bt x)).map (λ j=>ns.getD j 0)=((List.range i).filter (bt x)).map (λ j=>ns.getD j 0)++(if bt x i=true then [n] else []):=by
   rw [List.range_succ,List.filter_append,List.map_append]
   congr 1
   rw [List.filter_cons];split
   ·show [ns.getD i 0]=[n];rw [List.getD_eq_getElem?_getD,en];rfl
   ·rfl
  by_cases e:x/2^i%2=1
  ·have eb:bt x i=true:=decide_eq_true e;rw [decide_eq_true (congrArg V.int e)];refine⟨λ z=>(by cases z),λ _=>⟨_,rfl,xp _ _ hDD,kN _ _ ⟨aO _ x2 hD,?_⟩ (by rw [List.length_append];show ys.length+1<=i+1;omega) aR⟩⟩
   rw [ei,if_pos eb,List.map_append,<- eys];rfl
  ·have eb:bt x i=false:=decide_eq_false e;rw [decide_eq_false (λ z=>e (V.int.inj z))];refine⟨λ _=>kN ys H2 ⟨x2,?_⟩ (by omega) (xp _ _ hDD),λ z=>(by cases z)⟩
   rw [ei,eb,if_neg (by decide),List.append_nil];exact eys
 ·rintro ys H' ly hDD ⟨x',eys⟩;rw [List.length_map] at eys;rw [eys] at hDD;refine⟨D,_,rfl,SqL.of hDD,?_⟩;rw [fu];exact q H' x'
def jN (os:List (Int × Bool))(i j:Nat):Int:=i8 (os.getD i (0,false)) (os.getD j (0,false))
abbrev zY:Stmt:=bR 74
abbrev FR:List Str:=["_law_outcomes_here","_law_ones","_law_zeros","_law_total","_law_one","_law_zero"]
theorem scBt:ad FR ["_law_outcomes_here","_law_ones","_law_zeros"] (aa zY):=aJ
def bn (is:List Nat):List V:=is.map λ i=>.int (i:Nat)
def xZ:Sp:=λ vs H Q _=>∃(a:Addr)(xs:List V)(os:List (Int × Bool))(l1 l2:Addr)(is js:List Nat),vs=[.ref a,.ref l1,.ref l2]/\H a=some (.lst xs)/\pk H xs os/\H l1=some (.lst (bn is))/\H l2=some (.lst (bn js))/\(∀ i∈is,i<os.length)/\(∀ j∈js,j<os.length)/\Q (.int (is.map λ i=>(js.map λ j=>jN os i j).sum).sum) H
def D4 (K:Frag):TS:=cj (aB (ck λ i j=>.int (i+j)) (af 3) (fY l9 [] E0 (am (aB (cE K) (af 0) (af 4)) (am (aB (cE K) (af 0) (af 5)) aL)))) (aP 3)
def Gb (K:Frag):TS:=aV (cj (tC (.int 0)) (aP 3)) (aV (iQ (aZ K (af 1)) (aP 4) (iQ (aZ K (af 2)) (aP 5) (D4 K))) (cX (af 3)))
theorem wp {cdv:Value}{A:Around}{outer:List Env}{s:Shared}{H:Hp}{E:XK}(A1:Df P w K mg base aq 1 "_law_stands" ["_law_one","_law_other"] l9 a1 d1)(hr:pJ 1 "_law_between" zY A s f cdv):Bx (PSs (aH aq P w K mg base FR "_law_between" (aa zY) f cdv A outer s H E).nox (ax zY) (Gb K)):=by
 have nd:=scBt.nd;exact cQ (aW (i:=3) nd rfl (Or.inl rfl) ⟨az⟩) (cQ ⟨cJ PassesOwn.never rfl (aE (pv 1)) (bU (i:=4) nd rfl (Or.inl rfl)) (bc (cJ PassesOwn.never rfl (aE (pv 2)) (bU (i:=5) nd rfl (Or.inl rfl)) (bc (gW (i:=3) nd rfl (Or.inl rfl) (aj bo (pv 3) (bK A1.G hr rfl A1.m A1.kp A1.b .nil ah (ac (c8 fU (pv 0) (pv 4)) (ac (c8 fU (pv 0) (pv 5)) ao))))))))⟩ (aY ⟨cZ (pv 3)⟩))
theorem jM {H:Hp}{xs:List V}{os:List (Int × Bool)}(oc:pk H xs os){i:Nat}(hi:i<os.length):∃ b,xs[i]?=some (.ref b)/\BY H (.ref b) (os.getD i (0,false)):=by
 have li:i<xs.length:=by rw [oc.1];exact hi
 obtain⟨b,e,hb⟩:=oc.2 i xs[i] os[i] (List.getElem?_eq_getElem li) (List.getElem?_eq_getElem hi);refine⟨b,by rw [List.getElem?_eq_getElem li,e],b,rfl,?_⟩
 rw [List.getD_eq_getElem?_getD,List.getElem?_eq_getElem hi];exact hb
theorem Bv (F:Fun K "_law_between" "_law_between" zY f fd)(A1:Df P w K mg base aq 1 "_law_stands" ["_law_one","_law_other"] l9 a1 d1):FnOk P w K mg base aq 2 f fd ["_law_outcomes_here","_law_ones","_law_zeros"] xZ:=by
 refine F.ok scBt (λ vs H Q E h=>?_) (λ cdv A outer s H vs Q E hr h=>?_)
 ·obtain⟨_,_,_,_,_,_,_,rfl,_⟩:=h;rfl
 obtain⟨a,xs,os,l1,l2,is,js,rfl,ha,oc,h1,h2,bi,bj,q⟩:=h;refine gS (wp A1 hr) ⟨?_⟩;refine aG (te:=tC (.int 0)) (i:=3) ?_;refine⟨_,rfl,l1,rfl,⟨_,SqL.of h1⟩,dw (xs:=bn is) (λ i σ H'=>H'=H/\∃ o4 o5,σ=[some (.ref a),some (.ref l1),some (.ref l2),some (.int ((is.take i).map λ i=>(js.map λ j=>jN os i j).sum).sum),o4,o5]) ⟨rfl,_,_,rfl⟩ ?_ ?_ ?_⟩
 ·rintro i σ H' _ ⟨rfl,_⟩;exact SqL.of h1
 ·rintro i x σ H' ex ⟨rfl,o4,o5,rfl⟩;unfold bn at ex;rw [List.getElem?_map] at ex;obtain⟨n,en,rfl⟩:=Option.map_eq_some_iff.mp ex;have ln:=bi n (List.mem_of_getElem? en);obtain⟨b,eb,ob⟩:=jM oc ln;refine⟨_,rfl,l2,rfl,⟨_,SqL.of h2⟩,dw (xs:=bn js) (λ j σ H2=>H2=H'/\∃ o5,σ=[some (.ref a),some (.ref l1),some (.ref l2),some (.int (((is.take i).map λ i=>(js.map λ j=>jN os i j).sum).sum+((js.take j).map λ j=>jN os n j).sum)),some (.int (n:Nat)),o5]) ⟨rfl,_,by rw [show((js.take 0).map λ j=>jN os n j).sum=0 from rfl,Int.add_zero];rfl⟩ ?_ ?_ ?_⟩
  ·rintro j σ H2 _ ⟨rfl,_⟩;exact SqL.of h2
  ·rintro j y σ H2 ey ⟨rfl,o5,rfl⟩;unfold bn at ey;rw [List.getElem?_map] at ey;obtain⟨m,em,rfl⟩:=Option.map_eq_some_iff.mp ey;have lm:=bj m (List.mem_of_getElem? em);obtain⟨b2,eb2,ob2⟩:=jM oc lm;refine⟨_,rfl,_,rfl,_,rfl,a,xs,_,_,rfl,rfl,SqL.of ha,dL eb,_,rfl,_,rfl,a,xs,_,_,rfl,rfl,SqL.of ha,dL eb2,_,_,_,_,rfl,ob,ob2,_,_,rfl,rfl,rfl,some (.int (m:Nat)),?_⟩;rw [aA em,List.map_append,List.sum_append];simp only [List.map_cons,List.map_nil,List.sum_cons,List.sum_nil,Int.add_zero,<- Int.add_assoc];rfl
  ·rintro σ H2 ⟨rfl,o5,rfl⟩;refine⟨rfl,some (.int (n:Nat)),o5,?_⟩;rw [show(bn js).length=js.length from List.length_map _,List.take_length,aA en,List.map_append,List.sum_append];simp only [List.map_cons,List.map_nil,List.sum_cons,List.sum_nil,Int.add_zero]
 ·rintro σ H' ⟨rfl,o4,o5,rfl⟩;rw [show(bn is).length=is.length from List.length_map _,List.take_length];exact⟨_,rfl,q⟩
abbrev wL:Stmt:=bR 76
theorem E4:ad ["_law_blocks"] ["_law_blocks"] (aa wL):=aJ
abbrev CH:Scope:={ kind:=.function,names:=[(".0",.local),("_law_word",.local),("_law_folk_here",.local),("len",.globalImplicit)],isGenerator:=false,isCoroutine:=false }
theorem wW {X:Cx}:aU X CH [] ["_law_word","_law_folk_here"] [] []:=ie (L:=[(".0",.local),("_law_word",.local),("_law_folk_here",.local),("len",.globalImplicit)]) rfl rfl (by decide +kernel) (by decide +kernel) (by decide +kernel) rfl (by decide +kernel) (by decide +kernel)
def zd:Sp:=λ vs H Q _=>∃(D:Addr)(zs:List V)(B:List Bk),vs=[.ref D]/\H D=some (.lst zs)/\RdsAll H zs (B.map kA)/\B.length<=20/\∀ H',Ext H H'->Q (.bl ((B.map lc).all id)) H'
theorem tj {b:Bk}:lc b = !((!decide (V.str b.1=V.str "pairs"))||decide (V.int ((b.2.length:Int)%2)=V.int 1)):=by
 unfold lc;cases decide (V.str b.1=V.str "pairs") with
 | false=>rfl
 | true =>
  by_cases e:b.2.length%2=0
  ·rw [decide_eq_true e,decide_eq_false (λ z=>by have:=V.int.inj z;omega)];rfl
  ·rw [decide_eq_false e,decide_eq_true (congrArg V.int (by omega))];rfl
end
section
variable {P:Program}{w:World}{K:Frag}{mg:Str->Option Value}{base:Heap}{f a1 a2:Addr}{fd d1 d2:FuncData}
def Cm (K:Frag):TT:=Bp (tB (aB yT (af 0) (tC (.str "pairs")))) (tB (aB nF (aB (rI (λ _ j=>0<j) λ i j=>.int (i%j)) (eV K 1) (tC (.int 2))) (tC (.int 1))))
def Ge (K:Frag):TS:=cX (aB (Bd K) (cO (aZ K (af 0)) 2 [] (lW K) (Cm K) (af 0)) (cL aL))
theorem ww {cdv:Value}{A:Around}{outer:List Env}{s:Shared}{H:Hp}{E:XK}(mn:mg "len" = none)(hr:pJ 0 "_law_are_pairs" wL A s f cdv):Bx (PSs (aH aq P w K mg base ["_law_blocks"] "_law_are_pairs" (aa wL) f cdv A outer s H E).nox (ax wL) (Ge K)):=by
 have hu:=hr.units0;exact aY (fP ⟨bY (qK hu) (eQ (te:=af 0) (tt:=Cm K) (g:=lW K) rfl wW (aE (pv 0)) (λ s H C fp=>by exact bI rfl (dX (bU (i:=0) pc rfl (.inl rfl)) (dX (bU (i:=1) pc rfl (.inl rfl)) ba))) (λ s H C fp=>by exact PW.pt (gk (av fK (pv 0) bh (au _)) (eB (av cT (aj dG (ai ar rfl mn PySem.boot_len (ac (pv 1) ao)) az) az (au _))))) (λ s H C fp=>by exact pv 0)) (dh ao) (au _)⟩)
theorem Aw (F:Fun K "_law_are_pairs" "_law_are_pairs" wL f fd)(mn:mg "len" = none):FnOk P w K mg base aq 1 f fd ["_law_blocks"] zd:=by
 refine F.ok E4 (λ vs H Q E h=>?_) (λ cdv A outer s H vs Q E hr h=>?_)
 ·obtain⟨_,_,_,rfl,_⟩:=h;rfl
 obtain⟨D,zs,B,rfl,hD,ra,l20,q⟩:=h;refine gS (ww mn hr) ⟨?_⟩;have lz:=ra.length;rw [List.length_map] at lz;refine⟨_,rfl,D,rfl,⟨zs,SqL.of hD⟩,λ D2 hD2=>?_⟩;refine iT (a:=D) (xs:=zs) (cap:=[]) (λ i ys H'=>Ext H H'/\ys.isEmpty=((B.take i).map lc).all id) (by rw [sizeLine_eq];omega) ⟨Ext.new hD2,rfl⟩ (λ i ys H' pv=>SqL.of (pv.1 _ _ hD)) ?_ ?_
 ·rintro i x ys H' ex ly hDD ⟨x',ee⟩ os los N kN;obtain⟨o0,o1,rfl⟩:∃ o0 o1,os=[o0,o1]:=by
   match os,los with
   | [o0,o1],_=>exact⟨o0,o1,rfl⟩
  obtain⟨d,ed,rd⟩:=ra.get ex;rw [List.getElem?_map] at ed;obtain⟨bk,ebk,rfl⟩:=Option.map_eq_some_iff.mp ed;obtain⟨a,l,rfl,ha,hl⟩:=ld rd;have et:((B.take (i+1)).map lc).all id=(((B.take i).map lc).all id&&lc bk):=by
   rw [aA ebk,List.map_append,List.all_append];simp
  refine⟨a,_,rfl,SqT.of (x' _ _ ha),rfl,_,_,rfl,_,_,rfl,rfl,⟨[some (.str bk.1),some (.ref l)],rfl,rfl⟩,_,rfl,rfl,_,rfl,?_⟩;have fin:∀ b:Bool,lc bk = !b->(b=false->N ys H')/\(b=true->af 0 [some (.str bk.1),some (.ref l)] H' λ y H4=>H4 D2=some (.lst ys)/\N (ys ++ [y]) (ae H4 D2 (.lst (ys ++ [y])))):=λ b eb=>by
   refine⟨λ z=>kN ys H' ⟨x',?_⟩ (by omega) hDD,λ z=>⟨_,rfl,hDD,kN _ _ ⟨aO _ x' hD2,?_⟩ (by rw [List.length_append];show ys.length+1<=i+1;omega) aR⟩⟩
   ·rw [et,eb,z,ee];simp
   ·rw [et,eb,z];simp
  have ep:=tj (b:=bk);cases g:decide (V.str bk.1=V.str "pairs") with
  | false =>
   rw [g] at ep;exact cW (fin true ep)
  | true =>
   rw [g] at ep;refine cH ⟨_,rfl,l,_,rfl,.inl (SqL.of (x' _ _ hl)),_,_,rfl,rfl,(by show(0:Int)<2;decide),rfl,_,rfl,?_⟩
   rw [List.length_map];exact fin _ ep
 ·rintro ys H' ly hDD ⟨x',ee⟩;rw [lz,List.take_length] at ee;refine⟨by show 0<=sizeLine;decide,λ r hr=>?_⟩
  have x2:=Ext.new (o:=.lst []) hr;refine⟨D2,r,ys,rfl,rfl,SqL.of (x2 _ _ hDD),SqL.of aR,?_⟩;rw [ee];exact q _ (x'.trans x2)
def pB (os:List (Int × Bool))(x:Int)(m:Nat):Int:=(x/2^(2*m)%2-x/2^(2*m+1)%2)*jN os (2*m) (2*m+1)
def Am (B:List Bk)(ns:List Int):Prop:=(∀ n∈ns,1<=n/\n%2=0)/\B.map (·.2)=bM 0 ns
abbrev zG:Stmt:=bR 75
abbrev FV:List Str:=["_law_blocks","_law_outcomes_here","_law_dealing","_law_total","_law_word","_law_folk_here","_law_at","_law_one","_law_other","_law_gap"]
theorem scBP:ad FV ["_law_blocks","_law_outcomes_here","_law_dealing"] (aa zG):=aJ
def sJ (i:Nat):TE:=aB (ck λ i j=>.int (Builtin.bitAnd i j)) (aB (rI (λ _ j=>0<=j) λ i j=>.int (i/2^j.toNat)) (af 2) (af i)) (tC (.int 1))
def E1 (K:Frag):TS:=aV (cj (aB (cE K) (af 5) (af 6)) (aP 7)) (aV (cj (aB (cE K) (af 5) (aB (ck λ i j=>.int (i+j)) (af 6) (tC (.int 1)))) (aP 8)) (aV (cj (aB (ck λ i j=>.int (i-j)) (sJ 7) (sJ 8)) (aP 9))
 (cj (aB (ck λ i j=>.int (i+j)) (af 3) (aB (rI CMul λ i j=>.int (i*j)) (af 9) (fY l9 [] E0 (am (aB (cE K) (af 1) (af 7)) (am (aB (cE K) (af 1) (af 8)) aL))))) (aP 3))))
def Gn (K:Frag):TS:=aV (cj (tC (.int 0)) (aP 3)) (aV (iQ (aZ K (af 0)) (qH K 2 (eY (aP 4) (eY (aP 5) oK))) (iQ (qv (am (tC (.int 0)) (am (eV K 5) (am (tC (.int 2)) aL)))) (aP 6) (E1 K))) (cX (af 3)))
theorem wZ {cdv:Value}{A:Around}{outer:List Env}{s:Shared}{H:Hp}{E:XK}(A1:Df P w K mg base aq 1 "_law_stands" ["_law_one","_law_other"] l9 a1 d1)(mn:mg "len" = none)(mr:mg "range" = none)(hr:pJ 1 "_law_by_pairs" zG A s f cdv):Bx (PSs (aH aq P w K mg base FV "_law_by_pairs" (aa zG) f cdv A outer s H E).nox (ax zG) (Gn K)):=by
 have nd:=scBP.nd;exact cQ (aW (i:=3) nd rfl (Or.inl rfl) ⟨az⟩) (cQ ⟨cJ PassesOwn.never rfl (aE (pv 0)) (bI rfl (dX (bU (i:=4) nd rfl (Or.inl rfl)) (dX (bU (i:=5) nd rfl (Or.inl rfl)) ba)))
  (bc (cJ PassesOwn.never rfl (mZ rfl mr (ac az (ac (ai ar rfl mn PySem.boot_len (ac (pv 5) ao)) (ac az ao)))) (bU (i:=6) nd rfl (Or.inl rfl))
  (bZ (gW (i:=7) nd rfl (Or.inl rfl) (c8 fU (pv 5) (pv 6)))
  (bZ (gW (i:=8) nd rfl (Or.inl rfl) (c8 fU (pv 5) (aj bo (pv 6) az)))
  (bZ (gW (i:=9) nd rfl (Or.inl rfl) (aj eJ (aj kg (aj jY (pv 2) (pv 7)) az) (aj kg (aj jY (pv 2) (pv 8)) az)))
  (bc (gW (i:=3) nd rfl (Or.inl rfl) (aj bo (pv 3) (aj dB (pv 9) (bK A1.G hr rfl A1.m A1.kp A1.b .nil ah (ac (c8 fU (pv 1) (pv 7)) (ac (c8 fU (pv 1) (pv 8)) ao)))))))))))) ⟩ (aY ⟨cZ (pv 3)⟩))
end
theorem gr:∀(ns:List Int)(s:Int)(i:Nat){n:Int},ns[i]?=some n->(bM s ns)[i]?=some (cy (s+(ns.take i).sum) n.toNat)
 | [],_,_,_,h=>by simp at h
 | m::ns,s,0,n,h=>by cases h;simp [bM]
 | m::ns,s,i+1,n,h=>by
  show(bM (s+m) ns)[i]?=_;rw [gr ns (s+m) i (by simpa using h),List.take_succ_cons,List.sum_cons]
  congr 2
  omega
theorem iV:∀{ns:List Int},(∀ n∈ns,1<=n/\n%2=0)->ns.sum%2=0/\0<=ns.sum
 | [],_=>⟨rfl,Int.le_refl _⟩
 | n::ns,h=>by
  have h1:=h n (List.mem_cons_self ..);have h2:=iV λ x hx=>h x (List.mem_cons_of_mem _ hx);rw [List.sum_cons];omega
theorem je:∀(ns:List Int)(i:Nat),(∀ n∈ns,1<=n)->(ns.take i).sum<=ns.sum
 | [],i,_=>by simp
 | n::ns,0,h=>by
  have:=du (ns:=n::ns) λ x hx=>by have:=h x hx;omega
  simpa using this
 | n::ns,i+1,h=>by
  have:=je ns i λ x hx=>h x (List.mem_cons_of_mem _ hx);rw [List.take_succ_cons,List.sum_cons,List.sum_cons];omega
theorem vf {t:Rl}(ok:t.ok)(fl:t.flat)(al:(lS t).all id=true):∃ ns,Am t.bl ns/\ns.sum=t.folk:=by
 obtain⟨ns,h1,h2,h3⟩:=iM ok fl;refine⟨ns,⟨λ n hn=>⟨h1 n hn,?_⟩,by rw [fm ok fl,h2]⟩,h3⟩
 obtain⟨i,hi,e⟩:=List.getElem_of_mem hn;have z:=gr ns 0 i (List.getElem?_eq_getElem hi);rw [<- h2,<- fm ok fl,List.getElem?_map] at z;obtain⟨b,eb,z⟩:=Option.map_eq_some_iff.mp z;rw [mT ok fl] at al;have:=List.all_eq_true.mp al (lc b) (List.mem_map.mpr ⟨b,List.mem_of_getElem? eb,rfl⟩);unfold lc at this;simp only [id,Bool.and_eq_true,decide_eq_true_eq] at this;have l:=this.2;rw [z,dY,e] at l;have:=h1 n hn;omega
section
variable {P:Program}{w:World}{K:Frag}{mg:Str->Option Value}{base:Heap}{f a1 a2:Addr}{fd d1 d2:FuncData}
def zX:Sp:=λ vs H Q _=>∃(D:Addr)(zs:List V)(B:List Bk)(ns:List Int)(a:Addr)(xs:List V)(os:List (Int × Bool))(x:Int),vs=[.ref D,.ref a,.int x]/\H D=some (.lst zs)/\RdsAll H zs (B.map kA)/\Am B ns/\ns.sum=(os.length:Nat)/\H a=some (.lst xs)/\pk H xs os/\os.length<=20/\Q (.int (Sg (os.length/2) (pB os x))) H
theorem CA (F:Fun K "_law_by_pairs" "_law_by_pairs" zG f fd)(A1:Df P w K mg base aq 1 "_law_stands" ["_law_one","_law_other"] l9 a1 d1)(mn:mg "len" = none)(mr:mg "range" = none):FnOk P w K mg base aq 2 f fd ["_law_blocks","_law_outcomes_here","_law_dealing"] zX:=by
 refine F.ok scBP (λ vs H Q E h=>?_) (λ cdv A outer s H vs Q E hr h=>?_)
 ·obtain⟨_,_,_,_,_,_,_,_,rfl,_⟩:=h;rfl
 obtain⟨D,zs,B,ns,a,xs,os,x,rfl,hD,ra,⟨hns,ens⟩,tot,ha,oc,lo,q⟩:=h;refine gS (wZ A1 mn mr hr) ⟨?_⟩;have lz:=ra.length;rw [List.length_map] at lz;have lB:B.length=ns.length:=by
  have:=congrArg List.length ens;rw [List.length_map,dy] at this;exact this
 have h1:∀ n∈ns,1<=n:=λ n hn=>(hns n hn).1;refine aG (te:=tC (.int 0)) (i:=3) ?_;refine⟨_,rfl,D,rfl,⟨_,SqL.of hD⟩,dw (xs:=zs) (λ i σ H'=>H'=H/\∃ o4 o5 o6 o7 o8 o9,σ=[some (.ref D),some (.ref a),some (.int x),some (.int (Sg ((ns.take i).sum.toNat/2) (pB os x))),o4,o5,o6,o7,o8,o9]) ⟨rfl,_,_,_,_,_,_,by rw [List.take_zero];rfl⟩ ?_ ?_ ?_⟩
 ·rintro i σ H' _ ⟨rfl,_⟩;exact SqL.of hD
 ·rintro i y σ H' ey ⟨rfl,o4,o5,o6,o7,o8,o9,rfl⟩;obtain⟨dd,ed,rd⟩:=ra.get ey;rw [List.getElem?_map] at ed;obtain⟨bk,ebk,rfl⟩:=Option.map_eq_some_iff.mp ed;obtain⟨b,l,rfl,hb,hl⟩:=ld rd;have li:i<ns.length:=by rw [<- lB];exact(List.getElem?_eq_some_iff.mp ebk).1
  have ebk2:bk.2=cy ((ns.take i).sum) (ns[i]).toNat:=by
   have z:=gr ns 0 i (List.getElem?_eq_getElem li);rw [<- ens,List.getElem?_map,ebk,Int.zero_add] at z;exact Option.some.inj z
  obtain⟨se,s0⟩:=iV (ns:=ns.take i) λ n hn=>hns n (List.mem_of_mem_take hn);obtain⟨s',es⟩:∃ s:Nat,(ns.take i).sum=(s:Int):=⟨_,(Int.toNat_of_nonneg s0).symm⟩;have hi:=hns ns[i] (List.getElem_mem li);obtain⟨n,eni⟩:∃ n:Nat,ns[i]=(n:Int):=⟨_,(Int.toNat_of_nonneg (show 0<=ns[i] by omega)).symm⟩
  rw [es,eni,Int.toNat_natCast] at ebk2;have le:=je ns (i+1) h1;have et:(ns.take (i+1)).sum=((s'+n:Nat):Int):=by
   rw [List.take_succ_eq_append_getElem li,List.sum_append,es,eni];simp
  rw [et,tot] at le;rw [ebk2] at hl;have hsn:s'+n<=os.length:=by omega
  have es2:s'%2=0:=by omega
  have en2:n%2=0:=by omega
  refine⟨b,_,rfl,SqT.of hb,rfl,_,_,rfl,_,_,rfl,rfl,?_⟩;rw [es,Int.toNat_natCast];refine⟨_,rfl,l,_,rfl,.inl (SqL.of hl),0,(((cy (s':Nat) n).map V.int).length:Nat),rfl,⟨by omega,by omega,by rw [List.length_map,dY];omega⟩,?_⟩
  have ln:((((((cy (s':Nat) n).map V.int).length:Nat):Int)-0+1)/2).toNat=n/2:=by rw [List.length_map,dY];omega
  rw [ln];refine mx (lo:=0) (c:=2) (n:=n/2) (λ m σ H2=>H2=H'/\∃ o6 o7 o8 o9,σ=[some (.ref D),some (.ref a),some (.int x),some (.int (Sg (s'/2+m) (pB os x))),some (.str bk.1),some (.ref l),o6,o7,o8,o9]) ⟨rfl,_,_,_,_,rfl⟩ ?_ ?_
  ·rintro m σ H2 hm ⟨rfl,o6,o7,o8,o9,rfl⟩;have e0:(0:Int)+(m:Nat)*2=((2*m:Nat):Int):=by omega
   rw [e0];have e1:(((2*m:Nat):Int)+1)=((2*m+1:Nat):Int):=by omega
   have g1:((cy (s':Nat) n).map V.int)[2*m]?=some (.int ((s'+2*m:Nat))):=by
    rw [List.getElem?_map,og (by omega)]
    rfl
   have g2:((cy (s':Nat) n).map V.int)[2*m+1]?=some (.int ((s'+2*m+1:Nat))):=by
    rw [List.getElem?_map,og (by omega)]
    rfl
   obtain⟨c1,f1,q1⟩:=jM oc (show s'+2*m<os.length by omega)
   obtain⟨c2,f2,q2⟩:=jM oc (show s'+2*m+1<os.length by omega)
   refine aG (te:=aB (cE K) (af 5) (af 6)) (i:=7) ⟨_,rfl,_,rfl,l,_,_,_,rfl,rfl,SqL.of hl,dL g1,?_⟩;refine aG (te:=aB (cE K) (af 5) (aB (ck λ i j=>.int (i+j)) (af 6) (tC (.int 1)))) (i:=8) ⟨_,rfl,_,rfl,_,_,rfl,rfl,l,_,_,_,rfl,rfl,SqL.of hl,by rw [e1];exact dL g2,?_⟩
   refine aG (te:=aB (ck λ i j=>.int (i-j)) (sJ 7) (sJ 8)) (i:=9) ⟨_,rfl,_,rfl,_,_,rfl,rfl,(by show(0:Int)<=((s'+2*m:Nat):Int);omega),_,_,rfl,rfl,_,rfl,_,rfl,_,_,rfl,rfl,(by show(0:Int)<=((s'+2*m+1:Nat):Int);omega),_,_,rfl,rfl,_,_,rfl,rfl,?_⟩
   rw [PyProof.Rows.bitAnd_m1,PyProof.Rows.bitAnd_m1,Int.toNat_natCast,Int.toNat_natCast];have b1:0<=x/2^(s'+2*m)%2/\x/2^(s'+2*m)%2<2:=⟨Int.emod_nonneg _ (by decide),Int.emod_lt_of_pos _ (by decide)⟩
   have b2:0<=x/2^(s'+2*m+1)%2/\x/2^(s'+2*m+1)%2<2:=⟨Int.emod_nonneg _ (by decide),Int.emod_lt_of_pos _ (by decide)⟩
   refine⟨_,rfl,_,rfl,_,rfl,_,rfl,a,xs,_,_,rfl,rfl,SqL.of ha,dL f1,_,rfl,_,rfl,a,xs,_,_,rfl,rfl,SqL.of ha,dL f2,_,_,_,_,rfl,q1,q2,_,_,rfl,rfl,.inl ⟨by omega,by omega⟩,_,_,rfl,rfl,rfl,some (.int ((2*m:Nat))),some (.int ((s'+2*m:Nat))),some (.int ((s'+2*m+1:Nat))),some (.int (x/2^(s'+2*m)%2-x/2^(s'+2*m+1)%2)),?_⟩
   have ep:Sg (s'/2+(m+1)) (pB os x)=Sg (s'/2+m) (pB os x)+(x/2^(s'+2*m)%2-x/2^(s'+2*m+1)%2)*i8 (os.getD (s'+2*m) (0,false)) (os.getD (s'+2*m+1) (0,false)):=by
    rw [<- Nat.add_assoc,bE]
    congr 1
    unfold pB jN;rw [show 2*(s'/2+m)=s'+2*m by omega]
   rw [ep];rfl
  ·rintro σ H2 ⟨rfl,o6,o7,o8,o9,rfl⟩;refine⟨rfl,some (.str bk.1),some (.ref l),o6,o7,o8,o9,?_⟩;rw [et,Int.toNat_natCast,show(s'+n)/2=s'/2+n/2 by omega]
 ·rintro σ H' ⟨rfl,o4,o5,o6,o7,o8,o9,rfl⟩;rw [lz,lB,List.take_length,tot,Int.toNat_natCast];exact⟨_,rfl,q⟩
end
theorem rX (o p:Int × Bool):i8 o p = - i8 p o:=by
 obtain⟨n1,s1⟩:=o;obtain⟨n2,s2⟩:=p;show pL n1 s1 n2 s2 = - pL n2 s2 n1 s1;unfold pL;by_cases h1:n1>n2
 ·have h2:¬ n2>n1:=by omega
  rw [decide_eq_true h1,decide_eq_false h2];cases s1 <;> cases s2 <;> decide
 ·by_cases h2:n2>n1
  ·rw [decide_eq_false h1,decide_eq_true h2];cases s1 <;> cases s2 <;> decide
  ·rw [decide_eq_false h1,decide_eq_false h2];cases s1 <;> cases s2 <;> decide
theorem iN (os:List (Int × Bool))(i j:Nat):jN os i j = - jN os j i:=rX _ _
theorem kJ (os:List (Int × Bool))(f:Int × Bool->Int):(os.map f).sum=Sg os.length (λ j=>f (os.getD j (0,false))):=by
 unfold Sg
 congr 1
 apply List.ext_getElem?;intro j;rw [List.getElem?_map,List.getElem?_map];rcases Nat.lt_or_ge j os.length with lt | ge
 ·rw [List.getElem?_range lt,List.getElem?_eq_getElem lt];show some (f os[j])=some (f (os.getD j (0,false)));rw [List.getD_eq_getElem?_getD,List.getElem?_eq_getElem lt];rfl
 ·rw [List.getElem?_eq_none ge,List.getElem?_eq_none (by rw [List.length_range];exact ge)]
  rfl
theorem qX {os:List (Int × Bool)}{i:Nat}(hi:i<os.length):(cr os).getD i 0=Sg os.length (jN os i):=by
 unfold cr;rw [List.getD_eq_getElem?_getD,List.getElem?_map,List.getElem?_eq_getElem hi];show(os.map λ p=>i8 os[i] p).sum=_;rw [kJ];refine bA λ j _=>?_;unfold jN;rw [List.getD_eq_getElem?_getD (l:=os) (i:=i),List.getElem?_eq_getElem hi];rfl
theorem gY (os:List (Int × Bool)):(cr os).length=os.length:=List.length_map _
theorem sX (os:List (Int × Bool))(x:Int):eG x (cr os)=Sg os.length (λ i=>if bt x i=true then Sg os.length (λ j=>if(!bt x j)=true then jN os i j else 0) else 0):=by
 have hz:Sg os.length (λ i=>Sg os.length (λ j=>if bt x i=true/\bt x j=true then jN os i j else 0))=0:=nX λ i j _ _=>by
  by_cases h:bt x i=true/\bt x j=true
  ·rw [if_pos h,if_pos ⟨h.2,h.1⟩];exact iN os i j
  ·rw [if_neg h,if_neg (λ z=>h ⟨z.2,z.1⟩)];rfl
 have e:eG x (cr os)=Sg os.length (λ i=>Sg os.length (λ j=>if bt x i=true/\bt x j=true then jN os i j else 0))+Sg os.length (λ i=>if bt x i=true then Sg os.length (λ j=>if(!bt x j)=true then jN os i j else 0) else 0):=by
  unfold eG;rw [gY,<- jQ];refine bA λ i hi=>?_;cases hb:bt x i with
  | false =>
   rw [if_neg (by decide),if_neg (by decide),Int.add_zero]
   have e0:Sg os.length (λ j=>if(false:Bool)=true/\bt x j=true then jN os i j else 0)=Sg os.length (λ _=>0):=bA λ j _=>by simp
   rw [e0,rW]
  | true =>
   rw [if_pos rfl,if_pos rfl,qX hi,<- jQ];refine bA λ j _=>?_;cases bt x j <;> simp
 rw [e,hz,Int.zero_add]
theorem nW (os:List (Int × Bool)):Sg os.length (λ i=>(cr os).getD i 0)=0:=by
 rw [bA λ i hi=>qX hi];exact nX λ i j _ _=>iN os i j
theorem ul {ns:List Int}:eG (2^ns.length-1) ns=Sg ns.length (λ i=>ns.getD i 0):=bA λ i hi=>by rw [if_pos (zg hi)]
theorem qI {ns:List Int}{x:Int}(h0:0<=x)(h1:x<2^ns.length):eG (2^ns.length-1-x) ns=Sg ns.length (λ i=>ns.getD i 0)-eG x ns:=by
 unfold eG;rw [<- wj];refine bA λ i hi=>?_;rw [ou h0 h1 hi];cases bt x i <;> simp
theorem va {os:List (Int × Bool)}{x:Int}(ev:os.length%2=0):eG x (gM os)=Sg (os.length/2) (pB os x):=by
 have hl:(gM os).length=os.length:=List.length_mapIdx;unfold eG;rw [hl]
 conv=>lhs;rw [show os.length=2*(os.length/2) by omega]
 rw [yf];refine bA λ m hm=>?_;have at_:∀ i,i<os.length->(gM os).getD i 0=jN os i (fS i):=λ i hi=>by
  unfold gM jN;rw [List.getD_eq_getElem?_getD,List.getElem?_mapIdx,List.getElem?_eq_getElem hi,List.getD_eq_getElem?_getD (l:=os) (i:=i),List.getElem?_eq_getElem hi];rfl
 rw [at_ (2*m) (by omega),at_ (2*m+1) (by omega)]
 have m1:fS (2*m)=2*m+1:=by unfold fS;rw [if_pos (by omega)]
 have m2:fS (2*m+1)=2*m:=by unfold fS;rw [if_neg (by omega)];omega
 unfold pB;rw [m1,m2,iN os (2*m+1) (2*m),pT,pT];cases bt x (2*m) <;> cases bt x (2*m+1) <;> simp
 all_goals omega
section
variable {P:Program}{w:World}{K:Frag}{mg:Str->Option Value}{base:Heap}{C MC:Nat->Addr}{f S g:Addr}{fd gd:FuncData}
abbrev tw:Stmt:=ay (bR 60) 0
def kQ (MC:Nat->Addr):Sp:=λ vs H Q _=>∃ x v k dx,k<4/\vs=[.ref x,v]/\H x=some (.ins (MC k) dx [])/\Q .non (ae H x (.ins (MC k) dx [("mark",v)]))
theorem Co:ad ["self","mark"] ["self","mark"] (aa tw):=aJ
theorem yr (Z:KM K MC)(F:Fun K "__init__" "Measure.__init__" tw f fd):FnOk P w K mg base aq 1 f fd ["self","mark"] (kQ MC):=by
 refine F.ok Co (λ vs H Q E h=>?_) (λ cdv A outer s H vs Q E hr h=>?_)
 ·obtain⟨_,_,_,_,_,rfl,_⟩:=h;rfl
 obtain⟨x,v,k,dx,hk,rfl,hx,q⟩:=h;exact⟨_,bc (dC (pv 0) (pv 1) rfl),_,rfl,_,rfl,x,_,dx,[],rfl,hx,Z.cls k hk,Z.no k hk,by decide,q⟩
def fL (MC:Nat->Addr)(k:Nat):Sp:=λ vs H Q _=>∃ x dx,vs=[.ref x]/\H x=some (.ins (MC k) dx [])/\∀ m H',Kept H H' x->H' m=some (.tup [.str (vi k)])->H' x=some (.ins (MC k) dx [("mark",.ref m)])->Q .non H'
abbrev tz:Stmt:=ay (bR 61) 0
theorem AW:ad ["self"] ["self"] (aa tz):=aJ
theorem wg (F:Fun K "__init__" "Sum.__init__" tz f fd)(Cf:dR K S "__init__" g)(G:FnOk P w K mg base aq 1 g gd ["self","mark"] (kQ MC))(bG:Binds K gd ["self","mark"] [])(mS:mg "Measure" = some (.ref S)):FnOk P w K mg base aq 2 f fd ["self"] (fL MC 0):=by
 refine F.ok AW (λ vs H Q E h=>?_) (λ cdv A outer s H vs Q E hr h=>?_)
 ·obtain⟨_,_,rfl,_⟩:=h;rfl
 obtain⟨x,dx,rfl,hx,q⟩:=h;refine⟨_,bc (aw (bF Cf G hr rfl mS bG .nil ah (ac (pv 0) (ac (bJ (ac bh ao)) ao)))),?_⟩;refine⟨_,rfl,by show 1<=sizeLine;decide,λ t ht=>?_⟩
 have x1:=Ext.new (o:=.tup [.str "sum"]) ht;have ne:t≠x:=λ e=>by rw [e,hx] at ht;cases ht
 refine⟨x,_,0,dx,by decide,rfl,x1 _ _ hx,q t _ ((x1.kept x).trans (be _)) ?_ aR⟩
 rw [ag ne];exact aR
abbrev sU:Stmt:=ay (bR 62) 0
theorem Bf:ad ["self"] ["self"] (aa sU):=aJ
theorem wE (F:Fun K "__init__" "Ranks.__init__" sU f fd)(Cf:dR K S "__init__" g)(G:FnOk P w K mg base aq 1 g gd ["self","mark"] (kQ MC))(bG:Binds K gd ["self","mark"] [])(mS:mg "Measure" = some (.ref S)):FnOk P w K mg base aq 2 f fd ["self"] (fL MC 1):=by
 refine F.ok Bf (λ vs H Q E h=>?_) (λ cdv A outer s H vs Q E hr h=>?_)
 ·obtain⟨_,_,rfl,_⟩:=h;rfl
 obtain⟨x,dx,rfl,hx,q⟩:=h;refine⟨_,bc (aw (bF Cf G hr rfl mS bG .nil ah (ac (pv 0) (ac (bJ (ac bh ao)) ao)))),?_⟩;refine⟨_,rfl,by show 1<=sizeLine;decide,λ t ht=>?_⟩
 have x1:=Ext.new (o:=.tup [.str "ranks"]) ht;have ne:t≠x:=λ e=>by rw [e,hx] at ht;cases ht
 refine⟨x,_,1,dx,by decide,rfl,x1 _ _ hx,q t _ ((x1.kept x).trans (be _)) ?_ aR⟩
 rw [ag ne];exact aR
abbrev tO:Stmt:=ay (bR 63) 0
theorem Cq:ad ["self"] ["self"] (aa tO):=aJ
theorem v9 (F:Fun K "__init__" "Wins.__init__" tO f fd)(Cf:dR K S "__init__" g)(G:FnOk P w K mg base aq 1 g gd ["self","mark"] (kQ MC))(bG:Binds K gd ["self","mark"] [])(mS:mg "Measure" = some (.ref S)):FnOk P w K mg base aq 2 f fd ["self"] (fL MC 2):=by
 refine F.ok Cq (λ vs H Q E h=>?_) (λ cdv A outer s H vs Q E hr h=>?_)
 ·obtain⟨_,_,rfl,_⟩:=h;rfl
 obtain⟨x,dx,rfl,hx,q⟩:=h;refine⟨_,bc (aw (bF Cf G hr rfl mS bG .nil ah (ac (pv 0) (ac (bJ (ac bh ao)) ao)))),?_⟩;refine⟨_,rfl,by show 1<=sizeLine;decide,λ t ht=>?_⟩
 have x1:=Ext.new (o:=.tup [.str "wins"]) ht;have ne:t≠x:=λ e=>by rw [e,hx] at ht;cases ht
 refine⟨x,_,2,dx,by decide,rfl,x1 _ _ hx,q t _ ((x1.kept x).trans (be _)) ?_ aR⟩
 rw [ag ne];exact aR
abbrev uw:Stmt:=ay (bR 64) 0
theorem Ba:ad ["self"] ["self"] (aa uw):=aJ
theorem zf (F:Fun K "__init__" "Signs.__init__" uw f fd)(Cf:dR K S "__init__" g)(G:FnOk P w K mg base aq 1 g gd ["self","mark"] (kQ MC))(bG:Binds K gd ["self","mark"] [])(mS:mg "Measure" = some (.ref S)):FnOk P w K mg base aq 2 f fd ["self"] (fL MC 3):=by
 refine F.ok Ba (λ vs H Q E h=>?_) (λ cdv A outer s H vs Q E hr h=>?_)
 ·obtain⟨_,_,rfl,_⟩:=h;rfl
 obtain⟨x,dx,rfl,hx,q⟩:=h;refine⟨_,bc (aw (bF Cf G hr rfl mS bG .nil ah (ac (pv 0) (ac (bJ (ac bh ao)) ao)))),?_⟩;refine⟨_,rfl,by show 1<=sizeLine;decide,λ t ht=>?_⟩
 have x1:=Ext.new (o:=.tup [.str "signs"]) ht;have ne:t≠x:=λ e=>by rw [e,hx] at ht;cases ht
 refine⟨x,_,3,dx,by decide,rfl,x1 _ _ hx,q t _ ((x1.kept x).trans (be _)) ?_ aR⟩
 rw [ag ne];exact aR
structure FT (P:Program)(w:World)(K:Frag)(mg:Str->Option Value)(base:Heap)(MC:Nat->Addr)(f0 f1 f2 f3:Addr)(e0 e1 e2 e3:FuncData):Prop where
 k0:Mk K (MC 0) f0
 k1:Mk K (MC 1) f1
 k2:Mk K (MC 2) f2
 k3:Mk K (MC 3) f3
 g0:FnOk P w K mg base aq 2 f0 e0 ["self"] (fL MC 0)
 g1:FnOk P w K mg base aq 2 f1 e1 ["self"] (fL MC 1)
 g2:FnOk P w K mg base aq 2 f2 e2 ["self"] (fL MC 2)
 g3:FnOk P w K mg base aq 2 f3 e3 ["self"] (fL MC 3)
 b0:Binds K e0 ["self"] []
 b1:Binds K e1 ["self"] []
 b2:Binds K e2 ["self"] []
 b3:Binds K e3 ["self"] []
 m0:mg "Sum" = some (.ref (MC 0))
 m1:mg "Ranks" = some (.ref (MC 1))
 m2:mg "Wins" = some (.ref (MC 2))
 m3:mg "Signs" = some (.ref (MC 3))
theorem Di {H:Hp}{x dx:Addr}{R:VK}{E:XK}{k:Nat}(hx:H x=none)(hd:H dx=none)(ne:dx≠x)(q:∀ H',Ext H H'->Me MC H' k (.ref x)->R .non H'):fL MC k [.ref x] (ae (ae H dx (.own x)) x (.ins (MC k) dx [])) R E:=by
 have xe:=dO (u:=.own x) (v:=.ins (MC k) dx []) hx hd ne;exact⟨x,dx,rfl,aR,λ m H' kp hm hx'=>q H' (xe.kp hx kp) ⟨x,dx,m,rfl,hx',hm⟩⟩
abbrev Du:Stmt:=bR 67
theorem DS:ad ["_law_found"] ["_law_found"] (aa Du):=aJ
def yk:Sp:=λ vs H Q _=>∃ n:Int,vs=[.int n]/\Q (.bl true) H
theorem BZ (N:sd K)(F:Fun K "_law_whole" "_law_whole" Du f fd)(mi:mg "isinstance" = none)(m1:mg "int" = none)(m2:mg "bool" = none):FnOk P w K mg base aq 1 f fd ["_law_found"] yk:=by
 refine F.ok DS (λ vs H Q E h=>?_) (λ cdv A outer s H vs Q E hr h=>?_)
 ·obtain⟨_,rfl,_⟩:=h;rfl
 obtain⟨n,rfl,q⟩:=h;refine⟨_,bc (cZ (dJ (ai (cA N) rfl mi PyProof.Rows.boot_isinstance (ac (pv 0) (ac (gl rfl m1 PyProof.Rows.boot_int) ao)))
  (eu (qO (ai (cA N) rfl mi PyProof.Rows.boot_isinstance (ac (pv 0) (ac (gl rfl m2 PyProof.Rows.boot_bool) ao))))))),?_⟩
 exact⟨_,rfl,_,_,_,_,rfl,.inl (.int n),Db,_,rfl,⟨_,rfl,_,_,_,_,rfl,.inl (.int n),BN,_,rfl,q⟩⟩
end
section
variable {P:Program}{w:World}{K:Frag}{mg:Str->Option Value}{base:Heap}{C MC:Nat->Addr}{CU CP f f0 f1 f2 f3 a1 a2 a3 a4 a5:Addr}{fd e0 e1 e2 e3 d1 d2 d3 d4 d5:FuncData}
structure Dd (P:Program)(w:World)(K:Frag)(mg:Str->Option Value)(base:Heap)(C MC:Nat->Addr)(CU CP f0 f1 f2 f3:Addr)(e0 e1 e2 e3:FuncData)(a1 a2 a3 a4 a5:Addr)(d1 d2 d3 d4 d5:FuncData):Prop where
 L:FT P w K mg base MC f0 f1 f2 f3 e0 e1 e2 e3
 sc:cq P w K mg base (cC P w) 9 "scores" ["self","rule","outcomes"] (pK MC) (λ _=>nB C MC CU CP)
 vo:Df P w K mg base aq 4 "value_of" ["scores","dealing"] sO a1 d1
 wh:Df P w K mg base aq 1 "_law_whole" ["_law_found"] yk a2 d2
 bt:Df P w K mg base aq 2 "_law_between" ["_law_outcomes_here","_law_ones","_law_zeros"] xZ a3 d3
 ap:Df P w K mg base aq 1 "_law_are_pairs" ["_law_blocks"] zd a4 d4
 bp:Df P w K mg base aq 2 "_law_by_pairs" ["_law_blocks","_law_outcomes_here","_law_dealing"] zX a5 d5
 ml:mg "list" = none
 mr:mg "range" = none
 mn:mg "len" = none
 ma:mg "all" = none
 ms:mg "sum" = none
abbrev gj:Stmt:=bR 77
abbrev fJ (i:Nat):Stmt:=(ax gj).getD i (.Pass ⟨0,0,0,0⟩)
abbrev iC:List Str:=["_law_rule_here","_law_blocks","_law_outcomes_here","_law_dealing","_law_folk_here","_law_ones","_law_zeros","_law_whole_here","_law_wins","_law_found","_law_signs","_law_ranks","_law_numbers","_law_total","_law_one","_law_less"]
theorem scDR:ad iC ["_law_rule_here","_law_blocks","_law_outcomes_here","_law_dealing"] (aa gj):=aJ
abbrev EU:Scope:={ kind:=.function,names:=[(".0",.local),("_law_place",.local),("_law_dealing",.free)],isGenerator:=false,isCoroutine:=false }
abbrev Fa:Scope:={ kind:=.function,names:=[(".0",.local),("_law_place",.local),("_law_ones",.free)],isGenerator:=false,isCoroutine:=false }
abbrev EC:Scope:={ kind:=.function,names:=[(".0",.local),("_law_number",.local),("_law_sure",.local)],isGenerator:=false,isCoroutine:=false }
abbrev E8:Scope:={ kind:=.function,names:=[(".0",.local),("_law_score",.local),("len",.globalImplicit),("_law_folk_here",.free)],isGenerator:=false,isCoroutine:=false }
abbrev DW:Scope:={ kind:=.function,names:=[(".0",.local),("_law_place",.local),("_law_numbers",.free)],isGenerator:=false,isCoroutine:=false }
abbrev D9:Scope:={ kind:=.function,names:=[(".0",.local),("_law_number",.local),("_law_numbers",.free),("_law_one",.free)],isGenerator:=false,isCoroutine:=false }
theorem Fj:((["_law_place"]:List Str)++(["_law_dealing"]:List Str)).Nodup:=by decide +kernel
theorem Fd:((["_law_place"]:List Str)++(["_law_ones"]:List Str)).Nodup:=by decide +kernel
theorem tm:((["_law_number","_law_sure"]:List Str)++([]:List Str)).Nodup:=by decide +kernel
theorem Fn:((["_law_score"]:List Str)++(["_law_folk_here"]:List Str)).Nodup:=by decide +kernel
theorem Ey:((["_law_place"]:List Str)++(["_law_numbers"]:List Str)).Nodup:=by decide +kernel
theorem Fo:((["_law_number"]:List Str)++(["_law_numbers","_law_one"]:List Str)).Nodup:=by decide +kernel
theorem rS {X:Cx}:aU X EC [] ["_law_number","_law_sure"] [] []:=ie (L:=[(".0",.local),("_law_number",.local),("_law_sure",.local)]) rfl rfl (by decide +kernel) (by decide +kernel) (by decide +kernel) rfl (by decide +kernel) (by decide +kernel)
def iP (C MC:Nat->Addr)(CU CP:Addr)(k:Nat):TE:=dk (pK MC) "scores" (λ _=>nB C MC CU CP) E0 (dM (MC k) (fL MC k) [] E0 aL) (am (af 0) (am (af 2) aL))
def lZ (i:Nat)(te:TE):TE:=fY sO [] E0 (am (af i) (am te aL))
def Cy:TS:=cX (tC (.bl false))
def Fy (K:Frag):TS:=cj (gU oy (am (gU qP (am (eV K 2) aL)) aL)) (aP 4)
def xF:TT:=tB (aB nF (aB (ck λ i j=>.int (Builtin.bitAnd i j)) (aB (rI (λ _ j=>0<=j) λ i j=>.int (i/2^j.toNat)) (af 1) (af 0)) (tC (.int 1))) (tC (.int 1)))
def Er (K:Frag):TS:=cj (cO (aZ K (af 4)) 1 [3] (aP 0) xF (af 0)) (aP 5)
def zT (K:Frag):TT:=tB (aB (FX K true) (af 0) (af 1))
def DY (K:Frag):TS:=cj (cO (aZ K (af 4)) 1 [5] (aP 0) (zT K) (af 0)) (aP 6)
def FE (K:Frag):TS:=cj (aB (ck λ i j=>.int (i-j)) (aB (rI oz λ i j=>.int (i*2^j.toNat)) (tC (.int 1)) (eV K 4)) (tC (.int 1))) (aP 7)
def Ew:TS:=fc (Bp (sx (tB (fY yk [] E0 (am (af 9) aL)))) (tB (aB yT (af 9) (fY xZ [] E0 (am (af 2) (am (af 5) (am (af 6) aL))))))) Cy cp
def EV:TS:=fc (Bp (tB (aB yT (lZ 8 (aB (ck λ i j=>.int (i-j)) (af 7) (af 3))) (aB (ck λ i j=>.int (i-j)) (tC (.int 0)) (af 9)))) (tB (aB yT (lZ 8 (af 7)) (tC (.int 0))))) Cy cp
def E7 (C MC:Nat->Addr)(CU CP:Addr):TS:=fc (tB (fY zd [] E0 (am (af 1) aL))) (aV (cj (iP C MC CU CP 3) (aP 10)) (fc (tB (aB yT (lZ 10 (af 3)) (fY zX [] E0 (am (af 1) (am (af 2) (am (af 3) aL)))))) Cy cp)) cp
def D5 (K:Frag):TS:=fc (sx (tB (gU (BU K) (am (c7 (aZ K (af 2)) 2 [] (lW K) (af 1)) aL)))) (cX (tC (.bl true))) cp
def vI (K:Frag):TE:=aB (ck λ i j=>.int (i+j)) (aB (ck λ i j=>.int (i+j)) (af 0) (eV K 1)) (tC (.int 1))
def zQ (K:Frag):TS:=fc (tB (aB (BF not) (af 11) (c7 (aZ K (af 8)) 1 [4] (aP 0) (vI K)))) Cy cp
def Ac (K:Frag):TS:=cj (c7 (aZ K (af 2)) 2 [] (lW K) (af 0)) (aP 12)
def vp (K:Frag):TE:=aB (cE K) (af 1) (af 0)
def xH (K:Frag)(C MC:Nat->Addr)(CU CP:Addr):TS:=fc (tB (aB yT (fY sO [] E0 (am (iP C MC CU CP 0) (am (af 3) aL))) (gU (nJ K) (am (c7 (aZ K (af 5)) 1 [12] (aP 0) (vp K)) aL)))) Cy cp
def rB (K:Frag):TT:=tB (aB (ck λ i j=>.bl (decide (i<j))) (af 0) (aB (cE K) (af 1) (af 2)))
def vl (K:Frag):TS:=aV (cj (cO (aZ K (af 12)) 1 [12,14] (aP 0) (rB K) (af 0)) (aP 15))
 (cj (aB (ck λ i j=>.int (i+j)) (aB (ck λ i j=>.int (i+j)) (af 13) (aB (rI CMul λ i j=>.int (i*j)) (tC (.int 2)) (eV K 15))) (Aj K "list" (mP K) (af 12) (am (aB (cE K) (af 12) (af 14)) aL))) (aP 13))
def xR (K:Frag):TS:=iQ (aZ K (af 5)) (aP 14) (vl K)
def CG:TS:=cX (aB nF (lZ 11 (af 3)) (af 13))
def FO (K:Frag)(C MC:Nat->Addr)(CU CP:Addr):TS:=aV (Fy K) (aV (Er K) (aV (DY K) (aV (FE K) (aV (cj (iP C MC CU CP 2) (aP 8)) (aV (cj (lZ 8 (af 3)) (aP 9)) (aV Ew (aV EV (aV (E7 C MC CU CP) (aV (D5 K) (aV (cj (iP C MC CU CP 1) (aP 11)) (aV (zQ K) (aV (Ac K) (aV (xH K C MC CU CP) (aV (cj (eV K 5) (aP 13)) (aV (xR K) CG)))))))))))))))
section
variable {cdv:Value}{A:Around}{outer:List Env}{s:Shared}{H:Hp}{E:XK}(D:Dd P w K mg base C MC CU CP f0 f1 f2 f3 e0 e1 e2 e3 a1 a2 a3 a4 a5 d1 d2 d3 d4 d5)(hr:pJ 9 "_law_dealing_right" gj A s f cdv)
theorem wM:aU (aH aq P w K mg base iC "_law_dealing_right" (aa gj) f cdv A outer s H E).nox EU [("_law_dealing",s.heap.objs.size+1)] ["_law_place"] ["_law_dealing"] [3] :=
 dE (M:=["_law_dealing"]) (L:=[(".0",.local),("_law_place",.local),("_law_dealing",.cell)]) rfl rfl (by decide +kernel) (by decide +kernel) (by decide +kernel) rfl rfl rfl (by decide +kernel) (by decide +kernel) rfl rfl rfl
theorem zu:aU (aH aq P w K mg base iC "_law_dealing_right" (aa gj) f cdv A outer s H E).nox Fa [("_law_ones",s.heap.objs.size+3)] ["_law_place"] ["_law_ones"] [5] :=
 dE (M:=["_law_ones"]) (L:=[(".0",.local),("_law_place",.local),("_law_ones",.cell)]) rfl rfl (by decide +kernel) (by decide +kernel) (by decide +kernel) rfl rfl rfl (by decide +kernel) (by decide +kernel) rfl rfl rfl
theorem wF:aU (aH aq P w K mg base iC "_law_dealing_right" (aa gj) f cdv A outer s H E).nox E8 [("_law_folk_here",s.heap.objs.size+2)] ["_law_score"] ["_law_folk_here"] [4] :=
 dE (M:=["_law_folk_here"]) (L:=[(".0",.local),("_law_score",.local),("len",.globalImplicit),("_law_folk_here",.cell)]) rfl rfl (by decide +kernel) (by decide +kernel) (by decide +kernel) rfl rfl rfl (by decide +kernel) (by decide +kernel) rfl rfl rfl
theorem yc:aU (aH aq P w K mg base iC "_law_dealing_right" (aa gj) f cdv A outer s H E).nox DW [("_law_numbers",s.heap.objs.size+4)] ["_law_place"] ["_law_numbers"] [12] :=
 dE (M:=["_law_numbers"]) (L:=[(".0",.local),("_law_place",.local),("_law_numbers",.cell)]) rfl rfl (by decide +kernel) (by decide +kernel) (by decide +kernel) rfl rfl rfl (by decide +kernel) (by decide +kernel) rfl rfl rfl
theorem xW:aU (aH aq P w K mg base iC "_law_dealing_right" (aa gj) f cdv A outer s H E).nox D9 [("_law_one",s.heap.objs.size+5),("_law_numbers",s.heap.objs.size+4)] ["_law_number"] ["_law_numbers","_law_one"] [12,14] :=
 dE (M:=["_law_one","_law_numbers"]) (L:=[(".0",.local),("_law_number",.local),("_law_numbers",.cell),("_law_one",.cell)]) rfl rfl (by decide +kernel) (by decide +kernel) (by decide +kernel) rfl rfl rfl (by decide +kernel) (by decide +kernel) rfl rfl rfl
include D hr
theorem FB:Bx (PS (aH aq P w K mg base iC "_law_dealing_right" (aa gj) f cdv A outer s H E).nox (fJ 0) (Fy K))/\Bx (PS (aH aq P w K mg base iC "_law_dealing_right" (aa gj) f cdv A outer s H E).nox (fJ 1) (Er K))/\Bx (PS (aH aq P w K mg base iC "_law_dealing_right" (aa gj) f cdv A outer s H E).nox (fJ 2) (DY K))/\Bx (PS (aH aq P w K mg base iC "_law_dealing_right" (aa gj) f cdv A outer s H E).nox (fJ 3) (FE K)):=by
 have nd:=scDR.nd;refine⟨aW (i:=4) nd rfl (Or.inr rfl) ⟨aM (jp rfl) rfl D.ml PyProof.Rows.boot_list (ac (aM i3 rfl D.mr PyProof.Rows.boot_range (ac (ai ar rfl D.mn PySem.boot_len (ac (pv 2) ao)) ao)) ao)⟩,
  aW (i:=5) nd rfl (Or.inr rfl) ⟨eQ (te:=af 0) (tt:=xF) (g:=aP 0) rfl wM (aE (pv 4)) (λ s H C fp=>by exact bU (i:=0) Fj rfl (.inl rfl)) (λ s H C fp=>by exact av cT (aj kg (aj jY (pv 1) (pv 0)) az) az (au _)) (λ s H C fp=>by exact pv 0)⟩,
  ⟨oh (iy:=6) (te:=af 0) (tt:=zT K) (g:=aP 0) rfl zu (aE (pv 4)) (λ s H C fp=>by exact bU (i:=0) Fd rfl (.inl rfl)) (λ s H C fp=>by exact av j5 (pv 0) (pv 1) rfl) (λ s H C fp=>by exact pv 0) nd rfl (Or.inl rfl) rfl⟩,
  aW (i:=7) nd rfl (Or.inl rfl) ⟨aj eJ (aj jV az (ai ar rfl D.mn PySem.boot_len (ac (pv 4) ao))) az⟩⟩
theorem Fg:Bx (PS (aH aq P w K mg base iC "_law_dealing_right" (aa gj) f cdv A outer s H E).nox (fJ 4) (cj (iP C MC CU CP 2) (aP 8)))/\Bx (PS (aH aq P w K mg base iC "_law_dealing_right" (aa gj) f cdv A outer s H E).nox (fJ 5) (cj (lZ 8 (af 3)) (aP 9)))/\Bx (PS (aH aq P w K mg base iC "_law_dealing_right" (aa gj) f cdv A outer s H E).nox (fJ 6) Ew)/\Bx (PS (aH aq P w K mg base iC "_law_dealing_right" (aa gj) f cdv A outer s H E).nox (fJ 7) EV)/\Bx (PS (aH aq P w K mg base iC "_law_dealing_right" (aa gj) f cdv A outer s H E).nox (fJ 8) (E7 C MC CU CP)):=by
 have nd:=scDR.nd;have hr1:Room 1 _:=hr.mono (by decide)
 have hr2:Room 2 _:=hr.mono (by decide)
 have hr3:Room 3 _:=hr.mono (by decide)
 have hr4:Room 4 _:=hr.mono (by decide)
 refine⟨aW (i:=8) nd rfl (Or.inl rfl) ⟨cV (fZ D.L.k2 D.L.g2 hr3 rfl D.L.m2 D.L.b2 .nil ah) D.sc hr fq (ac (pv 0) (ac (pv 2) ao))⟩,
  aW (i:=9) nd rfl (Or.inl rfl) ⟨bK D.vo.G hr4 rfl D.vo.m D.vo.kp D.vo.b .nil ah (ac (pv 8) (ac (pv 3) ao))⟩,
  ⟨bB (PW.pt (gk (cg (bw (bK D.wh.G hr1 rfl D.wh.m D.wh.kp D.wh.b .nil ah (ac (pv 9) ao)))) (eB (av fK (pv 9) (bK D.bt.G hr2 rfl D.bt.m D.bt.kp D.bt.b .nil ah (ac (pv 2) (ac (pv 5) (ac (pv 6) ao)))) (au _))))) (bc (cZ rY)) gz⟩,
  ⟨bB (PW.pt (gk (av fK (bK D.vo.G hr4 rfl D.vo.m D.vo.kp D.vo.b .nil ah (ac (pv 8) (ac (aj eJ (pv 7) (pv 3)) ao))) (aj eJ az (pv 9)) (au _)) (eB (av fK (bK D.vo.G hr4 rfl D.vo.m D.vo.kp D.vo.b .nil ah (ac (pv 8) (ac (pv 7) ao))) az (au _))))) (bc (cZ rY)) gz⟩,
  ⟨bB (bw (bK D.ap.G hr1 rfl D.ap.m D.ap.kp D.ap.b .nil ah (ac (pv 1) ao))) (bZ (gW (i:=10) nd rfl (Or.inl rfl) (cV (fZ D.L.k3 D.L.g3 hr3 rfl D.L.m3 D.L.b3 .nil ah) D.sc hr fq (ac (pv 0) (ac (pv 2) ao)))) (bc (bB (av fK (bK D.vo.G hr4 rfl D.vo.m D.vo.kp D.vo.b .nil ah (ac (pv 10) (ac (pv 3) ao))) (bK D.bp.G hr2 rfl D.bp.m D.bp.kp D.bp.b .nil ah (ac (pv 1) (ac (pv 2) (ac (pv 3) ao)))) (au _)) (bc (cZ rY)) gz))) gz⟩⟩
theorem Fv:Bx (PS (aH aq P w K mg base iC "_law_dealing_right" (aa gj) f cdv A outer s H E).nox (fJ 9) (D5 K))/\Bx (PS (aH aq P w K mg base iC "_law_dealing_right" (aa gj) f cdv A outer s H E).nox (fJ 10) (cj (iP C MC CU CP 1) (aP 11)))/\Bx (PS (aH aq P w K mg base iC "_law_dealing_right" (aa gj) f cdv A outer s H E).nox (fJ 11) (zQ K))/\Bx (PS (aH aq P w K mg base iC "_law_dealing_right" (aa gj) f cdv A outer s H E).nox (fJ 12) (Ac K))/\Bx (PS (aH aq P w K mg base iC "_law_dealing_right" (aa gj) f cdv A outer s H E).nox (fJ 13) (xH K C MC CU CP)):=by
 have nd:=scDR.nd;have hr3:Room 3 _:=hr.mono (by decide)
 have hr4:Room 4 _:=hr.mono (by decide)
 have hu:=hr.units;refine⟨⟨bB (cg (bw (ai (lL rfl) rfl D.ma PyProof.Rows.boot_all (ac (bT (te:=af 1) (g:=lW K) rfl rS (aE (pv 2)) (λ s H C fp=>by exact bI rfl (dX (bU (i:=0) tm rfl (.inl rfl)) (dX (bU (i:=1) tm rfl (.inl rfl)) ba))) (λ s H C fp=>by exact pv 1)) ao)))) (bc (cZ rY)) gz⟩,
  aW (i:=11) nd rfl (Or.inl rfl) ⟨cV (fZ D.L.k1 D.L.g1 hr3 rfl D.L.m1 D.L.b1 .nil ah) D.sc hr fq (ac (pv 0) (ac (pv 2) ao))⟩,
  ⟨bB (av (ya hu) (pv 11) (bT (te:=vI K) (g:=aP 0) rfl wF (aE (pv 8)) (λ s H C fp=>by exact bU (i:=0) Fn rfl (.inl rfl)) (λ s H C fp=>by exact aj bo (aj bo (pv 0) (ai ar rfl D.mn PySem.boot_len (ac (pv 1) ao))) az)) (au _)) (bc (cZ rY)) gz⟩,
  aW (i:=12) nd rfl (Or.inr rfl) ⟨bT (te:=af 0) (g:=lW K) rfl rS (aE (pv 2)) (λ s H C fp=>by exact bI rfl (dX (bU (i:=0) tm rfl (.inl rfl)) (dX (bU (i:=1) tm rfl (.inl rfl)) ba))) (λ s H C fp=>by exact pv 0)⟩,
  ⟨bB (av fK (bK D.vo.G hr4 rfl D.vo.m D.vo.kp D.vo.b .nil ah (ac (cV (fZ D.L.k0 D.L.g0 hr3 rfl D.L.m0 D.L.b0 .nil ah) D.sc hr fq (ac (pv 0) (ac (pv 2) ao))) (ac (pv 3) ao))) (ai (dQ rfl) rfl D.ms PyProof.Rows.boot_sum (ac (bT (te:=vp K) (g:=aP 0) rfl yc (aE (pv 5)) (λ s H C fp=>by exact bU (i:=0) Ey rfl (.inl rfl)) (λ s H C fp=>by exact c8 fU (pv 1) (pv 0))) ao)) (au _)) (bc (cZ rY)) gz⟩⟩
theorem EQ:Bx (PS (aH aq P w K mg base iC "_law_dealing_right" (aa gj) f cdv A outer s H E).nox (fJ 15) (xR K))/\Bx (PS (aH aq P w K mg base iC "_law_dealing_right" (aa gj) f cdv A outer s H E).nox (fJ 16) CG):=by
 have nd:=scDR.nd;have hr4:Room 4 _:=hr.mono (by decide)
 refine⟨⟨cJ PassesOwn.never rfl (aE (pv 5)) (bU (i:=14) nd rfl (Or.inr rfl)) (bZ (oh (iy:=15) (te:=af 0) (tt:=rB K) (g:=aP 0) rfl xW (aE (pv 12)) (λ s H C fp=>by exact bU (i:=0) Fo rfl (.inl rfl)) (λ s H C fp=>by exact av nU (pv 0) (c8 fU (pv 1) (pv 2)) (au _)) (λ s H C fp=>by exact pv 0) nd rfl (Or.inl rfl) rfl)
   (bc (gW (i:=13) nd rfl (Or.inl rfl) (aj bo (aj bo (pv 13) (aj dB az (ai ar rfl D.mn PySem.boot_len (ac (pv 15) ao)))) (jf PySem.F.plainAttrs_list PySem.F.slot_list_count PySem.F.type_list_count kY (pv 12) (ac (c8 fU (pv 12) (pv 14)) ao))))))⟩,
  fP ⟨bY cT (bK D.vo.G hr4 rfl D.vo.m D.vo.kp D.vo.b .nil ah (ac (pv 11) (ac (pv 3) ao))) (pv 13) (au _)⟩⟩
theorem zU:Bx (PSs (aH aq P w K mg base iC "_law_dealing_right" (aa gj) f cdv A outer s H E).nox (ax gj) (FO K C MC CU CP)):=by
 obtain⟨b0,b1,b2,b3⟩:=FB D hr (f:=f) (cdv:=cdv) (A:=A) (outer:=outer) (s:=s) (H:=H) (E:=E);obtain⟨b4,b5,b6,b7,b8⟩:=Fg D hr (f:=f) (cdv:=cdv) (A:=A) (outer:=outer) (s:=s) (H:=H) (E:=E);obtain⟨b9,b10,b11,b12,b13⟩:=Fv D hr (f:=f) (cdv:=cdv) (A:=A) (outer:=outer) (s:=s) (H:=H) (E:=E);obtain⟨b15,b16⟩:=EQ D hr (f:=f) (cdv:=cdv) (A:=A) (outer:=outer) (s:=s) (H:=H) (E:=E);exact cQ b0 (cQ b1 (cQ b2 (cQ b3 (cQ b4 (cQ b5 (cQ b6 (cQ b7 (cQ b8 (cQ b9 (cQ b10 (cQ b11 (cQ b12 (cQ b13 (cQ (aW (i:=13) scDR.nd rfl (Or.inl rfl) ⟨ai ar rfl D.mn PySem.boot_len (ac (pv 5) ao)⟩) (cQ b15 (aY b16))))))))))))))))
end
end
abbrev sD (r:V)(D a:Addr)(x:Int)(o4 o5 o6 o7 o8 o9 o10 o11 o12 o13 o14 o15:Option V):St:=[some r,some (.ref D),some (.ref a),some (.int x),o4,o5,o6,o7,o8,o9,o10,o11,o12,o13,o14,o15]
def Ed (x:Int):V->Bool
 | .int i=>bt x i.toNat
 | _=>false
theorem wB (n:Nat):(cy 0 n).map V.int=bn (List.range n):=by
 unfold cy bn;rw [List.map_map];apply List.map_congr_left;intro k _;show V.int (0+(k:Nat))=V.int (k:Nat);rw [Int.zero_add]
theorem iK (p:Nat->Bool)(pv:V->Bool):∀(is:List Nat),(∀ i∈is,pv (.int (i:Nat))=p i)->(bn is).filter pv=bn (is.filter p)
 | [],_=>rfl
 | i::is,h=>by
  have h1:=h i (List.mem_cons_self ..);have ih:=iK p pv is λ k hk=>h k (List.mem_cons_of_mem _ hk);unfold bn at ih ⊢;rw [List.map_cons,List.filter_cons,List.filter_cons,h1,ih];split <;> rfl
theorem qr (i:Nat):∀(is:List Nat),vC (.int (i:Nat)) (bn is)=decide (i∈is)
 | []=>by simp [vC,bn]
 | k::is=>by
  have ih:=qr i is;unfold vC bn at ih ⊢;rw [List.map_cons,List.any_cons,ih];show(((k:Nat):Int)==((i:Nat):Int)||_)=_;by_cases e:k=i
  ·subst e;simp
  ·have e1:(((k:Nat):Int)==((i:Nat):Int))=false:=beq_eq_false_iff_ne.mpr λ z=>e (by omega)
   rw [e1,Bool.false_or];simp [Ne.symm e]
structure PreD (C:Nat->Addr)(H:Hp)(r:V)(D a:Addr)(t:Rl)(zs xs:List V)(os:List (Int × Bool)):Prop where
 ru:Ru C H t r
 ok:t.ok
 fl:t.flat
 hD:H D=some (.lst zs)
 ra:RdsAll H zs (t.bl.map kA)
 ha:H a=some (.lst xs)
 ro:RdsAll H xs (os.map DN)
 bd:xM os
 fk:t.folk=(os.length:Nat)
theorem PreD.ext {C:Nat->Addr}{H H':Hp}{r:V}{D a:Addr}{t:Rl}{zs xs:List V}{os:List (Int × Bool)}(h:PreD C H r D a t zs xs os)(x:Ext H H'):PreD C H' r D a t zs xs os :=
 ⟨h.ru.ext x,h.ok,h.fl,x _ _ h.hD,h.ra.mono x,x _ _ h.ha,h.ro.mono x,h.bd,h.fk⟩
theorem PreD.lo {C:Nat->Addr}{H:Hp}{r:V}{D a:Addr}{t:Rl}{zs xs:List V}{os:List (Int × Bool)}(h:PreD C H r D a t zs xs os):os.length<=20:=by
 have:=Rl.folk_ok h.ok;have:=h.fk;omega
theorem PreD.lx {C:Nat->Addr}{H:Hp}{r:V}{D a:Addr}{t:Rl}{zs xs:List V}{os:List (Int × Bool)}(h:PreD C H r D a t zs xs os):xs.length=os.length:=(jt h.ro).1
section
variable {P:Program}{w:World}{K:Frag}{mg:Str->Option Value}{base:Heap}{C MC:Nat->Addr}{CU CP:Addr}{De:cw}{u:TS}{H:Hp}{r:V}{D a fl l5 l6 l8:Addr}{x:Int}{t:Rl}{zs xs:List V}{os:List (Int × Bool)}{o4 o5 o6 o7 o8 o9 o10 o11 o12 o13 o14 o15:Option V}
theorem jX {σ:St}{R:VK}{k:Nat}(hk:k<4)(s0:σ[0]?=some (some r))(s2:σ[2]?=some (some (.ref a)))(h:PreD C H r D a t zs xs os)(fit:(rH k t os).all id=true)(q:∀ l H',Ext H H'->H' l=some (.lst ((DD k os).map V.int))->R (.ref l) H'):iP C MC CU CP k σ H R:=by
 refine λ o dx ho hdx ne=>Di ho hdx ne λ H1 x1 me=>⟨rfl,?_⟩;have h1:=h.ext x1;obtain⟨o',dx',m,e,ho',hm⟩:=id me;cases e;refine⟨o,MC k,_,_,rfl,⟨k,hk,rfl⟩,ho',?_,_,s0,_,s2,k,.ref o,r,t,a,xs,os,hk,rfl,me,h1.ru,(Rl.sm h1.ok).1,(Rl.sm h1.ok).2,h1.ha,jt h1.ro,h1.bd,h1.lo,h1.fk,λ _ al=>lQ h1.ok h1.fl h1.fk al,λ _ l H2 x2 nl hl=>q l H2 (x1.trans x2) hl,λ i fi=>?_⟩
 ·rw [List.lookup_cons,beq_eq_false_iff_ne.mpr (by decide +kernel)];rfl
 ·exfalso;have:=List.all_eq_true.mp fit false (List.mem_of_getElem? fi.2);cases this
theorem Bj (h:PreD C H r D a t zs xs os)(k:∀ fl H',Ext H H'->H' fl=some (.lst (bn (List.range os.length)))->u De (sD r D a x (some (.ref fl)) o5 o6 o7 o8 o9 o10 o11 o12 o13 o14 o15) H'):aV (Fy K) u De (sD r D a x o4 o5 o6 o7 o8 o9 o10 o11 o12 o13 o14 o15) H:=by
 have lo:=h.lo;have lx:=h.lx;refine aG (te:=gU oy (am (gU qP (am (eV K 2) aL)) aL)) (i:=4) ⟨_,rfl,a,xs,rfl,.inl (SqL.of h.ha),_,rfl,λ rg hrg=>?_⟩;have x1:=Ext.new (o:=.rng 0 ((xs.length:Nat):Int)) hrg;refine⟨rg,0,((xs.length:Nat):Int),rfl,aR,⟨by omega,by omega,by omega,by omega⟩,by omega,λ fl hfl=>?_⟩
 have x2:=Ext.new (o:=.lst (rj 0 (((xs.length:Nat):Int)-0).toNat)) hfl;refine k fl _ (x1.trans x2) ?_;rw [aR,jI,show(((xs.length:Nat):Int)-0).toNat=os.length by omega,wB]
theorem AD (lo:os.length<=20)(hf:H fl=some (.lst (bn (List.range os.length))))(k:∀ l5 H',Ext H H'->H' l5=some (.lst (bn ((List.range os.length).filter (bt x))))->u De (sD r D a x (some (.ref fl)) (some (.ref l5)) o6 o7 o8 o9 o10 o11 o12 o13 o14 o15) H'):aV (Er K) u De (sD r D a x (some (.ref fl)) o5 o6 o7 o8 o9 o10 o11 o12 o13 o14 o15) H:=by
 have sz:=sizeLine_eq;have ln:(bn (List.range os.length)).length=os.length:=by unfold bn;rw [List.length_map,List.length_range]
 refine aG (te:=cO (aZ K (af 4)) 1 [3] (aP 0) xF (af 0)) (i:=5) ⟨_,rfl,fl,rfl,⟨_,SqL.of hf⟩,λ D1 hD1=>?_⟩;refine f7 (a:=fl) (cap:=[some (.int x)]) (Ed x) (by omega) hf hD1 ?_ ?_
 ·intro j v H' ev x' R q;unfold bn at ev;rw [List.getElem?_map] at ev;obtain⟨n,_,rfl⟩:=Option.map_eq_some_iff.mp ev;refine⟨_,rfl,_,rfl,_,_,rfl,rfl,(by show(0:Int)<=((n:Nat):Int);omega),_,_,rfl,rfl,rfl,_,rfl,?_⟩
  show R (decide (V.int (Builtin.bitAnd (x/2^((n:Nat):Int).toNat) 1)=V.int 1)) H';rw [PyProof.Rows.bitAnd_m1,Int.toNat_natCast];have e:decide (V.int (x/2^n%2)=V.int 1)=Ed x (.int (n:Nat)):=by
   show _=bt x ((n:Nat):Int).toNat;rw [Int.toNat_natCast];unfold bt;by_cases z:x/2^n%2=1
   ·rw [decide_eq_true z,decide_eq_true (congrArg V.int z)]
   ·rw [decide_eq_false z,decide_eq_false (λ y=>z (V.int.inj y))]
  rw [e];exact q
 ·intro H' x' hD;rw [iK (bt x) (Ed x) _ (λ i _=>by show bt x ((i:Nat):Int).toNat=_;rw [Int.toNat_natCast])] at hD
  exact k D1 H' x' hD
theorem Au (lo:os.length<=20)(hf:H fl=some (.lst (bn (List.range os.length))))(h5:H l5=some (.lst (bn ((List.range os.length).filter (bt x)))))(k:∀ l6 H',Ext H H'->H' l6=some (.lst (bn ((List.range os.length).filter λ i=>!bt x i)))->u De (sD r D a x (some (.ref fl)) (some (.ref l5)) (some (.ref l6)) o7 o8 o9 o10 o11 o12 o13 o14 o15) H'):aV (DY K) u De (sD r D a x (some (.ref fl)) (some (.ref l5)) o6 o7 o8 o9 o10 o11 o12 o13 o14 o15) H:=by
 have sz:=sizeLine_eq;have ln:(bn (List.range os.length)).length=os.length:=by unfold bn;rw [List.length_map,List.length_range]
 refine aG (te:=cO (aZ K (af 4)) 1 [5] (aP 0) (zT K) (af 0)) (i:=6) ⟨_,rfl,fl,rfl,⟨_,SqL.of hf⟩,λ D1 hD1=>?_⟩;refine f7 (a:=fl) (cap:=[some (.ref l5)]) (λ v=>!vC v (bn ((List.range os.length).filter (bt x)))) (by omega) hf hD1 ?_ ?_
 ·intro j v H' ev x' R q;unfold bn at ev;rw [List.getElem?_map] at ev;obtain⟨n,_,rfl⟩:=Option.map_eq_some_iff.mp ev;refine⟨_,rfl,_,rfl,l5,_,rfl,.inl (SqL.of (x' _ _ h5)),rfl,?_,_,rfl,q⟩;rw [List.all_eq_true];intro z hz;obtain⟨_,_,rfl⟩:=List.mem_map.mp hz;rfl
 ·intro H' x' hD;rw [iK (λ i=>!bt x i) (λ v=>!vC v (bn ((List.range os.length).filter (bt x)))) _ (λ i hi=>by
   show(!vC (.int (i:Nat)) _)=_;rw [qr]
   congr 1
   rw [Bool.eq_iff_iff,decide_eq_true_eq,List.mem_filter];exact⟨λ z=>z.2,λ z=>⟨hi,z⟩⟩)] at hD
  exact k D1 H' x' hD
theorem AZ (hf:H fl=some (.lst (bn (List.range os.length))))(lo:os.length<=20)(k:u De (sD r D a x (some (.ref fl)) o5 o6 (some (.int (2^os.length-1))) o8 o9 o10 o11 o12 o13 o14 o15) H):aV (FE K) u De (sD r D a x (some (.ref fl)) o5 o6 o7 o8 o9 o10 o11 o12 o13 o14 o15) H:=by
 have ln:(bn (List.range os.length)).length=os.length:=by unfold bn;rw [List.length_map,List.length_range]
 refine aG (te:=aB (ck λ i j=>.int (i-j)) (aB (rI oz λ i j=>.int (i*2^j.toNat)) (tC (.int 1)) (eV K 4)) (tC (.int 1))) (i:=7) ⟨_,rfl,fl,_,rfl,.inl (SqL.of hf),_,_,rfl,rfl,⟨by omega,by omega,by decide⟩,_,_,rfl,rfl,?_⟩
 rw [ln,Int.toNat_natCast,Int.one_mul];exact k
theorem pQ (n:Nat):(1:Int)<=2^n:=by
 have:(0:Int)<2^n:=Int.pow_pos (by decide)
 omega
theorem B5 {v:Int}(h:PreD C H r D a t zs xs os)(h5:H l5=some (.lst (bn ((List.range os.length).filter (bt x)))))(h6:H l6=some (.lst (bn ((List.range os.length).filter λ i=>!bt x i))))(ev:v=eG x (cr os))(k:u De (sD r D a x o4 (some (.ref l5)) (some (.ref l6)) o7 o8 (some (.int v)) o10 o11 o12 o13 o14 o15) H):aV Ew u De (sD r D a x o4 (some (.ref l5)) (some (.ref l6)) o7 o8 (some (.int v)) o10 o11 o12 o13 o14 o15) H:=by
 refine⟨_,rfl,v,rfl,_,rfl,cH ⟨_,rfl,_,rfl,_,rfl,_,rfl,a,xs,os,l5,l6,_,_,rfl,h.ha,jt h.ro,h5,h6,λ i hi=>List.mem_range.mp (List.mem_filter.mp hi).1,λ i hi=>List.mem_range.mp (List.mem_filter.mp hi).1,rfl,_,rfl,?_⟩⟩;have e:(((List.range os.length).filter (bt x)).map (λ i=>(((List.range os.length).filter λ i=>!bt x i).map λ j=>jN os i j).sum)).sum=v:=by
  rw [ev,sX,fu];refine bA λ i _=>?_;rw [fu]
 rw [decide_eq_true (by rw [e])]
 exact cH k
theorem Bb {v:Int}(h8:H l8=some (.lst ((cr os).map V.int)))(lo:os.length<=20)(x0:0<=x)(x1:x<2^os.length)(ev:v=eG x (cr os))(k:∀ H',Ext H H'->u De (sD r D a x o4 o5 o6 (some (.int (2^os.length-1))) (some (.ref l8)) (some (.int v)) o10 o11 o12 o13 o14 o15) H'):aV EV u De (sD r D a x o4 o5 o6 (some (.int (2^os.length-1))) (some (.ref l8)) (some (.int v)) o10 o11 o12 o13 o14 o15) H:=by
 have wl:=gY os;have pp:=pQ os.length;refine⟨_,rfl,_,rfl,_,rfl,_,_,rfl,rfl,l8,cr os,_,rfl,h8,by omega,by omega,by rw [wl];omega,λ H1 e1=>⟨_,rfl,_,_,rfl,rfl,rfl,_,rfl,?_⟩⟩
 have c1:eG (2^os.length-1-x) (cr os)=0-v:=by
  have z:=qI (ns:=cr os) x0 (by rw [wl];exact x1)
  rw [wl,nW] at z;rw [z,ev]
 rw [decide_eq_true (by rw [c1])]
 refine cH ⟨_,rfl,_,rfl,l8,cr os,_,rfl,e1 _ _ h8,by omega,by omega,by rw [wl];omega,λ H2 e2=>⟨rfl,_,rfl,?_⟩⟩
 have c2:eG (2^os.length-1) (cr os)=0:=by
  have z:=ul (ns:=cr os);rw [wl,nW] at z;exact z
 rw [decide_eq_true (by rw [c2])]
 exact cH (k H2 (e1.trans e2))
theorem A4 (h:PreD C H r D a t zs xs os)(x0:0<=x)(x1:x<2^os.length)(k:∀ o10 H',Ext H H'->u De (sD r D a x o4 o5 o6 o7 o8 o9 o10 o11 o12 o13 o14 o15) H'):aV (E7 C MC CU CP) u De (sD r D a x o4 o5 o6 o7 o8 o9 o10 o11 o12 o13 o14 o15) H:=by
 have sm:=Rl.sm h.ok;have lo:=h.lo;have lb:t.bl.length<=20:=by
  have:=congrArg List.length (fm h.ok h.fl);rw [List.length_map] at this;have:=sm.1;omega
 refine⟨_,rfl,D,zs,t.bl,rfl,h.hD,h.ra,lb,λ H1 e1=>⟨_,rfl,?_⟩⟩;have h1:=h.ext e1;cases al:(t.bl.map lc).all id with
 | false=>exact cH (k _ H1 e1)
 | true =>
  refine cW ?_;have al':(lS t).all id=true:=by rw [mT h.ok h.fl];exact al
  obtain⟨ns,ev,es⟩:=vf h.ok h.fl al';have en:=lQ h.ok h.fl h.fk al';refine aG (te:=iP C MC CU CP 3) (i:=10) (jX (by decide) rfl rfl h1 al' λ l H2 e2 hl=>?_)
  have h2:=h1.ext e2;have sl:(gM os).length=os.length:=List.length_mapIdx;refine⟨_,rfl,_,rfl,l,gM os,x,rfl,hl,by omega,x0,by rw [sl];exact x1,λ H3 e3=>?_⟩
  have h3:=h2.ext e3;refine⟨_,rfl,_,rfl,_,rfl,D,zs,t.bl,ns,a,xs,os,x,rfl,h3.hD,h3.ra,ev,by rw [es,h.fk],h3.ha,jt h3.ro,lo,rfl,_,rfl,?_⟩
  rw [decide_eq_true (by rw [va en])]
  exact cH (k _ H3 ((e1.trans e2).trans e3))
end
theorem lR (o:Int × Bool)(ho:o.2=true):∀(os:List (Int × Bool)),(os.map (·.2)).all id=true->(os.map λ p=>i8 o p).sum=((os.map (·.1)).countP (λ m=>decide (m<o.1)):Nat)-((os.map (·.1)).countP (λ m=>decide (m>o.1)):Nat)/\os.length=(os.map (·.1)).countP (λ m=>decide (m<o.1))+(os.map (·.1)).countP (λ m=>decide (m=o.1))+(os.map (·.1)).countP (λ m=>decide (m>o.1))
 | [],_=>⟨rfl,rfl⟩
 | p::os,h=>by
  rw [List.map_cons,List.all_cons,Bool.and_eq_true] at h;obtain⟨ih1,ih2⟩:=lR o ho os h.2;have hp:p.2=true:=h.1;have e:i8 o p=(if p.1<o.1 then 1 else 0)-(if p.1>o.1 then 1 else 0):=by
   show pL o.1 o.2 p.1 p.2=_;unfold pL;rw [ho,hp,Bool.true_and,Bool.true_and];by_cases h1:o.1>p.1
   ·rw [decide_eq_true h1,if_pos rfl,if_pos h1,if_neg (by omega)];rfl
   ·rw [decide_eq_false h1,if_neg (by decide),if_neg h1]
    by_cases h2:p.1>o.1
    ·rw [decide_eq_true h2,if_pos rfl,if_pos h2];rfl
    ·rw [decide_eq_false h2,if_neg (by decide),if_neg h2];rfl
  simp only [List.map_cons,List.sum_cons,List.countP_cons,List.length_cons,decide_eq_true_eq];rw [ih1,e];refine⟨?_,?_⟩
  ·by_cases h1:p.1<o.1
   ·rw [if_pos h1,if_neg (by omega),if_pos h1,if_neg (by omega)];omega
   ·by_cases h2:p.1>o.1
    ·rw [if_neg h1,if_pos h2,if_neg h1,if_pos h2];omega
    ·rw [if_neg h1,if_neg h2,if_neg h1,if_neg h2];omega
  ·rcases Int.lt_trichotomy p.1 o.1 with h1 | h1 | h1
   ·rw [if_pos h1,if_neg (by omega),if_neg (by omega)];omega
   ·rw [if_neg (by omega),if_pos h1,if_neg (by omega)];omega
   ·rw [if_neg (by omega),if_neg (by omega),if_pos h1];omega
theorem rh {os:List (Int × Bool)}(al:(os.map (·.2)).all id=true):(os.map λ o=>rk (os.map (·.1)) o.1)=(cr os).map λ s:Int=>s+((os.length:Nat):Int)+1:=by
 unfold cr;rw [List.map_map];apply List.map_congr_left;intro o ho;have so:o.2=true:=List.all_eq_true.mp al o.2 (List.mem_map.mpr ⟨o,ho,rfl⟩);obtain⟨h1,h2⟩:=lR o so os al;show rk (os.map (·.1)) o.1=(os.map λ p=>i8 o p).sum+(os.length:Nat)+1;unfold rk;rw [h1];omega
section
variable {P:Program}{w:World}{K:Frag}{mg:Str->Option Value}{base:Heap}{C MC:Nat->Addr}{CU CP:Addr}{De:cw}{u:TS}{H:Hp}{r:V}{D a fl l5 l6 l8 l11 l12:Addr}{x:Int}{t:Rl}{zs xs:List V}{os:List (Int × Bool)}{o4 o5 o6 o7 o8 o9 o10 o11 o12 o13 o14 o15:Option V}
theorem BG (h:PreD C H r D a t zs xs os)(qt:∀ H',Ext H H'->De.rt (.bl true) H')(k:∀ H',Ext H H'->(os.map (·.2)).all id=true->u De (sD r D a x o4 o5 o6 o7 o8 o9 o10 o11 o12 o13 o14 o15) H'):aV (D5 K) u De (sD r D a x o4 o5 o6 o7 o8 o9 o10 o11 o12 o13 o14 o15) H:=by
 have sz:=sizeLine_eq;have lo:=h.lo;have lx:=h.lx;have oc:=jt h.ro;refine⟨_,rfl,a,rfl,⟨_,SqL.of h.ha⟩,λ D1 hD1=>?_⟩;refine bz (a:=a) (xs:=xs) (cap:=[]) (λ i ys H'=>Ext H H'/\ys=((os.take i).map (·.2)).map V.bl) (by omega) ⟨Ext.new hD1,rfl⟩ (λ i ys H' pv=>SqL.of (pv.1 _ _ h.ha)) ?_ ?_
 ·rintro i y ys H' ey ly hDD ⟨x',eys⟩ oss los R kk;obtain⟨q0,q1,rfl⟩:∃ o0 o1,oss=[o0,o1]:=by
   match oss,los with
   | [o0,o1],_=>exact⟨o0,o1,rfl⟩
  have li:i<os.length:=by rw [<- lx];exact(List.getElem?_eq_some_iff.mp ey).1
  have eo:=List.getElem?_eq_getElem li;obtain⟨p,rfl,hp⟩:=oc.2 i y _ ey eo;refine⟨p,_,rfl,SqT.of (x' _ _ hp),rfl,_,_,rfl,_,_,rfl,rfl,⟨[some (.int os[i].1),some (.bl os[i].2)],rfl,rfl⟩,_,rfl,?_⟩;refine kk _ H' hDD ⟨aO _ x' hD1,?_⟩;rw [aA eo,List.map_append,List.map_append,<- eys];rfl
 ·rintro ys H' ly hDD ⟨x',eys⟩;rw [lx,List.take_length] at eys;rw [eys] at hDD;refine⟨D1,os.map (·.2),rfl,SqL.of hDD,_,rfl,?_⟩;cases al:(os.map (·.2)).all id with
  | true=>exact cH (k H' x' al)
  | false=>exact cW (qt H' x')
theorem zb (lo:os.length<=20)(al:(os.map (·.2)).all id=true)(hf:H fl=some (.lst (bn (List.range os.length))))(h8:H l8=some (.lst ((cr os).map V.int)))(h11:H l11=some (.lst ((os.map λ o=>rk (os.map (·.1)) o.1).map V.int)))(plI:∀ ns:List Int,aQ (mE ns)=true)(dpI:∀ ns:List Int,(mE ns).depth<=20)
  (k:∀ H',Ext H H'->u De (sD r D a x (some (.ref fl)) o5 o6 o7 (some (.ref l8)) o9 o10 (some (.ref l11)) o12 o13 o14 o15) H'):aV (zQ K) u De (sD r D a x (some (.ref fl)) o5 o6 o7 (some (.ref l8)) o9 o10 (some (.ref l11)) o12 o13 o14 o15) H:=by
 have sz:=sizeLine_eq;have wl:=gY os;have ln:(bn (List.range os.length)).length=os.length:=by unfold bn;rw [List.length_map,List.length_range]
 refine⟨_,rfl,_,rfl,l8,rfl,⟨_,SqL.of h8⟩,λ D1 hD1=>?_⟩;refine bz (a:=l8) (xs:=(cr os).map V.int) (cap:=[some (.ref fl)]) (λ i ys H'=>Ext H H'/\ys=(((cr os).take i).map λ s:Int=>s+((os.length:Nat):Int)+1).map V.int) (by rw [List.length_map];omega) ⟨Ext.new hD1,rfl⟩ (λ i ys H' pv=>SqL.of (pv.1 _ _ h8)) ?_ ?_
 ·rintro i y ys H' ey ly hDD ⟨x',eys⟩ oss los R kk;obtain⟨q0,rfl⟩:∃ o0,oss=[o0]:=by
   match oss,los with
   | [o0],_=>exact⟨o0,rfl⟩
  rw [List.getElem?_map] at ey;obtain⟨n,en,rfl⟩:=Option.map_eq_some_iff.mp ey;refine⟨⟨[_],rfl,rfl⟩,_,rfl,_,rfl,fl,_,rfl,.inl (SqL.of (x' _ _ hf)),_,_,rfl,rfl,_,_,rfl,rfl,?_⟩;refine kk _ H' hDD ⟨aO _ x' hD1,?_⟩;rw [aA en,List.map_append,List.map_append,<- eys,ln];rfl
 ·rintro ys H' ly hDD ⟨x',eys⟩;rw [List.length_map,List.take_length,<- rh al] at eys;rw [eys] at hDD;refine⟨mE _,mE _,.lst (x' _ _ h11) (cI _ _),.lst hDD (cI _ _),plI _,plI _,dpI _,_,rfl,?_⟩;rw [lp (plI _)];exact cH (k H' x')
theorem xD (h:PreD C H r D a t zs xs os)(k:∀ l12 H',Ext H H'->H' l12=some (.lst ((os.map (·.1)).map V.int))->u De (sD r D a x o4 o5 o6 o7 o8 o9 o10 o11 (some (.ref l12)) o13 o14 o15) H'):aV (Ac K) u De (sD r D a x o4 o5 o6 o7 o8 o9 o10 o11 o12 o13 o14 o15) H :=
 aG (te:=c7 (aZ K (af 2)) 2 [] (lW K) (af 0)) (i:=12) (jR (σ:=sD r D a x o4 o5 o6 o7 o8 o9 o10 o11 o12 o13 o14 o15) (i:=2) rfl h.ha (jt h.ro) h.lo λ l H' x' nl hl=>k l H' x' hl)
theorem xE (h:PreD C H r D a t zs xs os)(al:(os.map (·.2)).all id=true)(x0:0<=x)(x1:x<2^os.length)(h5:H l5=some (.lst (bn ((List.range os.length).filter (bt x)))))(h12:H l12=some (.lst ((os.map (·.1)).map V.int)))(k:∀ H',Ext H H'->u De (sD r D a x o4 (some (.ref l5)) o6 o7 o8 o9 o10 o11 (some (.ref l12)) o13 o14 o15) H'):aV (xH K C MC CU CP) u De (sD r D a x o4 (some (.ref l5)) o6 o7 o8 o9 o10 o11 (some (.ref l12)) o13 o14 o15) H:=by
 have sz:=sizeLine_eq;have lo:=h.lo;have lm:(os.map (·.1)).length=os.length:=List.length_map _;refine jX (k:=0) (σ:=sD r D a x o4 (some (.ref l5)) o6 o7 o8 o9 o10 o11 (some (.ref l12)) o13 o14 o15) (by decide) rfl rfl h al λ l H1 e1 hl=>?_
 have hl':H1 l=some (.lst ((os.map (·.1)).map V.int)):=hl;refine⟨_,rfl,l,os.map (·.1),x,rfl,hl',by omega,x0,by rw [lm];exact x1,λ H2 e2=>?_⟩
 have e12:=e1.trans e2;refine⟨_,rfl,l5,rfl,⟨_,SqL.of (e12 _ _ h5)⟩,λ D1 hD1=>?_⟩;generalize hon:(List.range os.length).filter (bt x)=on at h5;have onl:∀ i∈on,i<os.length:=λ i hi=>by rw [<- hon] at hi;exact List.mem_range.mp (List.mem_filter.mp hi).1
 have len:on.length<=20:=by
  rw [<- hon];have:=List.length_filter_le (bt x) (List.range os.length);rw [List.length_range] at this;omega
 refine bz (a:=l5) (xs:=bn on) (cap:=[some (.ref l12)]) (λ i ys H'=>Ext H2 H'/\ys=((on.take i).map λ j=>(os.map (·.1)).getD j 0).map V.int) (by unfold bn;rw [List.length_map];omega) ⟨Ext.new hD1,rfl⟩ (λ i ys H' pv=>SqL.of (pv.1 _ _ (e12 _ _ h5))) ?_ ?_
 ·rintro i y ys H' ey ly hDD ⟨x',eys⟩ oss los R kk;obtain⟨q0,rfl⟩:∃ o0,oss=[o0]:=by
   match oss,los with
   | [o0],_=>exact⟨o0,rfl⟩
  unfold bn at ey;rw [List.getElem?_map] at ey;obtain⟨n,en,rfl⟩:=Option.map_eq_some_iff.mp ey;have ln:=onl n (List.mem_of_getElem? en);refine⟨⟨[_],rfl,rfl⟩,_,rfl,_,rfl,l12,_,_,.int ((os.map (·.1)).getD n 0),rfl,rfl,SqL.of (x' _ _ (e12 _ _ h12)),dL ?_,?_⟩
  ·rw [List.getElem?_map,List.getD_eq_getElem?_getD,List.getElem?_eq_getElem (by rw [lm];exact ln)];rfl
  refine kk _ H' hDD ⟨aO _ x' hD1,?_⟩;rw [aA en,List.map_append,List.map_append,<- eys];rfl
 ·rintro ys H' ly hDD ⟨x',eys⟩;rw [show(bn on).length=on.length from List.length_map _,List.take_length] at eys;rw [eys] at hDD;refine⟨D1,_,rfl,SqL.of hDD,rfl,_,rfl,?_⟩;have e:(on.map λ j=>(os.map (·.1)).getD j 0).sum=eG x (os.map (·.1)):=by
   rw [<- hon,fu];unfold eG;rw [lm]
  rw [decide_eq_true (by rw [e])]
  exact cH (k H' (e12.trans x'))
def r9 (os:List (Int × Bool))(n:Nat):Int:=2*((os.map (·.1)).countP (λ m=>decide (m<(os.map (·.1)).getD n 0)):Nat)+((os.map (·.1)).countP (λ m=>decide (m=(os.map (·.1)).getD n 0)):Nat)
def FG (n:Int):V->Bool
 | .int m=>decide (m<n)
 | _=>false
theorem wJ {on:List Nat}(lo:os.length<=20)(onl:∀ i∈on,i<os.length)(ol:on.length<=20)(h5:H l5=some (.lst (bn on)))(h12:H l12=some (.lst ((os.map (·.1)).map V.int)))(k:∀ o14 o15 H',Ext H H'->u De (sD r D a x o4 (some (.ref l5)) o6 o7 o8 o9 o10 o11 (some (.ref l12)) (some (.int ((on.length:Nat)+(on.map (r9 os)).sum))) o14 o15) H'):aV (xR K) u De (sD r D a x o4 (some (.ref l5)) o6 o7 o8 o9 o10 o11 (some (.ref l12)) (some (.int (on.length:Nat))) o14 o15) H:=by
 have sz:=sizeLine_eq;have lm:(os.map (·.1)).length=os.length:=List.length_map _;refine⟨_,rfl,l5,rfl,⟨_,SqL.of h5⟩,dw (xs:=bn on) (λ i σ H'=>∃ o14 o15,σ = sD r D a x o4 (some (.ref l5)) o6 o7 o8 o9 o10 o11 (some (.ref l12)) (some (.int ((on.length:Nat)+((on.take i).map (r9 os)).sum))) o14 o15/\Ext H H') ⟨_,_,by rw [List.take_zero];show _=sD r D a x o4 (some (.ref l5)) o6 o7 o8 o9 o10 o11 (some (.ref l12)) (some (.int ((on.length:Nat)+0))) _ _;rw [Int.add_zero],Ext.refl _⟩ ?_ ?_ ?_⟩
 ·rintro i σ H' _ ⟨o14,o15,rfl,x'⟩;exact SqL.of (x' _ _ h5)
 ·rintro i y σ H' ey ⟨o14,o15,rfl,x'⟩;unfold bn at ey;rw [List.getElem?_map] at ey;obtain⟨n,en,rfl⟩:=Option.map_eq_some_iff.mp ey;have ln:=onl n (List.mem_of_getElem? en);have eat:((os.map (·.1)).map V.int)[n]?=some (.int ((os.map (·.1)).getD n 0)):=by
   rw [List.getElem?_map,List.getD_eq_getElem?_getD,List.getElem?_eq_getElem (by rw [lm];exact ln)];rfl
  show vl K _ (sD r D a x o4 (some (.ref l5)) o6 o7 o8 o9 o10 o11 (some (.ref l12)) (some (.int ((on.length:Nat)+((on.take i).map (r9 os)).sum))) (some (.int (n:Nat))) o15) H';refine aG (te:=cO (aZ K (af 12)) 1 [12,14] (aP 0) (rB K) (af 0)) (i:=15) ⟨_,rfl,l12,rfl,⟨_,SqL.of (x' _ _ h12)⟩,λ D1 hD1=>?_⟩;refine f7 (a:=l12) (cap:=[some (.ref l12),some (.int (n:Nat))]) (FG ((os.map (·.1)).getD n 0)) (by rw [List.length_map,lm];omega) (x' _ _ h12) hD1 ?_ ?_
  ·intro j v H2 ev x2 R q;rw [List.getElem?_map] at ev;obtain⟨m,_,rfl⟩:=Option.map_eq_some_iff.mp ev;exact⟨_,rfl,_,rfl,_,rfl,l12,_,_,_,rfl,rfl,SqL.of (x2 _ _ (x' _ _ h12)),dL eat,_,_,rfl,rfl,_,rfl,q⟩
  ·intro H2 x2 hD;rw [cS (λ m=>decide (m<(os.map (·.1)).getD n 0)) (FG ((os.map (·.1)).getD n 0)) (λ _=>rfl)] at hD;have h2:=x2 _ _ (x' _ _ h12);refine⟨_,rfl,_,rfl,D1,_,rfl,.inl (SqL.of hD),_,_,rfl,rfl,.inl ⟨by decide,by decide⟩,_,_,rfl,rfl,_,rfl,.inl ⟨rfl,_,SqL.of h2⟩,_,rfl,_,rfl,l12,_,_,_,rfl,rfl,SqL.of h2,dL eat,l12,_,_,rfl,rfl,SqL.of h2,by rw [List.all_eq_true];intro z hz;obtain⟨_,_,rfl⟩:=List.mem_map.mp hz;rfl,rfl,_,_,rfl,rfl,some (.int (n:Nat)),some (.ref D1),?_,x'.trans x2⟩
   have e:(((on.take i).map (r9 os)).sum+r9 os n)=((on.take (i+1)).map (r9 os)).sum:=by
    rw [aA en,List.map_append,List.sum_append];simp
   rw [<- e];unfold r9;rw [kF,List.length_map,<- List.countP_eq_length_filter,<- Int.add_assoc,<- Int.add_assoc];rfl
 ·rintro σ H' ⟨o14,o15,rfl,x'⟩;rw [show(bn on).length=on.length from List.length_map _,List.take_length];exact k _ _ H' x'
theorem ve (on:List Nat)(f:Nat->Int):((on.length:Nat):Int)+(on.map f).sum=(on.map λ i=>1+f i).sum:=by
 induction on with
 | nil=>rfl
 | cons i on ih =>
  simp only [List.length_cons,List.map_cons,List.sum_cons];rw [<- ih];omega
theorem qN (os:List (Int × Bool))(x:Int):eG x (os.map λ o=>rk (os.map (·.1)) o.1)=((((List.range os.length).filter (bt x)).length:Nat):Int)+(((List.range os.length).filter (bt x)).map (r9 os)).sum:=by
 rw [ve,fu];unfold eG;rw [List.length_map];refine bA λ i hi=>?_;cases bt x i with
 | false=>rfl
 | true =>
  rw [if_pos rfl,if_pos rfl,List.getD_eq_getElem?_getD,List.getElem?_map,List.getElem?_eq_getElem hi];show rk (os.map (·.1)) os[i].1=1+r9 os i;have e:(os.map (·.1)).getD i 0=os[i].1:=by
   rw [List.getD_eq_getElem?_getD,List.getElem?_map,List.getElem?_eq_getElem hi];rfl
  unfold rk r9;rw [e];omega
end
theorem Cn {k:Nat}:∀{ds:List PyData},(∀ d∈ds,d.depth<=k)->PyData.depthAll ds<=k
 | [],_=>by simp [PyData.depthAll]
 | d::ds,h=>by
  have h1:=h d (List.mem_cons_self ..);have h2:=Cn λ x hx=>h x (List.mem_cons_of_mem _ hx);simp only [PyData.depthAll];omega
theorem wU (ns:List Int):(mE ns).depth<=20:=by
 have:PyData.depthAll (ns.map PyData.int)<=0:=Cn λ d hd=>by
  obtain⟨o,_,rfl⟩:=List.mem_map.mp hd;simp [PyData.depth]
 simp only [mE,PyData.depth];omega
section
variable {P:Program}{w:World}{K:Frag}{mg:Str->Option Value}{base:Heap}{C MC:Nat->Addr}{CU CP f f0 f1 f2 f3 a1 a2 a3 a4 a5:Addr}{fd e0 e1 e2 e3 d1 d2 d3 d4 d5:FuncData}
def xV (C:Nat->Addr):Sp:=λ vs H Q _=>∃ r D a x t zs xs os,vs=[r,.ref D,.ref a,.int x]/\PreD C H r D a t zs xs os/\0<=x/\x<2^os.length/\∀ H',Ext H H'->Q (.bl true) H'
theorem xT {De:cw}{H:Hp}{r:V}{D a:Addr}{x:Int}{t:Rl}{zs xs:List V}{os:List (Int × Bool)}{o4 o5 o6 o7 o8 o9 o10 o11 o12 o13 o14 o15:Option V}(h:PreD C H r D a t zs xs os)(x0:0<=x)(x1:x<2^os.length)(q:∀ H',Ext H H'->De.rt (.bl true) H') :
  Bx (FO K C MC CU CP De (sD r D a x o4 o5 o6 o7 o8 o9 o10 o11 o12 o13 o14 o15) H):=by
 constructor;have lo:=h.lo;have wl:=gY os;refine Bj h λ fl H0 e0 hf0=>?_;refine AD lo hf0 λ l5 H1 e1 h51=>?_;refine Au lo (e1 _ _ hf0) h51 λ l6 H2 e2 h62=>?_;have hf2:=e2 _ _ (e1 _ _ hf0);refine AZ hf2 lo ?_;have h2:=((h.ext e0).ext e1).ext e2;refine aG (te:=iP C MC CU CP 2) (i:=8) (jX (σ:=sD r D a x (some (.ref fl)) (some (.ref l5)) (some (.ref l6)) (some (.int (2^os.length-1))) o8 o9 o10 o11 o12 o13 o14 o15) (by decide) rfl rfl h2 rfl λ l8 H3 e3 hl8=>?_)
 have hl8':H3 l8=some (.lst ((cr os).map V.int)):=hl8;refine aG (te:=lZ 8 (af 3)) (i:=9) ⟨_,rfl,_,rfl,l8,cr os,x,rfl,hl8',by omega,x0,by rw [wl];exact x1,λ H4 e4=>?_⟩
 have e34:=e3.trans e4;have h4:=h2.ext e34;refine B5 h4 (e34 _ _ (e2 _ _ h51)) (e34 _ _ h62) rfl ?_;refine Bb (e4 _ _ hl8') lo x0 x1 rfl λ H5 e5=>?_;refine A4 (h4.ext e5) x0 x1 λ o10 H6 e6=>?_;have e26:=(e34.trans e5).trans e6;have h6:=h2.ext e26;have e06:Ext H H6:=((e0.trans e1).trans e2).trans e26;refine BG h6 (λ H' e'=>q H' (e06.trans e')) λ H7 e7 al=>?_;have h7:=h6.ext e7;refine aG (te:=iP C MC CU CP 1) (i:=11) (jX (σ:=sD r D a x (some (.ref fl)) (some (.ref l5)) (some (.ref l6)) (some (.int (2^os.length-1))) (some (.ref l8)) (some (.int (eG x (cr os)))) o10 o11 o12 o13 o14 o15) (by decide) rfl rfl h7 al λ l11 H8 e8 hl11=>?_)
 have hl11':H8 l11=some (.lst ((os.map λ o=>rk (os.map (·.1)) o.1).map V.int)):=hl11;have e28:=(e26.trans e7).trans e8;have e38:Ext H3 H8:=(((e4.trans e5).trans e6).trans e7).trans e8;refine zb lo al (e28 _ _ hf2) (e38 _ _ hl8') hl11' (λ ns=>iw ns) wU λ H9 e9=>?_;have h9:=(h7.ext e8).ext e9;refine xD h9 λ l12 H10 e10 hl12=>?_;have h10:=h9.ext e10;have e210:=(e28.trans e9).trans e10;refine xE h10 al x0 x1 (e210 _ _ (e2 _ _ h51)) hl12 λ H11 e11=>?_;have e211:=e210.trans e11;have h5f:=e211 _ _ (e2 _ _ h51);generalize hon:(List.range os.length).filter (bt x)=on at h5f;have onl:∀ i∈on,i<os.length:=λ i hi=>by rw [<- hon] at hi;exact List.mem_range.mp (List.mem_filter.mp hi).1
 have ol:on.length<=20:=by
  rw [<- hon];have:=List.length_filter_le (bt x) (List.range os.length);rw [List.length_range] at this;omega
 refine aG (te:=eV K 5) (i:=13) ⟨_,rfl,l5,_,rfl,.inl (SqL.of h5f),?_⟩;rw [show(bn on).length=on.length from List.length_map _];refine wJ lo onl ol h5f (e11 _ _ hl12) λ o14 o15 H12 e12=>?_;have rl:(os.map λ o=>rk (os.map (·.1)) o.1).length=os.length:=List.length_map _;have e812:Ext H8 H12:=((e9.trans e10).trans e11).trans e12;refine⟨_,rfl,_,rfl,l11,_,x,rfl,e812 _ _ hl11',by omega,x0,by rw [rl];exact x1,λ H13 e13=>⟨_,rfl,rfl,?_⟩⟩
 rw [qN,hon,decide_eq_true rfl];exact q H13 ((e06.trans e7).trans (e8.trans (e812.trans e13)))
theorem B7 (F:Fun K "_law_dealing_right" "_law_dealing_right" gj f fd)(D:Dd P w K mg base C MC CU CP f0 f1 f2 f3 e0 e1 e2 e3 a1 a2 a3 a4 a5 d1 d2 d3 d4 d5):FnOk P w K mg base aq 10 f fd ["_law_rule_here","_law_blocks","_law_outcomes_here","_law_dealing"] (xV C):=by
 refine F.ok scDR (λ vs H Q E h=>?_) (λ cdv A outer s H vs Q E hr h=>?_)
 ·obtain⟨_,_,_,_,_,_,_,_,rfl,_⟩:=h;rfl
 obtain⟨r,Dd,a,x,t,zs,xs,os,rfl,pre,x0,x1,q⟩:=h;exact gS (zU D hr) (xT pre x0 x1 q)
structure Dw (P:Program)(w:World)(K:Frag)(mg:Str->Option Value)(base:Heap)(C:Nat->Addr)(a1 a2 a3 a4 a5:Addr)(d1 d2 d3 d4 d5:FuncData):Prop where
 tk:Df P w K mg base aq 1 "_law_take" ["_law_script","_law_pen","_law_many"] (dH K) a1 d1
 rl:Df P w K mg base aq 9 "_law_rule" ["_law_script","_law_pen","_law_most"] (yh K C) a2 d2
 oc:Df P w K mg base aq 2 "_law_outcomes" ["_law_script","_law_pen","_law_folk_here","_law_sure"] (tV K) a3 d3
 fo:Df P w K mg base aq 1 "_law_folk" ["_law_blocks"] uU a4 d4
 dr:Df P w K mg base aq 10 "_law_dealing_right" ["_law_rule_here","_law_blocks","_law_outcomes_here","_law_dealing"] (xV C) a5 d5
 mr:mg "range" = none
 mt:mg "int" = none
abbrev kZ:Stmt:=bR 78
abbrev ED:List Str:=["_law_script","_law_pen","_law_k","_law_rule_here","_law_blocks","_law_folk_here","_law_outcomes_here","_law_dealings","_law_dealing"]
theorem scLw:ad ED ["_law_script"] (aa kZ):=aJ
abbrev Bw:Scope:={ kind:=.function,names:=[(".0",.local),("_law_lap",.local),("_law_take",.globalImplicit),("_law_folk_here",.free),("_law_pen",.free),("_law_script",.free)],isGenerator:=false,isCoroutine:=false }
theorem CB:((["_law_lap"]:List Str)++(["_law_folk_here","_law_pen","_law_script"]:List Str)).Nodup:=by decide +kernel
def CC (K:Frag):TE:=aB (cE K) (cL (am (tC (.int 8)) (am (tC (.int 20)) aL))) (gU (λ xs H Q=>(∃ i,xs=[.int i]/\Q (.int i) H)\/∃ k,xs=[.bl k]/\Q (.int (if k then 1 else 0)) H) (am (aB nF (fj K (tC (.int 6))) (tC (.int 0))) aL))
def FC (i:Nat):TE:=aB (rI oz λ i j=>.int (i*2^j.toNat)) (tC (.int 1)) (af i)
def FN (K:Frag)(C:Nat->Addr):TS:=cj (fY (yh K C) [] E0 (am (af 0) (am (af 1) (am (CC K) aL)))) (qH K 2 (eY (aP 3) (eY (aP 4) oK)))
def F4:TS:=cj (fY uU [] E0 (am (af 4) aL)) (aP 5)
def Eh (K:Frag):TS:=cj (fY (tV K) [] E0 (am (af 0) (am (af 1) (am (af 5) (am (aB nF (fj K (tC (.int 2))) (tC (.int 0))) aL))))) (aP 6)
def p3 (K:Frag):TE:=fY (dH K) [] E0 (am (af 3) (am (af 2) (am (FC 1) aL)))
def Az (K:Frag):TS:=cj (aB zN (c7 (jz (am (tC (.int 6)) aL)) 1 [5,1,0] (aP 0) (p3 K)) (cL (am (tC (.int 0)) (am (aB (ck λ i j=>.int (i-j)) (FC 5) (tC (.int 1))) aL)))) (aP 7)
def DP (K:Frag)(C:Nat->Addr):TS:=iQ (aZ K (af 7)) (aP 8) (fc (sx (tB (fY (xV C) [] E0 (am (af 3) (am (af 4) (am (af 6) (am (af 8) aL))))))) (cX (tC (.bl false))) cp)
def C6 (K:Frag)(C:Nat->Addr):TS:=aV (cj (qL K (am (tC (.int 0)) (am (tC (.int 0)) (am (tC (.int 7)) aL)))) (aP 1)) (aV (iQ (jz (am (tC (.int 2)) aL)) (aP 2) (aV (FN K C) (aV F4 (aV (Eh K) (aV (Az K) (DP K C)))))) (cX (tC (.bl true))))
section
variable {cdv:Value}{A:Around}{outer:List Env}{s:Shared}{H:Hp}{E:XK}(D:Dw P w K mg base C a1 a2 a3 a4 a5 d1 d2 d3 d4 d5)(hr:pJ 10 "law" kZ A s f cdv)
theorem xS:aU (aH aq P w K mg base ED "law" (aa kZ) f cdv A outer s H E).nox Bw [("_law_script",s.heap.objs.size+1),("_law_pen",s.heap.objs.size+2),("_law_folk_here",s.heap.objs.size+3)] ["_law_lap"] ["_law_folk_here","_law_pen","_law_script"] [5,1,0] :=
 dE (M:=["_law_script","_law_pen","_law_folk_here"]) (L:=[(".0",.local),("_law_lap",.local),("_law_take",.globalImplicit),("_law_folk_here",.cell),("_law_pen",.cell),("_law_script",.cell)]) rfl rfl (by decide +kernel) (by decide +kernel) (by decide +kernel) rfl rfl rfl (by decide +kernel) (by decide +kernel) rfl rfl rfl
include D hr
theorem uZ:Bx (PSs (aH aq P w K mg base ED "law" (aa kZ) f cdv A outer s H E).nox (ax kZ) (C6 K C)):=by
 have nd:=scLw.nd;have hr1:Room 1 _:=hr.mono (by decide)
 have hr2:Room 2 _:=hr.mono (by decide)
 have hr9:Room 9 _:=hr.mono (by decide)
 exact cQ (aW (i:=1) nd rfl (Or.inr rfl) ⟨tG (ac az (ac az (ac az ao)))⟩)
  (cQ ⟨cJ PassesOwn.never rfl (fF rfl D.mr (ac az ao)) (bU (i:=2) nd rfl (Or.inl rfl))
   (bZ (fQ (bK D.rl.G hr9 rfl D.rl.m D.rl.kp D.rl.b .nil ah (ac (pv 0) (ac (pv 1) (ac (c8 fU (dh (ac az (ac az ao))) (aM gE rfl D.mt PyProof.Rows.boot_int (ac (bY cT (bK D.tk.G hr1 rfl D.tk.m D.tk.kp D.tk.b .nil ah (ac (pv 0) (ac (pv 1) (ac az ao)))) az (au _)) ao))) ao)))) (bI rfl (dX (bU (i:=3) nd rfl (Or.inl rfl)) (dX (bU (i:=4) nd rfl (Or.inl rfl)) ba))))
   (bZ (gW (i:=5) nd rfl (Or.inr rfl) (bK D.fo.G hr1 rfl D.fo.m D.fo.kp D.fo.b .nil ah (ac (pv 4) ao)))
   (bZ (gW (i:=6) nd rfl (Or.inl rfl) (bK D.oc.G hr2 rfl D.oc.m D.oc.kp D.oc.b .nil ah (ac (pv 0) (ac (pv 1) (ac (pv 5) (ac (bY cT (bK D.tk.G hr1 rfl D.tk.m D.tk.kp D.tk.b .nil ah (ac (pv 0) (ac (pv 1) (ac az ao)))) az (au _)) ao))))))
   (bZ (gW (i:=7) nd rfl (Or.inl rfl) (aj xz (bT (te:=p3 K) (g:=aP 0) rfl xS (fF rfl D.mr (ac az ao)) (λ s H C fp=>by exact bU (i:=0) CB rfl (.inl rfl)) (λ s H C fp=>by exact bK D.tk.G hr1 rfl D.tk.m D.tk.kp D.tk.b .nil ah (ac (pv 3) (ac (pv 2) (ac (aj jV az (pv 1)) ao))))) (dh (ac az (ac (aj eJ (aj jV az (pv 5)) az) ao)))))
   (bc (cJ PassesOwn.never rfl (aE (pv 7)) (bU (i:=8) nd rfl (Or.inl rfl)) (bc (bB (cg (bw (bK D.dr.G hr rfl D.dr.m D.dr.kp D.dr.b .nil ah (ac (pv 3) (ac (pv 4) (ac (pv 6) (ac (pv 8) ao))))))) (bc (cZ rY)) gz))))))))⟩
  (aY ⟨cZ rY⟩))
end
end
section
variable {P:Program}{w:World}{K:Frag}{mg:Str->Option Value}{base:Heap}{C:Nat->Addr}{De:cw}{u:TS}{H:Hp}{sA p:Addr}{ns:List Int}{kk:V}{o3 o4 o5 o6 o7 o8:Option V}
theorem yS {σ:St}{R:VK}(sc:Sc K H sA p ns)(s0:σ[0]?=some (some (.ref sA)))(s1:σ[1]?=some (some (.ref p)))(k:∀ m H',1<=m->m<=20->Sc K H' sA p ns->Ext (wo H p) (wo H' p)->R (.int m) H'):CC K σ H R:=by
 refine⟨by show 2<=sizeLine;decide,λ l0 h0=>?_⟩
 have x0:=Ext.new (o:=.lst [V.int 8,.int 20]) h0;have g0:ae H l0 (.lst [V.int 8,.int 20]) l0=some (.lst [V.int 8,.int 20]):=aR;have n0:=sc.bx.ne h0;have sc0:=sc.ext x0;show fj K (tC (.int 6)) _ (ae H l0 (.lst [V.int 8,.int 20])) _;generalize ae H l0 (.lst [V.int 8,.int 20])=H0 at x0 g0 sc0 ⊢;refine bv sc0 s0 s1 (λ R r=>r) (by decide) (by decide) λ z H1 z0 z6 sc1 k1=>⟨rfl,.inr ⟨_,rfl,?_⟩⟩
 have g1:=k1 _ _ g0 n0;have xa:Ext (wo H p) (wo H1 p):=(bq x0 p).trans (aI k1);by_cases e:z=0
 ·rw [decide_eq_true (by rw [e])]
  exact⟨l0,_,1,.int 20,rfl,rfl,SqL.of g1,dL (j:=1) rfl,k 20 H1 (by decide) (by decide) sc1 xa⟩
 ·rw [decide_eq_false (λ q=>e (V.int.inj q))];exact⟨l0,_,0,.int 8,rfl,rfl,SqL.of g1,dL (j:=0) rfl,k 8 H1 (by decide) (by decide) sc1 xa⟩
theorem qD {n:Nat}(h:n<=20):(2:Int)^n<1073741824:=by
 have:∀ k:Nat,k<=20->(2:Int)^k<1073741824:=by decide
 exact this n h
theorem CD {n:Nat}(sc:Sc K H sA p ns)(n20:n<=20)(k:∀ dl (is:List Int) H',Sc K H' sA p ns->Ext (wo H p) (wo H' p)->H' dl=some (.lst (is.map V.int))->is.length<=8->(∀ i∈is,0<=i/\i<2^n)->u De [some (.ref sA),some (.ref p),some kk,o3,o4,some (.int (n:Nat)),o6,some (.ref dl),o8] H') :
  aV (Az K) u De [some (.ref sA),some (.ref p),some kk,o3,o4,some (.int (n:Nat)),o6,o7,o8] H:=by
 have sz:=sizeLine_eq;have pp:=pQ n;have ps:=qD n20;refine aG (te:=aB zN (c7 (jz (am (tC (.int 6)) aL)) 1 [5,1,0] (aP 0) (p3 K)) (cL (am (tC (.int 0)) (am (aB (ck λ i j=>.int (i-j)) (FC 5) (tC (.int 1))) aL)))) (i:=7) ?_;refine⟨6,rfl,by decide,by decide,λ D hD=>?_⟩
 have nD:=sc.bx.ne hD;have woD:wo H p D=none:=by
  cases e:wo H p D with
  | none=>rfl
  | some o=>have:=ak _ _ _ _ e;rw [hD] at this;cases this
 refine jr (lo:=0) (n:=6) (cap:=[some (.int (n:Nat)),some (.ref p),some (.ref sA)]) (λ i ys H'=>Sc K H' sA p ns/\Ext (wo H p) (wo H' p)/\∃ is:List Int,ys=is.map V.int/\∀ i∈is,0<=i/\i<2^n) (by omega) ?_ ?_ ?_
 ·have x1:=Ext.new (o:=.lst []) hD;exact⟨sc.ext x1,bq x1 p,[],rfl,λ i h=>nomatch h⟩
 ·rintro i ys H' hi ly hDD ⟨sc',x',is,rfl,good⟩ os los R kk';obtain⟨o0,rfl⟩:∃ o0,os=[o0]:=by
   match os,los with
   | [o0],_=>exact⟨o0,rfl⟩
  refine⟨⟨[_],rfl,rfl⟩,_,rfl,_,rfl,_,rfl,_,_,rfl,rfl,⟨by omega,by omega,by decide⟩,?_⟩
  refine⟨sA,ns,p,2^n,by show [V.ref sA,V.ref p,V.int (1*2^((n:Nat):Int).toNat)]=_;rw [Int.toNat_natCast,Int.one_mul],sc'.sq,sc'.l63,sc'.ne,sc'.bx,by omega,ps,λ z H2 z0 z1 bx2 k2 _=>?_⟩
  have hD2:H2 D=some (.lst (is.map V.int)):=k2 _ _ hDD nD;have xf:Ext (wo H p) (wo (ae H2 D (.lst (is.map V.int ++ [.int z]))) p):=λ b o e=>by
   have n1:b≠D:=λ z=>by rw [z,woD] at e;cases e
   have e2:=(x'.trans (aI k2)) _ _ e;exact bD (gR e) (by rw [ag n1];exact ak _ _ _ _ e2)
  refine kk' _ H2 hD2 ⟨sc.wo' xf (bx2.up nD),xf,is ++ [z],by rw [List.map_append];rfl,λ j hj=>?_⟩
  rcases List.mem_append.mp hj with h | h
  ·exact good j h
  ·rw [List.mem_singleton.mp h];exact⟨z0,z1⟩
 ·rintro ys H' ly hDD ⟨sc',x',is,rfl,good⟩;refine⟨_,rfl,_,_,rfl,rfl,⟨by omega,by omega,by decide⟩,_,_,rfl,rfl,by show 2<=sizeLine;decide,λ b hb=>?_⟩
  rw [Int.toNat_natCast,Int.one_mul];have x2:=Ext.new (o:=.lst [V.int 0,.int (2^n-1)]) hb;have g2:ae H' b (.lst [V.int 0,.int (2^n-1)]) b=some (.lst [V.int 0,.int (2^n-1)]):=aR;rw [List.length_map] at ly;refine⟨D,b,is.map V.int,_,rfl,rfl,x2 _ _ hDD,g2,by rw [List.length_map];show is.length+2<=_;omega,λ dl hdl=>?_⟩
  have x3:=Ext.new (o:=.lst (is.map V.int ++ [V.int 0,.int (2^n-1)])) hdl;refine k dl (is ++ [0,2^n-1]) _ ((sc'.ext x2).ext x3) ((x'.trans (bq x2 p)).trans (bq x3 p)) (by rw [aR,List.map_append];rfl) (by rw [List.length_append];show is.length+2<=8;omega) λ j hj=>?_
  rcases List.mem_append.mp hj with h | h
  ·exact good j h
  ·rcases List.mem_cons.mp h with rfl | h
   ·exact⟨by omega,by omega⟩
   ·rw [List.mem_singleton.mp h];exact⟨by omega,by omega⟩
theorem sC (sc:Sc K H sA p ns)(nx:∀ o3 o4 o5 o6 o7 o8 H',Sc K H' sA p ns->De.nx [some (.ref sA),some (.ref p),some kk,o3,o4,o5,o6,o7,o8] H') :
  aV (FN K C) (aV F4 (aV (Eh K) (aV (Az K) (DP K C)))) De [some (.ref sA),some (.ref p),some kk,o3,o4,o5,o6,o7,o8] H:=by
 have sz:=sizeLine_eq;refine⟨_,rfl,_,rfl,yS sc rfl rfl λ m H1 m1 m2 sc1 x1=>⟨sA,p,ns,m,rfl,sc1,m1,m2,λ a v D zs t H2 sc2 x2 nD ha ru fl ok hD ra=>?_⟩⟩;refine⟨a,_,rfl,SqT.of (ak _ _ _ _ ha),rfl,_,_,rfl,_,_,rfl,rfl,?_⟩;have sm:=Rl.sm ok;have lb:t.bl.length<=20:=by
  have:=congrArg List.length (fm ok fl);rw [List.length_map] at this;have:=sm.1;omega
 have bf:=congrArg List.length (nO ok fl);rw [dY] at bf;have fk:=Rl.folk_ok ok;refine aG (te:=fY uU [] E0 (am (af 4) aL)) (i:=5) ⟨_,rfl,D,zs,t.bl,rfl,ak _ _ _ _ hD,ra.mono (ak _ _),lb,λ H3 x3=>?_⟩;have sc3:=sc2.ext x3;show aV (Eh K) (aV (Az K) (DP K C)) De [some (.ref sA),some (.ref p),some kk,some v,some (.ref D),some (.int ((t.bl.map (·.2)).flatten.length:Nat)),o6,o7,o8] H3;generalize hn:(t.bl.map (·.2)).flatten.length=n at bf;refine aG (te:=fY (tV K) [] E0 (am (af 0) (am (af 1) (am (af 5) (am (aB nF (fj K (tC (.int 2))) (tC (.int 0))) aL))))) (i:=6) ?_;refine⟨_,rfl,_,rfl,_,rfl,?_⟩;refine bv sc3 rfl rfl (λ R r=>r) (by decide) (by decide) λ z H4 z0 z2 sc4 k4=>⟨rfl,?_⟩
 refine⟨sA,p,ns,n,_,rfl,sc4,by omega,λ l xs os H5 sc5 x5 nl hl ro bd lo=>?_⟩
 have x25:Ext (wo H2 p) (wo H5 p):=((bq x3 p).trans (aI k4)).trans x5;show aV (Az K) (DP K C) De [some (.ref sA),some (.ref p),some kk,some v,some (.ref D),some (.int (n:Nat)),some (.ref l),o7,o8] H5;refine CD sc5 (by omega) λ dl is H6 sc6 x6 hdl li gd=>?_
 have x26:=(x25.trans x6).trans (ak H6 p);have x56:=x6.trans (ak H6 p);have pre:PreD C H6 v D l t zs xs os:=⟨ru.ext x26,ok,fl,x26 _ _ hD,ra.mono x26,x56 _ _ hl,ro.mono x56,bd,by omega⟩
 refine⟨_,rfl,dl,rfl,⟨_,SqL.of hdl⟩,dw (xs:=is.map V.int) (λ j σ H'=>∃ o8,σ=[some (.ref sA),some (.ref p),some kk,some v,some (.ref D),some (.int (n:Nat)),some (.ref l),some (.ref dl),o8]/\Ext H6 H') ⟨_,rfl,Ext.refl _⟩ ?_ ?_ ?_⟩
 ·rintro j σ H' _ ⟨o8,rfl,x'⟩;exact SqL.of (x' _ _ hdl)
 ·rintro j y σ H' ey ⟨o8,rfl,x'⟩;rw [List.getElem?_map] at ey;obtain⟨d,ed,rfl⟩:=Option.map_eq_some_iff.mp ey;obtain⟨d0,d1⟩:=gd d (List.mem_of_getElem? ed);refine⟨_,rfl,_,rfl,_,rfl,_,rfl,v,D,l,d,t,zs,xs,os,rfl,pre.ext x',d0,by rw [lo];exact d1,λ H7 x7=>⟨_,rfl,cH ⟨_,rfl,x'.trans x7⟩⟩⟩
 ·rintro σ H' ⟨o8,rfl,x'⟩;exact nx _ _ _ _ _ _ H' (sc6.ext x')
def nS (K:Frag):Sp:=λ vs H Q _=>∃(a:Addr)(ns:List Int),vs=[.ref a]/\SqL K H a (ns.map V.int)/\ns.length<=63/\H sysModules=none/\∀ H',Q (.bl true) H'
theorem wY {a:Addr}{o1 o2:Option V}(ha:SqL K H a (ns.map V.int))(l63:ns.length<=63)(q:∀ H',De.rt (.bl true) H'):Bx (C6 K C De [some (.ref a),o1,o2,o3,o4,o5,o6,o7,o8] H):=by
 constructor;refine aG (te:=qL K (am (tC (.int 0)) (am (tC (.int 0)) (am (tC (.int 7)) aL)))) (i:=1) ⟨by show 3<=sizeLine;decide,λ p hp hk=>?_⟩
 have np:=SqL.neN ha hp hk;have c:Sc K (ae H p (.lst [.int 0,.int 0,.int 7])) a p ns:=⟨My.SqL.ext ha (Ext.new hp),l63,np,⟨0,0,7,aR,by decide,by decide,by decide,by decide⟩⟩
 generalize ae H p (.lst [.int 0,.int 0,.int 7])=H1 at c ⊢;refine⟨2,rfl,by decide,by decide,i4 (lo:=0) (n:=2) (λ i σ H'=>∃ o2 o3 o4 o5 o6 o7 o8,σ=[some (.ref a),some (.ref p),o2,o3,o4,o5,o6,o7,o8]/\Sc K H' a p ns) ⟨_,_,_,_,_,_,_,rfl,c⟩ ?_ ?_⟩
 ·rintro i σ H' hi ⟨o2,o3,o4,o5,o6,o7,o8,rfl,sc⟩;exact sC sc λ o3 o4 o5 o6 o7 o8 H2 sc2=>⟨_,_,_,_,_,_,_,rfl,sc2⟩
 ·rintro σ H' ⟨o2,o3,o4,o5,o6,o7,o8,rfl,sc⟩;exact q H'
theorem wu {f a1 a2 a3 a4 a5:Addr}{fd d1 d2 d3 d4 d5:FuncData}(F:Fun K "law" "law" kZ f fd)(D:Dw P w K mg base C a1 a2 a3 a4 a5 d1 d2 d3 d4 d5):FnOk P w K mg base aq 11 f fd ["_law_script"] (nS K):=by
 refine F.ok scLw (λ vs H Q E h=>?_) (λ cdv A outer s H vs Q E hr h=>?_)
 ·obtain⟨a,ns,rfl,_⟩:=h;rfl
 obtain⟨a,ns,rfl,ha,l63,hz,q⟩:=h;exact gS (uZ D hr) (wY ha l63 q)
end
abbrev i7:Stmt:=ay (bR 3) 0
theorem zA:ad ["self","found"] ["self","found"] (aa i7):=aJ
theorem EY {K:Frag}{mg:Str->Option Value}{D C f:Addr}{fd:FuncData}(B:BaseC K D)(T:ErrC K D "NoShare" C f)(mD:mg "DealError" = some (.ref D))(mC:mg "NoShare" = some (.ref C))(F:Fun K "__init__" "NoShare.__init__" i7 f fd)(tk:takerIn K C "found" = some none):fz K mg D "NoShare" "found" C f fd:=by
 refine⟨T,mC,λ P w base=>?_,F.binds λ _ _ _ _ _ _ us hl=>match us,hl with | [_,_],_=>rfl⟩
 refine F.ok zA (λ vs H Q E h=>?_) (λ cdv A outer s H vs Q E hr h=>?_)
 ·obtain⟨x,v,rfl,_⟩:=h;rfl
 obtain⟨x,v,rfl,hx,q⟩:=h;refine⟨_,bZ (aw (bC B T rfl mD (pv 0) bh)) (bc (fE T (pv 0) (pv 1) rfl)),?_⟩;exact⟨_,rfl,x,rfl,hx,_,rfl,_,rfl,x,rfl,hx,tk,q⟩
abbrev iY:Stmt:=ay (bR 4) 0
theorem wQ:ad ["self","found"] ["self","found"] (aa iY):=aJ
theorem ES {K:Frag}{mg:Str->Option Value}{D C f:Addr}{fd:FuncData}(B:BaseC K D)(T:ErrC K D "NoNumber" C f)(mD:mg "DealError" = some (.ref D))(mC:mg "NoNumber" = some (.ref C))(F:Fun K "__init__" "NoNumber.__init__" iY f fd)(tk:takerIn K C "found" = some none):fz K mg D "NoNumber" "found" C f fd:=by
 refine⟨T,mC,λ P w base=>?_,F.binds λ _ _ _ _ _ _ us hl=>match us,hl with | [_,_],_=>rfl⟩
 refine F.ok wQ (λ vs H Q E h=>?_) (λ cdv A outer s H vs Q E hr h=>?_)
 ·obtain⟨x,v,rfl,_⟩:=h;rfl
 obtain⟨x,v,rfl,hx,q⟩:=h;refine⟨_,bZ (aw (bC B T rfl mD (pv 0) bh)) (bc (fE T (pv 0) (pv 1) rfl)),?_⟩;exact⟨_,rfl,x,rfl,hx,_,rfl,_,rfl,x,rfl,hx,tk,q⟩
abbrev jn:Stmt:=ay (bR 5) 0
theorem wq:ad ["self","found"] ["self","found"] (aa jn):=aJ
theorem Ep {K:Frag}{mg:Str->Option Value}{D C f:Addr}{fd:FuncData}(B:BaseC K D)(T:ErrC K D "NoFolk" C f)(mD:mg "DealError" = some (.ref D))(mC:mg "NoFolk" = some (.ref C))(F:Fun K "__init__" "NoFolk.__init__" jn f fd)(tk:takerIn K C "found" = some none):fz K mg D "NoFolk" "found" C f fd:=by
 refine⟨T,mC,λ P w base=>?_,F.binds λ _ _ _ _ _ _ us hl=>match us,hl with | [_,_],_=>rfl⟩
 refine F.ok wq (λ vs H Q E h=>?_) (λ cdv A outer s H vs Q E hr h=>?_)
 ·obtain⟨x,v,rfl,_⟩:=h;rfl
 obtain⟨x,v,rfl,hx,q⟩:=h;refine⟨_,bZ (aw (bC B T rfl mD (pv 0) bh)) (bc (fE T (pv 0) (pv 1) rfl)),?_⟩;exact⟨_,rfl,x,rfl,hx,_,rfl,_,rfl,x,rfl,hx,tk,q⟩
abbrev ju:Stmt:=ay (bR 7) 0
theorem xJ:ad ["self","found"] ["self","found"] (aa ju):=aJ
theorem Fm {K:Frag}{mg:Str->Option Value}{D C f:Addr}{fd:FuncData}(B:BaseC K D)(T:ErrC K D "NoTrials" C f)(mD:mg "DealError" = some (.ref D))(mC:mg "NoTrials" = some (.ref C))(F:Fun K "__init__" "NoTrials.__init__" ju f fd)(tk:takerIn K C "found" = some none):fz K mg D "NoTrials" "found" C f fd:=by
 refine⟨T,mC,λ P w base=>?_,F.binds λ _ _ _ _ _ _ us hl=>match us,hl with | [_,_],_=>rfl⟩
 refine F.ok xJ (λ vs H Q E h=>?_) (λ cdv A outer s H vs Q E hr h=>?_)
 ·obtain⟨x,v,rfl,_⟩:=h;rfl
 obtain⟨x,v,rfl,hx,q⟩:=h;refine⟨_,bZ (aw (bC B T rfl mD (pv 0) bh)) (bc (fE T (pv 0) (pv 1) rfl)),?_⟩;exact⟨_,rfl,x,rfl,hx,_,rfl,_,rfl,x,rfl,hx,tk,q⟩
abbrev ja:Stmt:=ay (bR 8) 0
theorem zz:ad ["self","place"] ["self","place"] (aa ja):=aJ
theorem En {K:Frag}{mg:Str->Option Value}{D C f:Addr}{fd:FuncData}(B:BaseC K D)(T:ErrC K D "NoOutcome" C f)(mD:mg "DealError" = some (.ref D))(mC:mg "NoOutcome" = some (.ref C))(F:Fun K "__init__" "NoOutcome.__init__" ja f fd)(tk:takerIn K C "place" = some none):fz K mg D "NoOutcome" "place" C f fd:=by
 refine⟨T,mC,λ P w base=>?_,F.binds λ _ _ _ _ _ _ us hl=>match us,hl with | [_,_],_=>rfl⟩
 refine F.ok zz (λ vs H Q E h=>?_) (λ cdv A outer s H vs Q E hr h=>?_)
 ·obtain⟨x,v,rfl,_⟩:=h;rfl
 obtain⟨x,v,rfl,hx,q⟩:=h;refine⟨_,bZ (aw (bC B T rfl mD (pv 0) bh)) (bc (fE T (pv 0) (pv 1) rfl)),?_⟩;exact⟨_,rfl,x,rfl,hx,_,rfl,_,rfl,x,rfl,hx,tk,q⟩
abbrev jx:Stmt:=ay (bR 9) 0
theorem xC:ad ["self","place"] ["self","place"] (aa jx):=aJ
theorem D0 {K:Frag}{mg:Str->Option Value}{D C f:Addr}{fd:FuncData}(B:BaseC K D)(T:ErrC K D "NotSure" C f)(mD:mg "DealError" = some (.ref D))(mC:mg "NotSure" = some (.ref C))(F:Fun K "__init__" "NotSure.__init__" jx f fd)(tk:takerIn K C "place" = some none):fz K mg D "NotSure" "place" C f fd:=by
 refine⟨T,mC,λ P w base=>?_,F.binds λ _ _ _ _ _ _ us hl=>match us,hl with | [_,_],_=>rfl⟩
 refine F.ok xC (λ vs H Q E h=>?_) (λ cdv A outer s H vs Q E hr h=>?_)
 ·obtain⟨x,v,rfl,_⟩:=h;rfl
 obtain⟨x,v,rfl,hx,q⟩:=h;refine⟨_,bZ (aw (bC B T rfl mD (pv 0) bh)) (bc (fE T (pv 0) (pv 1) rfl)),?_⟩;exact⟨_,rfl,x,rfl,hx,_,rfl,_,rfl,x,rfl,hx,tk,q⟩
abbrev gC:Stmt:=ay (bR 10) 0
theorem t8:ad ["self","block"] ["self","block"] (aa gC):=aJ
theorem Ds {K:Frag}{mg:Str->Option Value}{D C f:Addr}{fd:FuncData}(B:BaseC K D)(T:ErrC K D "NoPairs" C f)(mD:mg "DealError" = some (.ref D))(mC:mg "NoPairs" = some (.ref C))(F:Fun K "__init__" "NoPairs.__init__" gC f fd)(tk:takerIn K C "block" = some none):fz K mg D "NoPairs" "block" C f fd:=by
 refine⟨T,mC,λ P w base=>?_,F.binds λ _ _ _ _ _ _ us hl=>match us,hl with | [_,_],_=>rfl⟩
 refine F.ok t8 (λ vs H Q E h=>?_) (λ cdv A outer s H vs Q E hr h=>?_)
 ·obtain⟨x,v,rfl,_⟩:=h;rfl
 obtain⟨x,v,rfl,hx,q⟩:=h;refine⟨_,bZ (aw (bC B T rfl mD (pv 0) bh)) (bc (fE T (pv 0) (pv 1) rfl)),?_⟩;exact⟨_,rfl,x,rfl,hx,_,rfl,_,rfl,x,rfl,hx,tk,q⟩
abbrev gs:Stmt:=ay (bR 11) 0
theorem uH:ad ["self","many"] ["self","many"] (aa gs):=aJ
theorem A9 {K:Frag}{mg:Str->Option Value}{D C f:Addr}{fd:FuncData}(B:BaseC K D)(T:ErrC K D "TooMany" C f)(mD:mg "DealError" = some (.ref D))(mC:mg "TooMany" = some (.ref C))(F:Fun K "__init__" "TooMany.__init__" gs f fd)(tk:takerIn K C "many" = some none):fz K mg D "TooMany" "many" C f fd:=by
 refine⟨T,mC,λ P w base=>?_,F.binds λ _ _ _ _ _ _ us hl=>match us,hl with | [_,_],_=>rfl⟩
 refine F.ok uH (λ vs H Q E h=>?_) (λ cdv A outer s H vs Q E hr h=>?_)
 ·obtain⟨x,v,rfl,_⟩:=h;rfl
 obtain⟨x,v,rfl,hx,q⟩:=h;refine⟨_,bZ (aw (bC B T rfl mD (pv 0) bh)) (bc (fE T (pv 0) (pv 1) rfl)),?_⟩;exact⟨_,rfl,x,rfl,hx,_,rfl,_,rfl,x,rfl,hx,tk,q⟩
theorem aX {K:Frag}{C:Addr}{n:String}{b:Bool}(hm:kitMeta n=true)(h:mroIn K C (.type n)=some b):kitOne K (.ref C) (.type n)=some b:=by
 unfold kitOne;rw [if_neg (by intro e;cases beq_iff_eq.mp e)]
 show(if kitMeta n=true then subIn K (.ref C) (.type n) else none)=_
 rw [if_pos hm];exact h
theorem aC {K:Frag}{C C':Addr}{b:Bool}(hc:isClsIn K C'=true)(ht:typeIn K (.ref C')=some (.type "type"))(hs:mroIn K C' (.ref C')=some true)(hm:mroIn K C (.ref C')=some b):kitOne K (.ref C) (.ref C')=some b:=by
 unfold kitOne;by_cases e:C=C'
 ·subst e;rw [hs] at hm;cases hm;rw [if_pos (beq_self_eq_true _)]
 ·rw [if_neg (by intro z;exact e (Value.ref.inj (beq_iff_eq.mp z)))]
  show(if((clsIn K C').isSome&&typeIn K (.ref C')==some (.type "type"))=true then subIn K (.ref C) (.ref C') else none)=_
  have hc':(clsIn K C').isSome=true:=hc;rw [hc',ht];simp only [beq_self_eq_true,Bool.and_self,if_true];exact hm
theorem cY {K:Frag}{C C':Addr}(hs:mroIn K C' (.ref C')=some true)(hm:mroIn K C (.ref C')=some false):C≠C':=λ e=>by
 subst e;rw [hs] at hm;cases hm
structure Dm (K:Frag)(nm qual:Str)(st:Stmt)(ps:List Str)(f:Addr)(fd:FuncData):Prop where
 fn:Fun K nm qual st f fd
 bi:Binds K fd ps []
 kp:keepIn K (.ref f)=true
 isf:isFn K (.ref f)=true
def z9:Value->Bool
 | .str _ _=>true
 | _=>false
theorem strKeys_of {es:Array DictEntry}(h:(es.toList.all λ e=>z9 e.key)=true):StrKeys es:=λ e he=>by
 have z:=List.all_eq_true.mp h e (by simpa using he)
 cases k:e.key with
 | str n t=>exact⟨n,t,rfl⟩
 | _=>rw [k] at z;cases z
theorem jE {K:Frag}{C:Addr}{cd:ClassData}{b:Value}(h:clsIn K C=some cd)(hb:cd.mro.isEmpty=false)(hc:cd.mro.contains b=true):mroIn K C b=some true:=by
 unfold mroIn;rw [h,Option.bind_some,hb,hc];rfl
theorem base_mk {K:Frag}{D N:Addr}{nm q:Str}{bs:List Value}{sn:List Str}{sub:List Value}{ab:Bool}{col:Option Bool}{dd:Option Addr}{k0 k1 k2 k3 k5:Option Value}
  {cN:Value}{dN:Option Addr}{es:Array DictEntry}{ep:Nat}{sN:Array (Option Value)}
  (lD:K.lookup D=some (excClassObj nm q D N bs pA true sn sub ab col dd k0 k1 k2 k3 k5 "ValueError.__new__"))
  (lN:K.lookup N=some ⟨cN,dN,.dict es ep,sN⟩)(sk:StrKeys es)(ni:nsFind es "__init__" = none)
  (ga:specialIn K (.ref D) "__getattribute__" = some (some (.builtin "type.__getattribute__")))(rd:readsIn K D (.type "type")=true)
  (ini:findCls K (.ref D) (.type "type") "__init__" = some (.val (.builtin "ValueError.__init__")))(fi:findIn K (.ref D) "__init__" = some (some (.builtin "ValueError.__init__")))(kp:keepIn K (.ref D)=true)
  (gb:findIn K (.ref D) "__getattribute__" = some (some (.builtin vq)))(hk:findIn K (.ref D) "__getattr__" = some none)(ca:findIn K (.ref D) "__class__" = some (some (.builtin "object.__class__"))):BaseC K D:=by
 have hc:clsIn K D=some { name:=nm,bases:=bs,mro:=.ref D::pA,ns:=N,qualname:=q,hasDict:=true,slotNames:=sn,subclasses:=sub,abstract:=ab,collection:=col,hasDel:=false }:=by
  unfold clsIn;rw [lD]
 refine⟨⟨nm,q,N,bs,sn,sub,ab,col,dd,k0,k1,k2,k3,k5,lD,_,es,ep,lN,rfl,sk,ni⟩,ga,rd,ini,fi,kp,⟨by rw [hc];rfl,gb,hk,jE hc rfl ?_,jE hc rfl ?_,ca⟩⟩
 ·show(Value.ref D::pA).contains (.type "BaseException")=true;rw [List.contains_cons];rfl
 ·show(Value.ref D::pA).contains (.type "object")=true;rw [List.contains_cons];rfl
theorem err_mk {K:Frag}{D C N f:Addr}(nm:Str)
  {q:Str}{bs:List Value}{sn:List Str}{sub:List Value}{ab:Bool}{col:Option Bool}{dd:Option Addr}{k0 k1 k2 k3 k5:Option Value}
  (lC:K.lookup C=some (excClassObj nm q C N bs (.ref D::pA) true sn sub ab col dd k0 k1 k2 k3 k5 "ValueError.__new__"))
  (ini:findIn K (.ref C) "__init__" = some (some (.ref f)))(fn:typeIn K (.ref f)=some (.type "function"))(kp:keepIn K (.ref C)=true)
  (sa:findIn K (.ref C) "__setattr__" = some (some (.builtin "object.__setattr__")))(ga:findIn K (.ref C) "__getattribute__" = some (some (.builtin vq)))(hk:findIn K (.ref C) "__getattr__" = some none)
  (ca:findIn K (.ref C) "__class__" = some (some (.builtin "object.__class__"))):ErrC K D nm C f:=by
 have hc:clsIn K C=some { name:=nm,bases:=bs,mro:=.ref C :: .ref D::pA,ns:=N,qualname:=q,hasDict:=true,slotNames:=sn,subclasses:=sub,abstract:=ab,collection:=col,hasDel:=false }:=by
  unfold clsIn;rw [lC]
 refine⟨⟨q,N,bs,sn,sub,ab,col,dd,k0,k1,k2,k3,k5,lC⟩,ini,fn,kp,sa,⟨by rw [hc];rfl,ga,hk,jE hc rfl ?_,jE hc rfl ?_,ca⟩⟩
 ·show(Value.ref C :: .ref D::pA).contains (.type "BaseException")=true;rw [List.contains_cons,List.contains_cons];rfl
 ·show(Value.ref C :: .ref D::pA).contains (.type "object")=true;rw [List.contains_cons,List.contains_cons];rfl
structure Dn (K:Frag)(mg:Str->Option Value)(nm:Str)(st:Stmt)(ps:List Str)(f:Addr)(fd:FuncData):Prop where
 fn:Fun K nm nm st f fd
 bi:Binds K fd ps []
 kp:keepIn K (.ref f)=true
 mg:mg nm=some (.ref f)
section
variable {P:Program}{w:World}{K:Frag}{mg:Str->Option Value}{base:Heap}
theorem Dn.df {nm:Str}{st:Stmt}{ps:List Str}{f:Addr}{fd:FuncData}(d:Dn K mg nm st ps f fd){cx:kr}{k:Nat}{sp:Sp}(h:FnOk P w K mg base cx k f fd ps sp):Df P w K mg base cx k nm ps sp f fd:=⟨h,d.bi,d.kp,d.mg⟩
end
def eI (a b c d e:Addr):Nat->Addr
 | 0=>a
 | 1=>b
 | 2=>c
 | 3=>d
 | _=>e
theorem Dh {K:Frag}{c:Addr}(h0:findIn K (.ref c) "size" = some none)(h1:findIn K (.ref c) "first_state" = some none)(h2:findIn K (.ref c) "mark" = some none)(h3:findIn K (.ref c) "parts" = some none)(h4:findIn K (.ref c) "coin" = some none)(h5:findIn K (.ref c) "far" = some none)(h6:findIn K (.ref c) "rules" = some none)(h7:findIn K (.ref c) "dealer" = some none):∀ f∈gA,NoAttr K c f:=by
 intro f hf;simp only [gA,List.mem_cons,List.not_mem_nil,or_false] at hf;rcases hf with rfl | rfl | rfl | rfl | rfl | rfl | rfl | rfl
 ·exact h0
 ·exact h1
 ·exact h2
 ·exact h3
 ·exact h4
 ·exact h5
 ·exact h6
 ·exact h7
abbrev BP (nm qn:Str)(st:Stmt)(ps:List Str):Prop:=∀(kV doc pm:Value)(an:Option Addr)(cdv ct:Value)(us:List Value),us.length=ps.length->bindArgs (PySem.W.fnOf nm qn (br st) (ax st) (aa st) .none kV doc pm an cdv ct) ⟨us,[]⟩=pure (ps.zip us)
theorem dn_of {nm:Str}{st:Stmt}{ps:List Str}(hb:BP nm nm st ps){K:Frag}{h:Heap}{mg:Str->Option Value}{g:Addr}{oc kV dc pm cd ct:Value}{od an:Option Addr}{sl:Array (Option Value)}(X:K.In h)(G:h.Ns mainGlobals mg)
  (a:nsIn K mainGlobals nm=some (some (.ref g)))(l:K.lookup g=some ⟨oc,od,.func (fnOf nm nm (br st) (ax st) (aa st) .none kV dc pm an cd ct),sl⟩)(c:codeIn K cd nm=true)(k:keepIn K (.ref g)=true) :
  Dn K mg nm st ps g (fnOf nm nm (br st) (ax st) (aa st) .none kV dc pm an cd ct):=by
 have F:=dF (st:=st) l c k;exact⟨F,F.binds hb,k,mg_of X G a⟩
theorem dm_of {nm qn:Str}{st:Stmt}{ps:List Str}(hb:BP nm qn st ps){K:Frag}{g:Addr}{oc kV dc pm cd ct:Value}{od an:Option Addr}{sl:Array (Option Value)}
  (l:K.lookup g=some ⟨oc,od,.func (fnOf nm qn (br st) (ax st) (aa st) .none kV dc pm an cd ct),sl⟩)(c:codeIn K cd qn=true)(k:keepIn K (.ref g)=true)(f:isFn K (.ref g)=true) :
  Dm K nm qn st ps g (fnOf nm qn (br st) (ax st) (aa st) .none kV dc pm an cd ct):=by
 have F:=dF (st:=st) l c k;exact⟨F,F.binds hb,k,f⟩
theorem bp0:BP "is_number" "is_number" j4 ["thing"]:=λ _ _ _ _ _ _ us hl=>match us,hl with | [_],_=>rfl
theorem bp1:BP "is_whole" "is_whole" n9 ["thing","low","high"]:=λ _ _ _ _ _ _ us hl=>match us,hl with | [_,_,_],_=>rfl
theorem bp2:BP "greatest_common" "greatest_common" ux ["one","other"]:=λ _ _ _ _ _ _ us hl=>match us,hl with | [_,_],_=>rfl
theorem bp3:BP "is_part" "is_part" nY ["top","bottom"]:=λ _ _ _ _ _ _ us hl=>match us,hl with | [_,_],_=>rfl
theorem bp4:BP "is_share" "is_share" uJ ["thing"]:=λ _ _ _ _ _ _ us hl=>match us,hl with | [_],_=>rfl
theorem bp5:BP "need_number" "need_number" DB ["thing","low","high"]:=λ _ _ _ _ _ _ us hl=>match us,hl with | [_,_,_],_=>rfl
theorem bp6:BP "need_coin" "need_coin" DE ["thing"]:=λ _ _ _ _ _ _ us hl=>match us,hl with | [_],_=>rfl
theorem bp7:BP "one_part" "one_part" DK ["folk"]:=λ _ _ _ _ _ _ us hl=>match us,hl with | [_],_=>rfl
theorem bp8:BP "may_be_block" "may_be_block" sI ["thing"]:=λ _ _ _ _ _ _ us hl=>match us,hl with | [_],_=>rfl
theorem bp9:BP "are_block_rules" "are_block_rules" DH ["thing"]:=λ _ _ _ _ _ _ us hl=>match us,hl with | [_],_=>rfl
theorem bp10:BP "parts_of" "parts_of" DA ["rules"]:=λ _ _ _ _ _ _ us hl=>match us,hl with | [_],_=>rfl
theorem bp11:BP "parts_below" "parts_below" xu ["parts","many"]:=λ _ _ _ _ _ _ us hl=>match us,hl with | [_,_],_=>rfl
theorem bp12:BP "is_outcome" "is_outcome" Dz ["thing"]:=λ _ _ _ _ _ _ us hl=>match us,hl with | [_],_=>rfl
theorem bp13:BP "need_outcome" "need_outcome" DF ["thing","place"]:=λ _ _ _ _ _ _ us hl=>match us,hl with | [_,_],_=>rfl
theorem bp14:BP "need_outcomes" "need_outcomes" vb ["thing"]:=λ _ _ _ _ _ _ us hl=>match us,hl with | [_],_=>rfl
theorem bp15:BP "need_outcomes_of" "need_outcomes_of" t7 ["thing","folk"]:=λ _ _ _ _ _ _ us hl=>match us,hl with | [_,_],_=>rfl
theorem bp16:BP "surely_greater" "surely_greater" DJ ["one","other"]:=λ _ _ _ _ _ _ us hl=>match us,hl with | [_,_],_=>rfl
theorem bp17:BP "stands_to" "stands_to" DG ["one","other"]:=λ _ _ _ _ _ _ us hl=>match us,hl with | [_,_],_=>rfl
theorem bp18:BP "need_sure" "need_sure" tH ["outcomes"]:=λ _ _ _ _ _ _ us hl=>match us,hl with | [_],_=>rfl
theorem bp19:BP "block_marks" "block_marks" DO ["rule"]:=λ _ _ _ _ _ _ us hl=>match us,hl with | [_],_=>rfl
theorem bp20:BP "need_pairs" "need_pairs" DM ["rule"]:=λ _ _ _ _ _ _ us hl=>match us,hl with | [_],_=>rfl
theorem bp21:BP "need_hands" "need_hands" Dy ["thing","folk"]:=λ _ _ _ _ _ _ us hl=>match us,hl with | [_,_],_=>rfl
theorem bp22:BP "hand_of" "hand_of" DR ["dealing","at"]:=λ _ _ _ _ _ _ us hl=>match us,hl with | [_,_],_=>rfl
theorem bp23:BP "value_of" "value_of" vX ["scores","dealing"]:=λ _ _ _ _ _ _ us hl=>match us,hl with | [_,_],_=>rfl
theorem bp24:BP "_law_whole" "_law_whole" Du ["_law_found"]:=λ _ _ _ _ _ _ us hl=>match us,hl with | [_],_=>rfl
theorem bp25:BP "_law_take" "_law_take" eS ["_law_script","_law_pen","_law_many"]:=λ _ _ _ _ _ _ us hl=>match us,hl with | [_,_,_],_=>rfl
theorem bp26:BP "_law_plain_rule" "_law_plain_rule" nE ["_law_script","_law_pen","_law_most"]:=λ _ _ _ _ _ _ us hl=>match us,hl with | [_,_,_],_=>rfl
theorem bp27:BP "_law_rule" "_law_rule" ky ["_law_script","_law_pen","_law_most"]:=λ _ _ _ _ _ _ us hl=>match us,hl with | [_,_,_],_=>rfl
theorem bp28:BP "_law_folk" "_law_folk" DC ["_law_blocks"]:=λ _ _ _ _ _ _ us hl=>match us,hl with | [_],_=>rfl
theorem bp29:BP "_law_outcomes" "_law_outcomes" zL ["_law_script","_law_pen","_law_folk_here","_law_sure"]:=λ _ _ _ _ _ _ us hl=>match us,hl with | [_,_,_,_],_=>rfl
theorem bp30:BP "_law_stands" "_law_stands" Dx ["_law_one","_law_other"]:=λ _ _ _ _ _ _ us hl=>match us,hl with | [_,_],_=>rfl
theorem bp31:BP "_law_between" "_law_between" zY ["_law_outcomes_here","_law_ones","_law_zeros"]:=λ _ _ _ _ _ _ us hl=>match us,hl with | [_,_,_],_=>rfl
theorem bp32:BP "_law_by_pairs" "_law_by_pairs" zG ["_law_blocks","_law_outcomes_here","_law_dealing"]:=λ _ _ _ _ _ _ us hl=>match us,hl with | [_,_,_],_=>rfl
theorem bp33:BP "_law_are_pairs" "_law_are_pairs" wL ["_law_blocks"]:=λ _ _ _ _ _ _ us hl=>match us,hl with | [_],_=>rfl
theorem bp34:BP "_law_dealing_right" "_law_dealing_right" gj ["_law_rule_here","_law_blocks","_law_outcomes_here","_law_dealing"]:=λ _ _ _ _ _ _ us hl=>match us,hl with | [_,_,_,_],_=>rfl
theorem bp35:BP "law" "law" kZ ["_law_script"]:=λ _ _ _ _ _ _ us hl=>match us,hl with | [_],_=>rfl
theorem bm0:BP "__init__" "Rule.__init__" su ["self","size","first_state","mark","parts"]:=λ _ _ _ _ _ _ us hl=>match us,hl with | [_,_,_,_,_],_=>rfl
theorem bm1:BP "folk" "Rule.folk" t5 ["self"]:=λ _ _ _ _ _ _ us hl=>match us,hl with | [_],_=>rfl
theorem bm2:BP "begin" "Rule.begin" sP ["self"]:=λ _ _ _ _ _ _ us hl=>match us,hl with | [_],_=>rfl
theorem bm3:BP "told" "Rule.told" tq ["self"]:=λ _ _ _ _ _ _ us hl=>match us,hl with | [_],_=>rfl
theorem bm4:BP "blocks" "Rule.blocks" ug ["self"]:=λ _ _ _ _ _ _ us hl=>match us,hl with | [_],_=>rfl
theorem bm5:BP "__init__" "Split.__init__" ui ["self","folk","ones"]:=λ _ _ _ _ _ _ us hl=>match us,hl with | [_,_,_],_=>rfl
theorem bm6:BP "__init__" "Pairs.__init__" uj ["self","pairs","coin"]:=λ _ _ _ _ _ _ us hl=>match us,hl with | [_,_,_],_=>rfl
theorem bm7:BP "__init__" "Coins.__init__" vg ["self","folk","coin","far"]:=λ _ _ _ _ _ _ us hl=>match us,hl with | [_,_,_,_],_=>rfl
theorem bm8:BP "__init__" "Blocks.__init__" tX ["self","rules"]:=λ _ _ _ _ _ _ us hl=>match us,hl with | [_,_],_=>rfl
theorem bm9:BP "__init__" "First.__init__" sV ["self","rule","many"]:=λ _ _ _ _ _ _ us hl=>match us,hl with | [_,_,_],_=>rfl
theorem bm10:BP "state_ahead" "Blocks.state_ahead" DI ["self","number"]:=λ _ _ _ _ _ _ us hl=>match us,hl with | [_,_],_=>rfl
theorem bm11:BP "__init__" "Measure.__init__" tw ["self","mark"]:=λ _ _ _ _ _ _ us hl=>match us,hl with | [_,_],_=>rfl
theorem bm12:BP "told" "Measure.told" sW ["self"]:=λ _ _ _ _ _ _ us hl=>match us,hl with | [_],_=>rfl
theorem bm13:BP "told" "Measure.told" sW ["self"]:=λ _ _ _ _ _ _ us hl=>match us,hl with | [_],_=>rfl
theorem bm14:BP "scores" "Measure.scores" ut ["self","rule","outcomes"]:=λ _ _ _ _ _ _ us hl=>match us,hl with | [_,_,_],_=>rfl
theorem bm15:BP "need_fit" "Measure.need_fit" tK ["self","rule","outcomes"]:=λ _ _ _ _ _ _ us hl=>match us,hl with | [_,_,_],_=>rfl
theorem bm16:BP "scored" "Measure.scored" vc ["self","rule","outcomes"]:=λ _ _ _ _ _ _ us hl=>match us,hl with | [_,_,_],_=>rfl
theorem bm17:BP "__init__" "Sum.__init__" tz ["self"]:=λ _ _ _ _ _ _ us hl=>match us,hl with | [_],_=>rfl
theorem bm18:BP "need_fit" "Sum.need_fit" sF ["self","rule","outcomes"]:=λ _ _ _ _ _ _ us hl=>match us,hl with | [_,_,_],_=>rfl
theorem bm19:BP "among" "Sum.among" um ["self","outcomes"]:=λ _ _ _ _ _ _ us hl=>match us,hl with | [_,_],_=>rfl
theorem bm20:BP "__init__" "Ranks.__init__" sU ["self"]:=λ _ _ _ _ _ _ us hl=>match us,hl with | [_],_=>rfl
theorem bm21:BP "need_fit" "Ranks.need_fit" uO ["self","rule","outcomes"]:=λ _ _ _ _ _ _ us hl=>match us,hl with | [_,_,_],_=>rfl
theorem bm22:BP "among" "Ranks.among" gJ ["self","outcomes"]:=λ _ _ _ _ _ _ us hl=>match us,hl with | [_,_],_=>rfl
theorem bm23:BP "__init__" "Wins.__init__" tO ["self"]:=λ _ _ _ _ _ _ us hl=>match us,hl with | [_],_=>rfl
theorem bm24:BP "among" "Wins.among" jZ ["self","outcomes"]:=λ _ _ _ _ _ _ us hl=>match us,hl with | [_,_],_=>rfl
theorem bm25:BP "__init__" "Signs.__init__" uw ["self"]:=λ _ _ _ _ _ _ us hl=>match us,hl with | [_],_=>rfl
theorem bm26:BP "need_fit" "Signs.need_fit" ss ["self","rule","outcomes"]:=λ _ _ _ _ _ _ us hl=>match us,hl with | [_,_,_],_=>rfl
theorem bm27:BP "among" "Signs.among" jF ["self","outcomes"]:=λ _ _ _ _ _ _ us hl=>match us,hl with | [_,_],_=>rfl
theorem all_mk {l:OpenLaw}{w:World}{K:Frag}{h:Heap}{mg:Str->Option Value}{fa D CE3 fE3 CE4 fE4 CE5 fE5 CE7 fE7 CE8 fE8 CE9 fE9 CE10 fE10 CE11 fE11 g0 g1 g2 g3 g4 g5 g6 g7 g8 g9 g10 g11 g12 g13 g14 g15 g16 g17 g18 g19 g20 g21 g22 g23 g24 g25 g26 g27 g28 g29 g30 g31 g32 g33 g34 g35 m0 m1 m2 m3 m4 m5 m6 m7 m8 m9 m10 m11 m12 m13 m14 m15 m16 m17 m18 m19 m20 m21 m22 m23 m24 m25 m26 m27 R MS C0 C1 C2 C3 C4 U0 U1 U2 U3:Addr}{d0 d1 d2 d3 d4 d5 d6 d7 d8 d9 d10 d11 d12 d13 d14 d15 d16 d17 d18 d19 d20 d21 d22 d23 d24 d25 d26 d27 d28 d29 d30 d31 d32 d33 d34 d35 x0 x1 x2 x3 x4 x5 x6 x7 x8 x9 x10 x11 x12 x13 x14 x15 x16 x17 x18 x19 x20 x21 x22 x23 x24 x25 x26 x27:FuncData}(X:K.In h)(G:h.Ns mainGlobals mg)(hfa:mg "law" = some (.ref fa))
  {oc3 kV3 dc3 pm3 cd3 ct3 oc4 kV4 dc4 pm4 cd4 ct4 oc5 kV5 dc5 pm5 cd5 ct5 oc7 kV7 dc7 pm7 cd7 ct7 oc8 kV8 dc8 pm8 cd8 ct8 oc9 kV9 dc9 pm9 cd9 ct9 oc10 kV10 dc10 pm10 cd10 ct10 oc11 kV11 dc11 pm11 cd11 ct11:Value}{od3 an3 od4 an4 od5 an5 od7 an7 od8 an8 od9 an9 od10 an10 od11 an11:Option Addr}{sl3 sl4 sl5 sl7 sl8 sl9 sl10 sl11:Array (Option Value)}
  {t_MOST_FOLK t_MOST_PAIRS t_MOST_FAR t_MOST_RULES t_MOST_BOTTOM t_LEAST_NUMBER t_MOST_NUMBER:Tok}
  (B:BaseC K D)(eE3:ErrC K D "NoShare" CE3 fE3)(eE4:ErrC K D "NoNumber" CE4 fE4)(eE5:ErrC K D "NoFolk" CE5 fE5)(eE7:ErrC K D "NoTrials" CE7 fE7)(eE8:ErrC K D "NoOutcome" CE8 fE8)(eE9:ErrC K D "NotSure" CE9 fE9)(eE10:ErrC K D "NoPairs" CE10 fE10)(eE11:ErrC K D "TooMany" CE11 fE11)
  (aD:nsIn K mainGlobals "DealError" = some (some (.ref D)))
  (a3:nsIn K mainGlobals "NoShare" = some (some (.ref CE3)))
  (a4:nsIn K mainGlobals "NoNumber" = some (some (.ref CE4)))
  (a5:nsIn K mainGlobals "NoFolk" = some (some (.ref CE5)))
  (a7:nsIn K mainGlobals "NoTrials" = some (some (.ref CE7)))
  (a8:nsIn K mainGlobals "NoOutcome" = some (some (.ref CE8)))
  (a9:nsIn K mainGlobals "NotSure" = some (some (.ref CE9)))
  (a10:nsIn K mainGlobals "NoPairs" = some (some (.ref CE10)))
  (a11:nsIn K mainGlobals "TooMany" = some (some (.ref CE11)))
  (lf3:K.lookup fE3=some ⟨oc3,od3,.func (fnOf "__init__" "NoShare.__init__" (br i7) (ax i7) (aa i7) .none kV3 dc3 pm3 an3 cd3 ct3),sl3⟩)
  (cf3:codeIn K cd3 "NoShare.__init__" = true)
  (kf3:keepIn K (.ref fE3)=true)
  (tk3:takerIn K CE3 "found" = some none)
  (nf3:findIn K (.ref CE3) "found" = some none)
  (lf4:K.lookup fE4=some ⟨oc4,od4,.func (fnOf "__init__" "NoNumber.__init__" (br iY) (ax iY) (aa iY) .none kV4 dc4 pm4 an4 cd4 ct4),sl4⟩)
  (cf4:codeIn K cd4 "NoNumber.__init__" = true)
  (kf4:keepIn K (.ref fE4)=true)
  (tk4:takerIn K CE4 "found" = some none)
  (nf4:findIn K (.ref CE4) "found" = some none)
  (lf5:K.lookup fE5=some ⟨oc5,od5,.func (fnOf "__init__" "NoFolk.__init__" (br jn) (ax jn) (aa jn) .none kV5 dc5 pm5 an5 cd5 ct5),sl5⟩)
  (cf5:codeIn K cd5 "NoFolk.__init__" = true)
  (kf5:keepIn K (.ref fE5)=true)
  (tk5:takerIn K CE5 "found" = some none)
  (nf5:findIn K (.ref CE5) "found" = some none)
  (lf7:K.lookup fE7=some ⟨oc7,od7,.func (fnOf "__init__" "NoTrials.__init__" (br ju) (ax ju) (aa ju) .none kV7 dc7 pm7 an7 cd7 ct7),sl7⟩)
  (cf7:codeIn K cd7 "NoTrials.__init__" = true)
  (kf7:keepIn K (.ref fE7)=true)
  (tk7:takerIn K CE7 "found" = some none)
  (nf7:findIn K (.ref CE7) "found" = some none)
  (lf8:K.lookup fE8=some ⟨oc8,od8,.func (fnOf "__init__" "NoOutcome.__init__" (br ja) (ax ja) (aa ja) .none kV8 dc8 pm8 an8 cd8 ct8),sl8⟩)
  (cf8:codeIn K cd8 "NoOutcome.__init__" = true)
  (kf8:keepIn K (.ref fE8)=true)
  (tk8:takerIn K CE8 "place" = some none)
  (nf8:findIn K (.ref CE8) "place" = some none)
  (lf9:K.lookup fE9=some ⟨oc9,od9,.func (fnOf "__init__" "NotSure.__init__" (br jx) (ax jx) (aa jx) .none kV9 dc9 pm9 an9 cd9 ct9),sl9⟩)
  (cf9:codeIn K cd9 "NotSure.__init__" = true)
  (kf9:keepIn K (.ref fE9)=true)
  (tk9:takerIn K CE9 "place" = some none)
  (nf9:findIn K (.ref CE9) "place" = some none)
  (lf10:K.lookup fE10=some ⟨oc10,od10,.func (fnOf "__init__" "NoPairs.__init__" (br gC) (ax gC) (aa gC) .none kV10 dc10 pm10 an10 cd10 ct10),sl10⟩)
  (cf10:codeIn K cd10 "NoPairs.__init__" = true)
  (kf10:keepIn K (.ref fE10)=true)
  (tk10:takerIn K CE10 "block" = some none)
  (nf10:findIn K (.ref CE10) "block" = some none)
  (lf11:K.lookup fE11=some ⟨oc11,od11,.func (fnOf "__init__" "TooMany.__init__" (br gs) (ax gs) (aa gs) .none kV11 dc11 pm11 an11 cd11 ct11),sl11⟩)
  (cf11:codeIn K cd11 "TooMany.__init__" = true)
  (kf11:keepIn K (.ref fE11)=true)
  (tk11:takerIn K CE11 "many" = some none)
  (nf11:findIn K (.ref CE11) "many" = some none)
  (ns_R:nsIn K mainGlobals "Rule" = some (some (.ref R)))
  (zaa:specialIn K (.ref R) "__getattribute__" = some (some (.builtin "type.__getattribute__")))
  (zab:readsIn K R (.type "type")=true)
  (zac:findCls K (.ref R) (.type "type") "__init__" = some (.val (.ref m0)))
  (ic_R:isClsIn K R=true)
  (ty_R:typeIn K (.ref R)=some (.type "type"))
  (ss_R:mroIn K R (.ref R)=some true)
  (zad:nsIn K mainGlobals "Measure" = some (some (.ref MS)))
  (zae:specialIn K (.ref MS) "__getattribute__" = some (some (.builtin "type.__getattribute__")))
  (zaf:readsIn K MS (.type "type")=true)
  (zag:findCls K (.ref MS) (.type "type") "__init__" = some (.val (.ref m11)))
  (zah:findCls K (.ref MS) (.type "type") "told" = some (.val (.ref m12)))
  (zai:isClsIn K MS=true)
  (zaj:typeIn K (.ref MS)=some (.type "type"))
  (zak:mroIn K MS (.ref MS)=some true)
  (zal:nsIn K mainGlobals "Split" = some (some (.ref C0)))
  (zam:plainGet K C0 Str.empty=true)
  (zan:hasDictIn K C0=true)
  (zao:plainOver K C0=true)
  (zap:findIn K (.ref C0) "__setattr__" = some (some (.builtin "object.__setattr__")))
  (zaq:makesIn K C0=true)
  (zar:keepIn K (.ref C0)=true)
  (zas:findIn K (.ref C0) "__class__" = some (some (.builtin "object.__class__")))
  (zat:mroIn K C0 (.type "object")=some true)
  (zau:isClsIn K C0=true)
  (zav:typeIn K (.ref C0)=some (.type "type"))
  (zaw:findIn K (.ref C0) "size" = some none)
  (zax:findIn K (.ref C0) "first_state" = some none)
  (zay:findIn K (.ref C0) "mark" = some none)
  (zaz:findIn K (.ref C0) "parts" = some none)
  (zaA:findIn K (.ref C0) "coin" = some none)
  (zaB:findIn K (.ref C0) "far" = some none)
  (zaC:findIn K (.ref C0) "rules" = some none)
  (zaD:findIn K (.ref C0) "dealer" = some none)
  (zaE:findIn K (.ref C0) "__init__" = some (some (.ref m5)))
  (zaF:findIn K (.ref C0) "folk" = some (some (.ref m1)))
  (zaG:findIn K (.ref C0) "begin" = some (some (.ref m2)))
  (zaH:findIn K (.ref C0) "told" = some (some (.ref m3)))
  (zaI:findIn K (.ref C0) "blocks" = some (some (.ref m4)))
  (zaJ:mroIn K C0 (.ref C0)=some true)
  (zaK:mroIn K C0 (.ref C1)=some false)
  (zaL:mroIn K C0 (.ref C2)=some false)
  (zaM:mroIn K C0 (.ref C3)=some false)
  (zaN:mroIn K C0 (.ref C4)=some false)
  (zaO:mroIn K C0 (.ref R)=some true)
  (zaP:mroIn K C0 (.type "tuple")=some false)
  (zaQ:mroIn K C0 (.type "list")=some false)
  (zaR:mroIn K C0 (.type "int")=some false)
  (zaS:mroIn K C0 (.type "bool")=some false)
  (zaT:nsIn K mainGlobals "Pairs" = some (some (.ref C1)))
  (zaU:plainGet K C1 Str.empty=true)
  (zaV:hasDictIn K C1=true)
  (zaW:plainOver K C1=true)
  (zaX:findIn K (.ref C1) "__setattr__" = some (some (.builtin "object.__setattr__")))
  (zaY:makesIn K C1=true)
  (zaZ:keepIn K (.ref C1)=true)
  (za0:findIn K (.ref C1) "__class__" = some (some (.builtin "object.__class__")))
  (za1:mroIn K C1 (.type "object")=some true)
  (za2:isClsIn K C1=true)
  (za3:typeIn K (.ref C1)=some (.type "type"))
  (za4:findIn K (.ref C1) "size" = some none)
  (za5:findIn K (.ref C1) "first_state" = some none)
  (za6:findIn K (.ref C1) "mark" = some none)
  (za7:findIn K (.ref C1) "parts" = some none)
  (za8:findIn K (.ref C1) "coin" = some none)
  (za9:findIn K (.ref C1) "far" = some none)
  (zba:findIn K (.ref C1) "rules" = some none)
  (zbb:findIn K (.ref C1) "dealer" = some none)
  (zbc:findIn K (.ref C1) "__init__" = some (some (.ref m6)))
  (zbd:findIn K (.ref C1) "folk" = some (some (.ref m1)))
  (zbe:findIn K (.ref C1) "begin" = some (some (.ref m2)))
  (zbf:findIn K (.ref C1) "told" = some (some (.ref m3)))
  (zbg:findIn K (.ref C1) "blocks" = some (some (.ref m4)))
  (zbh:mroIn K C1 (.ref C0)=some false)
  (zbi:mroIn K C1 (.ref C1)=some true)
  (zbj:mroIn K C1 (.ref C2)=some false)
  (zbk:mroIn K C1 (.ref C3)=some false)
  (zbl:mroIn K C1 (.ref C4)=some false)
  (zbm:mroIn K C1 (.ref R)=some true)
  (zbn:mroIn K C1 (.type "tuple")=some false)
  (zbo:mroIn K C1 (.type "list")=some false)
  (zbp:mroIn K C1 (.type "int")=some false)
  (zbq:mroIn K C1 (.type "bool")=some false)
  (zbr:nsIn K mainGlobals "Coins" = some (some (.ref C2)))
  (zbs:plainGet K C2 Str.empty=true)
  (zbt:hasDictIn K C2=true)
  (zbu:plainOver K C2=true)
  (zbv:findIn K (.ref C2) "__setattr__" = some (some (.builtin "object.__setattr__")))
  (zbw:makesIn K C2=true)
  (zbx:keepIn K (.ref C2)=true)
  (zby:findIn K (.ref C2) "__class__" = some (some (.builtin "object.__class__")))
  (zbz:mroIn K C2 (.type "object")=some true)
  (zbA:isClsIn K C2=true)
  (zbB:typeIn K (.ref C2)=some (.type "type"))
  (zbC:findIn K (.ref C2) "size" = some none)
  (zbD:findIn K (.ref C2) "first_state" = some none)
  (zbE:findIn K (.ref C2) "mark" = some none)
  (zbF:findIn K (.ref C2) "parts" = some none)
  (zbG:findIn K (.ref C2) "coin" = some none)
  (zbH:findIn K (.ref C2) "far" = some none)
  (zbI:findIn K (.ref C2) "rules" = some none)
  (zbJ:findIn K (.ref C2) "dealer" = some none)
  (zbK:findIn K (.ref C2) "__init__" = some (some (.ref m7)))
  (zbL:findIn K (.ref C2) "folk" = some (some (.ref m1)))
  (zbM:findIn K (.ref C2) "begin" = some (some (.ref m2)))
  (zbN:findIn K (.ref C2) "told" = some (some (.ref m3)))
  (zbO:findIn K (.ref C2) "blocks" = some (some (.ref m4)))
  (zbP:mroIn K C2 (.ref C0)=some false)
  (zbQ:mroIn K C2 (.ref C1)=some false)
  (zbR:mroIn K C2 (.ref C2)=some true)
  (zbS:mroIn K C2 (.ref C3)=some false)
  (zbT:mroIn K C2 (.ref C4)=some false)
  (zbU:mroIn K C2 (.ref R)=some true)
  (zbV:mroIn K C2 (.type "tuple")=some false)
  (zbW:mroIn K C2 (.type "list")=some false)
  (zbX:mroIn K C2 (.type "int")=some false)
  (zbY:mroIn K C2 (.type "bool")=some false)
  (zbZ:nsIn K mainGlobals "Blocks" = some (some (.ref C3)))
  (zb0:plainGet K C3 Str.empty=true)
  (zb1:hasDictIn K C3=true)
  (zb2:plainOver K C3=true)
  (zb3:findIn K (.ref C3) "__setattr__" = some (some (.builtin "object.__setattr__")))
  (zb4:makesIn K C3=true)
  (zb5:keepIn K (.ref C3)=true)
  (zb6:findIn K (.ref C3) "__class__" = some (some (.builtin "object.__class__")))
  (zb7:mroIn K C3 (.type "object")=some true)
  (zb8:isClsIn K C3=true)
  (zb9:typeIn K (.ref C3)=some (.type "type"))
  (zca:findIn K (.ref C3) "size" = some none)
  (zcb:findIn K (.ref C3) "first_state" = some none)
  (zcc:findIn K (.ref C3) "mark" = some none)
  (zcd:findIn K (.ref C3) "parts" = some none)
  (zce:findIn K (.ref C3) "coin" = some none)
  (zcf:findIn K (.ref C3) "far" = some none)
  (zcg:findIn K (.ref C3) "rules" = some none)
  (zch:findIn K (.ref C3) "dealer" = some none)
  (zci:findIn K (.ref C3) "__init__" = some (some (.ref m8)))
  (zcj:findIn K (.ref C3) "folk" = some (some (.ref m1)))
  (zck:findIn K (.ref C3) "begin" = some (some (.ref m2)))
  (zcl:findIn K (.ref C3) "told" = some (some (.ref m3)))
  (zcm:findIn K (.ref C3) "blocks" = some (some (.ref m4)))
  (zcn:findIn K (.ref C3) "state_ahead" = some (some (.ref m10)))
  (zco:mroIn K C3 (.ref C0)=some false)
  (zcp:mroIn K C3 (.ref C1)=some false)
  (zcq:mroIn K C3 (.ref C2)=some false)
  (zcr:mroIn K C3 (.ref C3)=some true)
  (zcs:mroIn K C3 (.ref C4)=some false)
  (zct:mroIn K C3 (.ref R)=some true)
  (zcu:mroIn K C3 (.type "tuple")=some false)
  (zcv:mroIn K C3 (.type "list")=some false)
  (zcw:mroIn K C3 (.type "int")=some false)
  (zcx:mroIn K C3 (.type "bool")=some false)
  (zcy:nsIn K mainGlobals "First" = some (some (.ref C4)))
  (zcz:plainGet K C4 Str.empty=true)
  (zcA:hasDictIn K C4=true)
  (zcB:plainOver K C4=true)
  (zcC:findIn K (.ref C4) "__setattr__" = some (some (.builtin "object.__setattr__")))
  (zcD:makesIn K C4=true)
  (zcE:keepIn K (.ref C4)=true)
  (zcF:findIn K (.ref C4) "__class__" = some (some (.builtin "object.__class__")))
  (zcG:mroIn K C4 (.type "object")=some true)
  (zcH:isClsIn K C4=true)
  (zcI:typeIn K (.ref C4)=some (.type "type"))
  (zcJ:findIn K (.ref C4) "size" = some none)
  (zcK:findIn K (.ref C4) "first_state" = some none)
  (zcL:findIn K (.ref C4) "mark" = some none)
  (zcM:findIn K (.ref C4) "parts" = some none)
  (zcN:findIn K (.ref C4) "coin" = some none)
  (zcO:findIn K (.ref C4) "far" = some none)
  (zcP:findIn K (.ref C4) "rules" = some none)
  (zcQ:findIn K (.ref C4) "dealer" = some none)
  (zcR:findIn K (.ref C4) "__init__" = some (some (.ref m9)))
  (zcS:findIn K (.ref C4) "folk" = some (some (.ref m1)))
  (zcT:findIn K (.ref C4) "begin" = some (some (.ref m2)))
  (zcU:findIn K (.ref C4) "told" = some (some (.ref m3)))
  (zcV:findIn K (.ref C4) "blocks" = some (some (.ref m4)))
  (zcW:mroIn K C4 (.ref C0)=some false)
  (zcX:mroIn K C4 (.ref C1)=some false)
  (zcY:mroIn K C4 (.ref C2)=some false)
  (zcZ:mroIn K C4 (.ref C3)=some false)
  (zc0:mroIn K C4 (.ref C4)=some true)
  (zc1:mroIn K C4 (.ref R)=some true)
  (zc2:mroIn K C4 (.type "tuple")=some false)
  (zc3:mroIn K C4 (.type "list")=some false)
  (zc4:mroIn K C4 (.type "int")=some false)
  (zc5:mroIn K C4 (.type "bool")=some false)
  (zc6:nsIn K mainGlobals "Sum" = some (some (.ref U0)))
  (zc7:plainGet K U0 Str.empty=true)
  (zc8:hasDictIn K U0=true)
  (zc9:plainOver K U0=true)
  (zda:findIn K (.ref U0) "__setattr__" = some (some (.builtin "object.__setattr__")))
  (zdb:makesIn K U0=true)
  (zdc:keepIn K (.ref U0)=true)
  (zdd:findIn K (.ref U0) "__class__" = some (some (.builtin "object.__class__")))
  (zde:mroIn K U0 (.type "object")=some true)
  (zdf:isClsIn K U0=true)
  (zdg:typeIn K (.ref U0)=some (.type "type"))
  (zdh:findIn K (.ref U0) "mark" = some none)
  (zdi:findIn K (.ref U0) "__init__" = some (some (.ref m17)))
  (zdj:findIn K (.ref U0) "told" = some (some (.ref m13)))
  (zdk:findIn K (.ref U0) "scores" = some (some (.ref m14)))
  (zdl:findIn K (.ref U0) "need_fit" = some (some (.ref m18)))
  (zdm:findIn K (.ref U0) "scored" = some (some (.ref m16)))
  (zdn:findIn K (.ref U0) "among" = some (some (.ref m19)))
  (zdo:mroIn K U0 (.ref U0)=some true)
  (zdp:mroIn K U0 (.ref U1)=some false)
  (zdq:mroIn K U0 (.ref U2)=some false)
  (zdr:mroIn K U0 (.ref U3)=some false)
  (zds:mroIn K U0 (.ref MS)=some true)
  (zdt:nsIn K mainGlobals "Ranks" = some (some (.ref U1)))
  (zdu:plainGet K U1 Str.empty=true)
  (zdv:hasDictIn K U1=true)
  (zdw:plainOver K U1=true)
  (zdx:findIn K (.ref U1) "__setattr__" = some (some (.builtin "object.__setattr__")))
  (zdy:makesIn K U1=true)
  (zdz:keepIn K (.ref U1)=true)
  (zdA:findIn K (.ref U1) "__class__" = some (some (.builtin "object.__class__")))
  (zdB:mroIn K U1 (.type "object")=some true)
  (zdC:isClsIn K U1=true)
  (zdD:typeIn K (.ref U1)=some (.type "type"))
  (zdE:findIn K (.ref U1) "mark" = some none)
  (zdF:findIn K (.ref U1) "__init__" = some (some (.ref m20)))
  (zdG:findIn K (.ref U1) "told" = some (some (.ref m13)))
  (zdH:findIn K (.ref U1) "scores" = some (some (.ref m14)))
  (zdI:findIn K (.ref U1) "need_fit" = some (some (.ref m21)))
  (zdJ:findIn K (.ref U1) "scored" = some (some (.ref m16)))
  (zdK:findIn K (.ref U1) "among" = some (some (.ref m22)))
  (zdL:mroIn K U1 (.ref U0)=some false)
  (zdM:mroIn K U1 (.ref U1)=some true)
  (zdN:mroIn K U1 (.ref U2)=some false)
  (zdO:mroIn K U1 (.ref U3)=some false)
  (zdP:mroIn K U1 (.ref MS)=some true)
  (zdQ:nsIn K mainGlobals "Wins" = some (some (.ref U2)))
  (zdR:plainGet K U2 Str.empty=true)
  (zdS:hasDictIn K U2=true)
  (zdT:plainOver K U2=true)
  (zdU:findIn K (.ref U2) "__setattr__" = some (some (.builtin "object.__setattr__")))
  (zdV:makesIn K U2=true)
  (zdW:keepIn K (.ref U2)=true)
  (zdX:findIn K (.ref U2) "__class__" = some (some (.builtin "object.__class__")))
  (zdY:mroIn K U2 (.type "object")=some true)
  (zdZ:isClsIn K U2=true)
  (zd0:typeIn K (.ref U2)=some (.type "type"))
  (zd1:findIn K (.ref U2) "mark" = some none)
  (zd2:findIn K (.ref U2) "__init__" = some (some (.ref m23)))
  (zd3:findIn K (.ref U2) "told" = some (some (.ref m13)))
  (zd4:findIn K (.ref U2) "scores" = some (some (.ref m14)))
  (zd5:findIn K (.ref U2) "need_fit" = some (some (.ref m15)))
  (zd6:findIn K (.ref U2) "scored" = some (some (.ref m16)))
  (zd7:findIn K (.ref U2) "among" = some (some (.ref m24)))
  (zd8:mroIn K U2 (.ref U0)=some false)
  (zd9:mroIn K U2 (.ref U1)=some false)
  (zea:mroIn K U2 (.ref U2)=some true)
  (zeb:mroIn K U2 (.ref U3)=some false)
  (zec:mroIn K U2 (.ref MS)=some true)
  (zed:nsIn K mainGlobals "Signs" = some (some (.ref U3)))
  (zee:plainGet K U3 Str.empty=true)
  (zef:hasDictIn K U3=true)
  (zeg:plainOver K U3=true)
  (zeh:findIn K (.ref U3) "__setattr__" = some (some (.builtin "object.__setattr__")))
  (zei:makesIn K U3=true)
  (zej:keepIn K (.ref U3)=true)
  (zek:findIn K (.ref U3) "__class__" = some (some (.builtin "object.__class__")))
  (zel:mroIn K U3 (.type "object")=some true)
  (zem:isClsIn K U3=true)
  (zen:typeIn K (.ref U3)=some (.type "type"))
  (zeo:findIn K (.ref U3) "mark" = some none)
  (zep:findIn K (.ref U3) "__init__" = some (some (.ref m25)))
  (zeq:findIn K (.ref U3) "told" = some (some (.ref m13)))
  (zer:findIn K (.ref U3) "scores" = some (some (.ref m14)))
  (zes:findIn K (.ref U3) "need_fit" = some (some (.ref m26)))
  (zet:findIn K (.ref U3) "scored" = some (some (.ref m16)))
  (zeu:findIn K (.ref U3) "among" = some (some (.ref m27)))
  (zev:mroIn K U3 (.ref U0)=some false)
  (zew:mroIn K U3 (.ref U1)=some false)
  (zex:mroIn K U3 (.ref U2)=some false)
  (zey:mroIn K U3 (.ref U3)=some true)
  (zez:mroIn K U3 (.ref MS)=some true)
  (zeA:nsIn K mainGlobals "MOST_FOLK" = some (some (.int (20) t_MOST_FOLK)))
  (zeB:nsIn K mainGlobals "MOST_PAIRS" = some (some (.int (10) t_MOST_PAIRS)))
  (zeC:nsIn K mainGlobals "MOST_FAR" = some (some (.int (20) t_MOST_FAR)))
  (zeD:nsIn K mainGlobals "MOST_RULES" = some (some (.int (6) t_MOST_RULES)))
  (zeE:nsIn K mainGlobals "MOST_BOTTOM" = some (some (.int (100) t_MOST_BOTTOM)))
  (zeF:nsIn K mainGlobals "LEAST_NUMBER" = some (some (.int (-99) t_LEAST_NUMBER)))
  (zeG:nsIn K mainGlobals "MOST_NUMBER" = some (some (.int (99) t_MOST_NUMBER)))
  (gt:specialIn K (.builtin "object.__class__") "__get__" = some (some (.builtin "getset_descriptor.__get__")))
  (tkT:takesIn K (.builtin "object.__class__")=some true)
  (zeH:nsIn K mainGlobals "isinstance" = some none)
  (zeI:nsIn K mainGlobals "int" = some none)
  (zeJ:nsIn K mainGlobals "bool" = some none)
  (zeK:nsIn K mainGlobals "len" = some none)
  (zeL:nsIn K mainGlobals "range" = some none)
  (zeM:nsIn K mainGlobals "tuple" = some none)
  (zeN:nsIn K mainGlobals "list" = some none)
  (zeO:nsIn K mainGlobals "sum" = some none)
  (zeP:nsIn K mainGlobals "all" = some none)
  (zeQ:nsIn K mainGlobals "max" = some none)
  (zeR:nsIn K mainGlobals "min" = some none)
  (zeS:nsIn K mainGlobals "enumerate" = some none)
  (zeT:nsIn K mainGlobals "zip" = some none)
  (zeU:nsIn K mainGlobals "sorted" = some none)
  (e0:Dn K mg "is_number" j4 ["thing"] g0 d0)
  (e1:Dn K mg "is_whole" n9 ["thing","low","high"] g1 d1)
  (e2:Dn K mg "greatest_common" ux ["one","other"] g2 d2)
  (e3:Dn K mg "is_part" nY ["top","bottom"] g3 d3)
  (e4:Dn K mg "is_share" uJ ["thing"] g4 d4)
  (e5:Dn K mg "need_number" DB ["thing","low","high"] g5 d5)
  (e6:Dn K mg "need_coin" DE ["thing"] g6 d6)
  (e7:Dn K mg "one_part" DK ["folk"] g7 d7)
  (e8:Dn K mg "may_be_block" sI ["thing"] g8 d8)
  (e9:Dn K mg "are_block_rules" DH ["thing"] g9 d9)
  (e10:Dn K mg "parts_of" DA ["rules"] g10 d10)
  (e11:Dn K mg "parts_below" xu ["parts","many"] g11 d11)
  (e12:Dn K mg "is_outcome" Dz ["thing"] g12 d12)
  (e13:Dn K mg "need_outcome" DF ["thing","place"] g13 d13)
  (e14:Dn K mg "need_outcomes" vb ["thing"] g14 d14)
  (e15:Dn K mg "need_outcomes_of" t7 ["thing","folk"] g15 d15)
  (e16:Dn K mg "surely_greater" DJ ["one","other"] g16 d16)
  (e17:Dn K mg "stands_to" DG ["one","other"] g17 d17)
  (e18:Dn K mg "need_sure" tH ["outcomes"] g18 d18)
  (e19:Dn K mg "block_marks" DO ["rule"] g19 d19)
  (e20:Dn K mg "need_pairs" DM ["rule"] g20 d20)
  (e21:Dn K mg "need_hands" Dy ["thing","folk"] g21 d21)
  (e22:Dn K mg "hand_of" DR ["dealing","at"] g22 d22)
  (e23:Dn K mg "value_of" vX ["scores","dealing"] g23 d23)
  (e24:Dn K mg "_law_whole" Du ["_law_found"] g24 d24)
  (e25:Dn K mg "_law_take" eS ["_law_script","_law_pen","_law_many"] g25 d25)
  (e26:Dn K mg "_law_plain_rule" nE ["_law_script","_law_pen","_law_most"] g26 d26)
  (e27:Dn K mg "_law_rule" ky ["_law_script","_law_pen","_law_most"] g27 d27)
  (e28:Dn K mg "_law_folk" DC ["_law_blocks"] g28 d28)
  (e29:Dn K mg "_law_outcomes" zL ["_law_script","_law_pen","_law_folk_here","_law_sure"] g29 d29)
  (e30:Dn K mg "_law_stands" Dx ["_law_one","_law_other"] g30 d30)
  (e31:Dn K mg "_law_between" zY ["_law_outcomes_here","_law_ones","_law_zeros"] g31 d31)
  (e32:Dn K mg "_law_by_pairs" zG ["_law_blocks","_law_outcomes_here","_law_dealing"] g32 d32)
  (e33:Dn K mg "_law_are_pairs" wL ["_law_blocks"] g33 d33)
  (e34:Dn K mg "_law_dealing_right" gj ["_law_rule_here","_law_blocks","_law_outcomes_here","_law_dealing"] g34 d34)
  (e35:Dn K mg "law" kZ ["_law_script"] g35 d35)
  (y0:Dm K "__init__" "Rule.__init__" su ["self","size","first_state","mark","parts"] m0 x0)
  (y1:Dm K "folk" "Rule.folk" t5 ["self"] m1 x1)
  (y2:Dm K "begin" "Rule.begin" sP ["self"] m2 x2)
  (y3:Dm K "told" "Rule.told" tq ["self"] m3 x3)
  (y4:Dm K "blocks" "Rule.blocks" ug ["self"] m4 x4)
  (y5:Dm K "__init__" "Split.__init__" ui ["self","folk","ones"] m5 x5)
  (y6:Dm K "__init__" "Pairs.__init__" uj ["self","pairs","coin"] m6 x6)
  (y7:Dm K "__init__" "Coins.__init__" vg ["self","folk","coin","far"] m7 x7)
  (y8:Dm K "__init__" "Blocks.__init__" tX ["self","rules"] m8 x8)
  (y9:Dm K "__init__" "First.__init__" sV ["self","rule","many"] m9 x9)
  (y10:Dm K "state_ahead" "Blocks.state_ahead" DI ["self","number"] m10 x10)
  (y11:Dm K "__init__" "Measure.__init__" tw ["self","mark"] m11 x11)
  (y12:Dm K "told" "Measure.told" sW ["self"] m12 x12)
  (y13:Dm K "told" "Measure.told" sW ["self"] m13 x13)
  (y14:Dm K "scores" "Measure.scores" ut ["self","rule","outcomes"] m14 x14)
  (y15:Dm K "need_fit" "Measure.need_fit" tK ["self","rule","outcomes"] m15 x15)
  (y16:Dm K "scored" "Measure.scored" vc ["self","rule","outcomes"] m16 x16)
  (y17:Dm K "__init__" "Sum.__init__" tz ["self"] m17 x17)
  (y18:Dm K "need_fit" "Sum.need_fit" sF ["self","rule","outcomes"] m18 x18)
  (y19:Dm K "among" "Sum.among" um ["self","outcomes"] m19 x19)
  (y20:Dm K "__init__" "Ranks.__init__" sU ["self"] m20 x20)
  (y21:Dm K "need_fit" "Ranks.need_fit" uO ["self","rule","outcomes"] m21 x21)
  (y22:Dm K "among" "Ranks.among" gJ ["self","outcomes"] m22 x22)
  (y23:Dm K "__init__" "Wins.__init__" tO ["self"] m23 x23)
  (y24:Dm K "among" "Wins.among" jZ ["self","outcomes"] m24 x24)
  (y25:Dm K "__init__" "Signs.__init__" uw ["self"] m25 x25)
  (y26:Dm K "need_fit" "Signs.need_fit" ss ["self","rule","outcomes"] m26 x26)
  (y27:Dm K "among" "Signs.among" jF ["self","outcomes"] m27 x27)
  (hb:∀(s:Shared)(v:Value),BindsTo s d35 ⟨[v],[]⟩ [("_law_script",v)])
  : ∃ fd:FuncData,(∀(s:Shared)(v:Value),BindsTo s fd ⟨[v],[]⟩ [("_law_script",v)])/\∀ base:Heap,K.In base->base.Ns mainGlobals mg->FnOk l.prog w K mg base aq 11 fa fd ["_law_script"] (nS K):=by
 have e:=hfa.symm.trans e35.mg;cases e;refine⟨_,hb,λ base _ _=>?_⟩;have m_isinstance:=mg_none_of X G zeH;have m_int:=mg_none_of X G zeI;have m_bool:=mg_none_of X G zeJ;have m_len:=mg_none_of X G zeK;have m_range:=mg_none_of X G zeL;have m_tuple:=mg_none_of X G zeM;have m_list:=mg_none_of X G zeN;have m_sum:=mg_none_of X G zeO;have m_all:=mg_none_of X G zeP;have m_max:=mg_none_of X G zeQ;have m_min:=mg_none_of X G zeR;have m_enumerate:=mg_none_of X G zeS;have m_zip:=mg_none_of X G zeT;have m_sorted:=mg_none_of X G zeU;have T:sd K:=⟨gt,tkT⟩;have mD:=mg_of X G aD;have o3:=EY B eE3 mD (mg_of X G a3) (dF (st:=i7) lf3 cf3 kf3) tk3;have o4:=ES B eE4 mD (mg_of X G a4) (dF (st:=iY) lf4 cf4 kf4) tk4;have o5:=Ep B eE5 mD (mg_of X G a5) (dF (st:=jn) lf5 cf5 kf5) tk5;have o7:=Fm B eE7 mD (mg_of X G a7) (dF (st:=ju) lf7 cf7 kf7) tk7;have o8:=En B eE8 mD (mg_of X G a8) (dF (st:=ja) lf8 cf8 kf8) tk8;have o9:=D0 B eE9 mD (mg_of X G a9) (dF (st:=jx) lf9 cf9 kf9) tk9;have o10:=Ds B eE10 mD (mg_of X G a10) (dF (st:=gC) lf10 cf10 kf10) tk10;have o11:=A9 B eE11 mD (mg_of X G a11) (dF (st:=gs) lf11 cf11 kf11) tk11;have n_MOST_FOLK:=mg_of X G zeA;have n_MOST_PAIRS:=mg_of X G zeB;have n_MOST_FAR:=mg_of X G zeC;have n_MOST_RULES:=mg_of X G zeD;have n_MOST_BOTTOM:=mg_of X G zeE;have n_LEAST_NUMBER:=mg_of X G zeF;have n_MOST_NUMBER:=mg_of X G zeG;have mB_R:=mg_of X G ns_R;have CF_R_init:dR K R "__init__" m0:=⟨zaa,zab,zac,y0.kp⟩;have mB_MS:=mg_of X G zad;have CF_MS_init:dR K MS "__init__" m11:=⟨zae,zaf,zag,y11.kp⟩;have CF_MS_told:dR K MS "told" m12:=⟨zae,zaf,zah,y12.kp⟩;have mC_C0:=mg_of X G zal;have cls_C0:Cls K C0:=⟨zam,zan,zao,zap⟩;have mk_C0:Mk K C0 m5:=⟨zaq,zaE,y5.isf,zar⟩;have mC_C1:=mg_of X G zaT;have cls_C1:Cls K C1:=⟨zaU,zaV,zaW,zaX⟩;have mk_C1:Mk K C1 m6:=⟨zaY,zbc,y6.isf,zaZ⟩;have mC_C2:=mg_of X G zbr;have cls_C2:Cls K C2:=⟨zbs,zbt,zbu,zbv⟩;have mk_C2:Mk K C2 m7:=⟨zbw,zbK,y7.isf,zbx⟩;have mC_C3:=mg_of X G zbZ;have cls_C3:Cls K C3:=⟨zb0,zb1,zb2,zb3⟩;have mk_C3:Mk K C3 m8:=⟨zb4,zci,y8.isf,zb5⟩;have mC_C4:=mg_of X G zcy;have cls_C4:Cls K C4:=⟨zcz,zcA,zcB,zcC⟩;have mk_C4:Mk K C4 m9:=⟨zcD,zcR,y9.isf,zcE⟩;have mC_U0:=mg_of X G zc6;have cls_U0:Cls K U0:=⟨zc7,zc8,zc9,zda⟩;have mk_U0:Mk K U0 m17:=⟨zdb,zdi,y17.isf,zdc⟩;have mC_U1:=mg_of X G zdt;have cls_U1:Cls K U1:=⟨zdu,zdv,zdw,zdx⟩;have mk_U1:Mk K U1 m20:=⟨zdy,zdF,y20.isf,zdz⟩;have mC_U2:=mg_of X G zdQ;have cls_U2:Cls K U2:=⟨zdR,zdS,zdT,zdU⟩;have mk_U2:Mk K U2 m23:=⟨zdV,zd2,y23.isf,zdW⟩;have mC_U3:=mg_of X G zed;have cls_U3:Cls K U3:=⟨zee,zef,zeg,zeh⟩;have mk_U3:Mk K U3 m25:=⟨zei,zep,y25.isf,zej⟩;have GN_:=pV (P:=l.prog) (w:=w) (mg:=mg) (base:=base) T e0.fn m_isinstance m_int m_bool;have GN:=(e0.df GN_);have GW_:=sZ e1.fn GN_ e0.bi e0.kp e0.mg;have GW:=(e1.df GW_);have GG:=e2.df (yn (P:=l.prog) (w:=w) (mg:=mg) (base:=base) e2.fn);have GPa:=e3.df (sf e3.fn GN_ e0.bi e0.kp e0.mg GW_ e1.bi e1.kp e1.mg);have GSh:=e4.df (yj T e4.fn GPa GG m_isinstance m_tuple m_len);have GM:=e5.df (CV e5.fn B o4 GW);have GC:=e6.df (Ct e6.fn B o3 GW GSh n_MOST_BOTTOM);have GP:=e7.df (Ca (P:=l.prog) (w:=w) (mg:=mg) (base:=base) e7.fn m_tuple m_range);have Z:KR K (eI C0 C1 C2 C3 C4) R:={
  cls:=λ i hi=>match i,hi with
   | 0,_=>cls_C0
   | 1,_=>cls_C1
   | 2,_=>cls_C2
   | 3,_=>cls_C3
   | 4,_=>cls_C4
  no:=λ i hi=>match i,hi with
   | 0,_=>Dh zaw zax zay zaz zaA zaB zaC zaD
   | 1,_=>Dh za4 za5 za6 za7 za8 za9 zba zbb
   | 2,_=>Dh zbC zbD zbE zbF zbG zbH zbI zbJ
   | 3,_=>Dh zca zcb zcc zcd zce zcf zcg zch
   | 4,_=>Dh zcJ zcK zcL zcM zcN zcO zcP zcQ
  ha:=λ i hi=>match i,hi with
   | 0,_=>zas
   | 1,_=>za0
   | 2,_=>zby
   | 3,_=>zb6
   | 4,_=>zcF
  hn:=gt
  htk:=tkT
  hm:=λ i hi=>match i,hi with
   | 0,_=>zat
   | 1,_=>za1
   | 2,_=>zbz
   | 3,_=>zb7
   | 4,_=>zcG
  kk:=λ i j hi hj=>match i,j,hi,hj with
   | 0,0,_,_=>aC zau zav zaJ zaJ
   | 0,1,_,_=>aC za2 za3 zbi zaK
   | 0,2,_,_=>aC zbA zbB zbR zaL
   | 0,3,_,_=>aC zb8 zb9 zcr zaM
   | 0,4,_,_=>aC zcH zcI zc0 zaN
   | 1,0,_,_=>aC zau zav zaJ zbh
   | 1,1,_,_=>aC za2 za3 zbi zbi
   | 1,2,_,_=>aC zbA zbB zbR zbj
   | 1,3,_,_=>aC zb8 zb9 zcr zbk
   | 1,4,_,_=>aC zcH zcI zc0 zbl
   | 2,0,_,_=>aC zau zav zaJ zbP
   | 2,1,_,_=>aC za2 za3 zbi zbQ
   | 2,2,_,_=>aC zbA zbB zbR zbR
   | 2,3,_,_=>aC zb8 zb9 zcr zbS
   | 2,4,_,_=>aC zcH zcI zc0 zbT
   | 3,0,_,_=>aC zau zav zaJ zco
   | 3,1,_,_=>aC za2 za3 zbi zcp
   | 3,2,_,_=>aC zbA zbB zbR zcq
   | 3,3,_,_=>aC zb8 zb9 zcr zcr
   | 3,4,_,_=>aC zcH zcI zc0 zcs
   | 4,0,_,_=>aC zau zav zaJ zcW
   | 4,1,_,_=>aC za2 za3 zbi zcX
   | 4,2,_,_=>aC zbA zbB zbR zcY
   | 4,3,_,_=>aC zb8 zb9 zcr zcZ
   | 4,4,_,_=>aC zcH zcI zc0 zc0
  kR:=λ i hi=>match i,hi with
   | 0,_=>aC ic_R ty_R ss_R zaO
   | 1,_=>aC ic_R ty_R ss_R zbm
   | 2,_=>aC ic_R ty_R ss_R zbU
   | 3,_=>aC ic_R ty_R ss_R zct
   | 4,_=>aC ic_R ty_R ss_R zc1
  kl:=λ i hi=>match i,hi with
   | 0,_=>aX (by decide +kernel) zaQ
   | 1,_=>aX (by decide +kernel) zbo
   | 2,_=>aX (by decide +kernel) zbW
   | 3,_=>aX (by decide +kernel) zcv
   | 4,_=>aX (by decide +kernel) zc3
  kt:=λ i hi=>match i,hi with
   | 0,_=>aX (by decide +kernel) zaP
   | 1,_=>aX (by decide +kernel) zbn
   | 2,_=>aX (by decide +kernel) zbV
   | 3,_=>aX (by decide +kernel) zcu
   | 4,_=>aX (by decide +kernel) zc2
  ki:=λ i hi=>match i,hi with
   | 0,_=>aX (by decide +kernel) zaR
   | 1,_=>aX (by decide +kernel) zbp
   | 2,_=>aX (by decide +kernel) zbX
   | 3,_=>aX (by decide +kernel) zcw
   | 4,_=>aX (by decide +kernel) zc4
  kb:=λ i hi=>match i,hi with
   | 0,_=>aX (by decide +kernel) zaS
   | 1,_=>aX (by decide +kernel) zbq
   | 2,_=>aX (by decide +kernel) zbY
   | 3,_=>aX (by decide +kernel) zcx
   | 4,_=>aX (by decide +kernel) zc5
 }
 have I0:=xB (P:=l.prog) (w:=w) (mg:=mg) (base:=base) Z y0.fn;have I1:=yI (P:=l.prog) (w:=w) (mg:=mg) (base:=base) Z y1.fn;have I2:=yU (P:=l.prog) (w:=w) (mg:=mg) (base:=base) Z y2.fn;have I3:=yo (P:=l.prog) (w:=w) (mg:=mg) (base:=base) Z y3.fn;have I4:=yK (P:=l.prog) (w:=w) (mg:=mg) (base:=base) Z y4.fn m_list;have M_folk:cq l.prog w K mg base aq 1 "folk" ["self"] (oJ (eI C0 C1 C2 C3 C4)) (λ _=>j8 (eI C0 C1 C2 C3 C4)):=by
  rintro c ⟨i,hi,rfl⟩
  match i,hi with
  | 0,_=>exact⟨cls_C0,m1,x1,⟨zaF,y1.isf,y1.kp⟩,I1,y1.bi⟩
  | 1,_=>exact⟨cls_C1,m1,x1,⟨zbd,y1.isf,y1.kp⟩,I1,y1.bi⟩
  | 2,_=>exact⟨cls_C2,m1,x1,⟨zbL,y1.isf,y1.kp⟩,I1,y1.bi⟩
  | 3,_=>exact⟨cls_C3,m1,x1,⟨zcj,y1.isf,y1.kp⟩,I1,y1.bi⟩
  | 4,_=>exact⟨cls_C4,m1,x1,⟨zcS,y1.isf,y1.kp⟩,I1,y1.bi⟩
 have M_begin:cq l.prog w K mg base aq 1 "begin" ["self"] (oJ (eI C0 C1 C2 C3 C4)) (λ _=>hW (eI C0 C1 C2 C3 C4)):=by
  rintro c ⟨i,hi,rfl⟩
  match i,hi with
  | 0,_=>exact⟨cls_C0,m2,x2,⟨zaG,y2.isf,y2.kp⟩,I2,y2.bi⟩
  | 1,_=>exact⟨cls_C1,m2,x2,⟨zbe,y2.isf,y2.kp⟩,I2,y2.bi⟩
  | 2,_=>exact⟨cls_C2,m2,x2,⟨zbM,y2.isf,y2.kp⟩,I2,y2.bi⟩
  | 3,_=>exact⟨cls_C3,m2,x2,⟨zck,y2.isf,y2.kp⟩,I2,y2.bi⟩
  | 4,_=>exact⟨cls_C4,m2,x2,⟨zcT,y2.isf,y2.kp⟩,I2,y2.bi⟩
 have M_told:cq l.prog w K mg base aq 1 "told" ["self"] (oJ (eI C0 C1 C2 C3 C4)) (λ _=>ib (eI C0 C1 C2 C3 C4)):=by
  rintro c ⟨i,hi,rfl⟩
  match i,hi with
  | 0,_=>exact⟨cls_C0,m3,x3,⟨zaH,y3.isf,y3.kp⟩,I3,y3.bi⟩
  | 1,_=>exact⟨cls_C1,m3,x3,⟨zbf,y3.isf,y3.kp⟩,I3,y3.bi⟩
  | 2,_=>exact⟨cls_C2,m3,x3,⟨zbN,y3.isf,y3.kp⟩,I3,y3.bi⟩
  | 3,_=>exact⟨cls_C3,m3,x3,⟨zcl,y3.isf,y3.kp⟩,I3,y3.bi⟩
  | 4,_=>exact⟨cls_C4,m3,x3,⟨zcU,y3.isf,y3.kp⟩,I3,y3.bi⟩
 have M_blocks:cq l.prog w K mg base aq 1 "blocks" ["self"] (oJ (eI C0 C1 C2 C3 C4)) (λ _=>qT (eI C0 C1 C2 C3 C4)):=by
  rintro c ⟨i,hi,rfl⟩
  match i,hi with
  | 0,_=>exact⟨cls_C0,m4,x4,⟨zaI,y4.isf,y4.kp⟩,I4,y4.bi⟩
  | 1,_=>exact⟨cls_C1,m4,x4,⟨zbg,y4.isf,y4.kp⟩,I4,y4.bi⟩
  | 2,_=>exact⟨cls_C2,m4,x4,⟨zbO,y4.isf,y4.kp⟩,I4,y4.bi⟩
  | 3,_=>exact⟨cls_C3,m4,x4,⟨zcm,y4.isf,y4.kp⟩,I4,y4.bi⟩
  | 4,_=>exact⟨cls_C4,m4,x4,⟨zcV,y4.isf,y4.kp⟩,I4,y4.bi⟩
 have Mm:Ms l.prog w K mg base (eI C0 C1 C2 C3 C4):=⟨M_folk,M_begin,M_told,M_blocks⟩;have I10:=Bz Z y10.fn Mm m_len;have MA:cq l.prog w K mg base aq 2 "state_ahead" ["self","number"] (λ c=>c=(eI C0 C1 C2 C3 C4) 3) (λ _=>yP (eI C0 C1 C2 C3 C4)):=by
  rintro c rfl;exact⟨cls_C3,m10,x10,⟨zcn,y10.isf,y10.kp⟩,I10,y10.bi⟩
 have GMB:=e8.df (z8 (P:=l.prog) (w:=w) (mg:=mg) (base:=base) (K:=K) (C:=eI C0 C1 C2 C3 C4) e8.fn mC_C0 mC_C1 mC_C2 m_isinstance);have GAB:=e9.df (AJ T e9.fn GMB GW n_MOST_RULES m_isinstance m_list m_len m_all);have GPO:=e10.df (BL e10.fn Mm m_tuple m_range);have GPB:=e11.df (AC (P:=l.prog) (w:=w) (mg:=mg) (base:=base) e11.fn m_tuple m_len);have I5:=yV y5.fn CF_R_init I0 y0.bi mB_R GM GP n_MOST_FOLK;have I6:=xN Z y6.fn CF_R_init I0 y0.bi mB_R GM GP GC n_MOST_PAIRS;have I7:=wf Z y7.fn CF_R_init I0 y0.bi mB_R GM GP GC n_MOST_FOLK n_MOST_FAR;have I8:=v6 Z y8.fn Mm MA B o7 o11 CF_R_init I0 y0.bi mB_R GAB GPO n_MOST_FOLK m_sum m_tuple;have I9:=wb T Z y9.fn Mm CF_R_init I0 y0.bi mB_R GM GPB mC_C4 m_isinstance;have Lk:Dk l.prog w K mg base (eI C0 C1 C2 C3 C4) CE4 CE3 CE7 CE11 m5 m6 m7 m8 m9 x5 x6 x7 x8 x9:=⟨mk_C0,mk_C1,mk_C2,mk_C3,mk_C4,I5,I6,I7,I8,I9,y5.bi,y6.bi,y7.bi,y8.bi,y9.bi,mC_C0,mC_C1,mC_C2,mC_C3,mC_C4⟩;have GIo:=e12.df (Av T e12.fn GW n_LEAST_NUMBER n_MOST_NUMBER m_isinstance m_tuple m_len m_bool);have GNo:=e13.df (Cj e13.fn B o8 GIo);have GNs:=e14.df (xI T e14.fn B o5 GNo m_isinstance m_list m_enumerate);have GOf:=e15.df (zC e15.fn B o5 GNs m_len);have GSg:=e16.df (Dj (P:=l.prog) (w:=w) (mg:=mg) (base:=base) e16.fn);have GSt:=e17.df (Bo e17.fn GNo GSg);have GSu:=e18.df (w4 (P:=l.prog) (w:=w) (mg:=mg) (base:=base) e18.fn B o9 m_enumerate);have GBm:=e19.df (B9 e19.fn Mm);have GNp:=e20.df (B6 e20.fn Mm B o10 GBm m_enumerate m_zip m_len);have Zm:KM K (dS U0 U1 U2 U3):=⟨λ i hi=>match i,hi with
   | 0,_=>cls_U0
   | 1,_=>cls_U1
   | 2,_=>cls_U2
   | 3,_=>cls_U3,λ i hi=>match i,hi with
   | 0,_=>zdh
   | 1,_=>zdE
   | 2,_=>zd1
   | 3,_=>zeo⟩
 have dj:∀ i j,i<4->j<4->(dS U0 U1 U2 U3) i=(dS U0 U1 U2 U3) j->i=j:=λ i j hi hj=>match i,j,hi,hj with
   | 0,0,_,_=>λ _=>rfl
   | 0,1,_,_=>λ e=>absurd e (cY zdM zdp)
   | 0,2,_,_=>λ e=>absurd e (cY zea zdq)
   | 0,3,_,_=>λ e=>absurd e (cY zey zdr)
   | 1,0,_,_=>λ e=>absurd e (cY zdo zdL)
   | 1,1,_,_=>λ _=>rfl
   | 1,2,_,_=>λ e=>absurd e (cY zea zdN)
   | 1,3,_,_=>λ e=>absurd e (cY zey zdO)
   | 2,0,_,_=>λ e=>absurd e (cY zdo zd8)
   | 2,1,_,_=>λ e=>absurd e (cY zdM zd9)
   | 2,2,_,_=>λ _=>rfl
   | 2,3,_,_=>λ e=>absurd e (cY zey zeb)
   | 3,0,_,_=>λ e=>absurd e (cY zdo zev)
   | 3,1,_,_=>λ e=>absurd e (cY zdM zew)
   | 3,2,_,_=>λ e=>absurd e (cY zea zex)
   | 3,3,_,_=>λ _=>rfl
 have J11:=yr (P:=l.prog) (w:=w) (mg:=mg) (base:=base) Zm y11.fn;have J17:=wg y17.fn CF_MS_init J11 y11.bi mB_MS;have J20:=wE y20.fn CF_MS_init J11 y11.bi mB_MS;have J23:=v9 y23.fn CF_MS_init J11 y11.bi mB_MS;have J25:=zf y25.fn CF_MS_init J11 y11.bi mB_MS;have J19:=Eu (MC:=(dS U0 U1 U2 U3)) dj (zS (P:=l.prog) (w:=w) (mg:=mg) (base:=base) y19.fn);have J22:=DV (MC:=(dS U0 U1 U2 U3)) dj (yB (P:=l.prog) (w:=w) (mg:=mg) (base:=base) y22.fn m_sorted);have J24:=EK (MC:=(dS U0 U1 U2 U3)) dj (yW y24.fn GSt m_sum);have J27:=FA (MC:=(dS U0 U1 U2 U3)) dj (xY y27.fn GSt m_enumerate);have J18:=D7 (C:=(eI C0 C1 C2 C3 C4)) (CN:=CE10) (MC:=(dS U0 U1 U2 U3)) dj (yd y18.fn GSu);have J21:=Fq (C:=(eI C0 C1 C2 C3 C4)) (CN:=CE10) (MC:=(dS U0 U1 U2 U3)) dj (zM y21.fn GSu);have J15:=Eb (C:=(eI C0 C1 C2 C3 C4)) (CU:=CE9) (CN:=CE10) (MC:=(dS U0 U1 U2 U3)) dj (we (P:=l.prog) (w:=w) (mg:=mg) (base:=base) y15.fn);have J26:=EB (CU:=CE9) (MC:=(dS U0 U1 U2 U3)) dj (yA y26.fn GNp);have Mam:cq l.prog w K mg base aq 7 "among" ["self","outcomes"] (pK (dS U0 U1 U2 U3)) (jk (dS U0 U1 U2 U3)):=by
  rintro c ⟨i,hi,rfl⟩
  match i,hi with
  | 0,_=>exact⟨cls_U0,m19,x19,⟨zdn,y19.isf,y19.kp⟩,J19,y19.bi⟩
  | 1,_=>exact⟨cls_U1,m22,x22,⟨zdK,y22.isf,y22.kp⟩,J22,y22.bi⟩
  | 2,_=>exact⟨cls_U2,m24,x24,⟨zd7,y24.isf,y24.kp⟩,J24,y24.bi⟩
  | 3,_=>exact⟨cls_U3,m27,x27,⟨zeu,y27.isf,y27.kp⟩,J27,y27.bi⟩
 have Mft:cq l.prog w K mg base (cC l.prog w) 5 "need_fit" ["self","rule","outcomes"] (pK (dS U0 U1 U2 U3)) (iJ (eI C0 C1 C2 C3 C4) (dS U0 U1 U2 U3) CE9 CE10):=by
  rintro c ⟨i,hi,rfl⟩
  match i,hi with
  | 0,_=>exact⟨cls_U0,m18,x18,⟨zdl,y18.isf,y18.kp⟩,J18,y18.bi⟩
  | 1,_=>exact⟨cls_U1,m21,x21,⟨zdI,y21.isf,y21.kp⟩,J21,y21.bi⟩
  | 2,_=>exact⟨cls_U2,m15,x15,⟨zd5,y15.isf,y15.kp⟩,J15,y15.bi⟩
  | 3,_=>exact⟨cls_U3,m26,x26,⟨zes,y26.isf,y26.kp⟩,J26,y26.bi⟩
 have J16:=Ad y16.fn Mam;have Msd:cq l.prog w K mg base aq 8 "scored" ["self","rule","outcomes"] (pK (dS U0 U1 U2 U3)) (lF (dS U0 U1 U2 U3)):=by
  rintro c ⟨i,hi,rfl⟩
  match i,hi with
  | 0,_=>exact⟨cls_U0,m16,x16,⟨zdm,y16.isf,y16.kp⟩,uN J16,y16.bi⟩
  | 1,_=>exact⟨cls_U1,m16,x16,⟨zdJ,y16.isf,y16.kp⟩,uN J16,y16.bi⟩
  | 2,_=>exact⟨cls_U2,m16,x16,⟨zd6,y16.isf,y16.kp⟩,uN J16,y16.bi⟩
  | 3,_=>exact⟨cls_U3,m16,x16,⟨zet,y16.isf,y16.kp⟩,uN J16,y16.bi⟩
 have J14:=yL y14.fn Mm GOf Mft Msd;have Mss:cq l.prog w K mg base (cC l.prog w) 9 "scores" ["self","rule","outcomes"] (pK (dS U0 U1 U2 U3)) (λ _=>nB (eI C0 C1 C2 C3 C4) (dS U0 U1 U2 U3) CE9 CE10):=by
  rintro c ⟨i,hi,rfl⟩
  match i,hi with
  | 0,_=>exact⟨cls_U0,m14,x14,⟨zdk,y14.isf,y14.kp⟩,J14,y14.bi⟩
  | 1,_=>exact⟨cls_U1,m14,x14,⟨zdH,y14.isf,y14.kp⟩,J14,y14.bi⟩
  | 2,_=>exact⟨cls_U2,m14,x14,⟨zd4,y14.isf,y14.kp⟩,J14,y14.bi⟩
  | 3,_=>exact⟨cls_U3,m14,x14,⟨zer,y14.isf,y14.kp⟩,J14,y14.bi⟩
 have Lm:FT l.prog w K mg base (dS U0 U1 U2 U3) m17 m20 m23 m25 x17 x20 x23 x25:=⟨mk_U0,mk_U1,mk_U2,mk_U3,J17,J20,J23,J25,y17.bi,y20.bi,y23.bi,y25.bi,mC_U0,mC_U1,mC_U2,mC_U3⟩;have Vh:=e22.df (AE (P:=l.prog) (w:=w) (mg:=mg) (base:=base) e22.fn);have Vn:=e21.df (BC e21.fn GW);have Vo:=e23.df (AR e23.fn Vn Vh m_len m_sum m_enumerate);have Lw:=e24.df (BZ (P:=l.prog) (w:=w) (mg:=mg) (base:=base) T e24.fn m_isinstance m_int m_bool);have Lt:=e25.df (tR (P:=l.prog) (w:=w) (mg:=mg) (base:=base) e25.fn m_len m_min);have Lp:=e26.df (Aq e26.fn Lk Lt);have Lr:=e27.df (BV e27.fn Lk Lt Lp m_range m_max m_int m_list m_len);have Lf:=e28.df (BD (P:=l.prog) (w:=w) (mg:=mg) (base:=base) e28.fn m_sum m_len);have Lo:=e29.df (Dl e29.fn Lt m_range);have Ls:=e30.df (BO (P:=l.prog) (w:=w) (mg:=mg) (base:=base) e30.fn m_int);have La:=e31.df (Bv e31.fn Ls);have Lb:=e32.df (CA e32.fn Ls m_len m_range);have Lc:=e33.df (Aw (P:=l.prog) (w:=w) (mg:=mg) (base:=base) e33.fn m_len);have Ld:=e34.df (B7 e34.fn ⟨Lm,Mss,Vo,Lw,La,Lc,Lb,m_list,m_range,m_len,m_all,m_sum⟩);exact wu e35.fn ⟨Lt,Lr,Lo,Lf,Ld,m_range,m_int⟩
theorem walk {l:OpenLaw}{q:Program}{loose:List Str}{XP:(Str->Option Value)->Heap->Prop}{YP:World->Heap->Prop}{d:DefRec}{K:Params->Frag}(hn:l.most=some 63)(hdf:d.params.defaults=[])
  (hY:∀(w:World)(h:Heap),YP w h->(K w.params).In h)
  (F:∀(w:World)(mg:Str->Option Value)(fa:Addr)(h:Heap),(K w.params).In h->h.Ns mainGlobals mg->mg d.name=some (.ref fa) ->
   ∃ fd:FuncData,(∀(s:Shared)(u:Value),BindsTo s fd ⟨[u],[]⟩ [("_law_script",u)])/\∀ base:Heap,(K w.params).In base->base.Ns mainGlobals mg->FnOk l.prog w (K w.params) mg base aq 11 fa fd ["_law_script"] (nS (K w.params))) :
  WalkO q loose XP YP l.row.toRowW d [] (λ f vs=>PySem.call f vs) :=
 L2.walk_ofS (n:=63) (k:=11) (x:="_law_script") (CX:=λ _=>aq) (sp:=λ w=>nS (K w.params)) hn (by decide) hdf ⟨rfl,by decide,by decide,rfl⟩ hY F (λ _ _ a ns hl _ hS hz=>⟨a,ns,rfl,hS,hl,hz,λ _=>rfl⟩) λ _ _ _ _ _ z=>z
end My
open PySem PySem.W PyProof.Rows
namespace PySem.W.Fast
def tw7863288679275739897:=()
def tw4431081695379255384:=()
def tw3850722693198253890:=()
def tw1377399495206792111:=()
def tw13557327969132279144:=()
def tw16883130210926204418:=()
def tw7953211338158597509:=()
def tw5542892619442209752:=()
def tw2615294248911854577:=()
def tw5201476200067148467:=()
def tw8561317059555081706:=()
def tw16798575023677645295:=()
def tw8521142195944342170:=()
def tw16557650902810351730:=()
def tw12075784641284472890:=()
def tw18170555269289394354:=()
def tw5380745256458002686:=()
def tw16426069492644093229:=()
def tw15460288283728898232:=()
def tw7634184751150757320:=()
def tw13937221840404860754:=()
def tw17960723692588873703:=()
def tw14963868499385099359:=()
def tw13776230439024664286:=()
def tw14725476304751377443:=()
def tw15114907676714444224:=()
def tw2908882322346746546:=()
def tw3855292856413655565:=()
def tw14114672954210937490:=()
def tw3798759759751897919:=()
def tw15518464321425102554:=()
def tw8103098860321937976:=()
def tw1954870470940339708:=()
def tw12931700483872405702:=()
def tw3312446054535674095:=()
def tw13891551954421291210:=()
def tw314684147755381143:=()
def tw9266223069194583900:=()
def tw10458033156791606487:=()
def tw7598427612616800477:=()
def tw10389047227785048949:=()
def tw13354218512793735012:=()
def tw6538423806385128091:=()
def tw4944992676970671612:=()
def tw2621966633568952743:=()
def tw15693193401881411862:=()
def tw11452056619437418756:=()
def tw14461014245255465822:=()
def tw11130994181845639284:=()
def tw848021027787085141:=()
def tw5035760134108536398:=()
def tw4201630764450576189:=()
def tw4395345981634329882:=()
def tw4502534293606584435:=()
def tw18273237743140578676:=()
def tw9805164220754582808:=()
def tw4194078323760197398:=()
def tw9851878585848241705:=()
def tw17672059680839729527:=()
def tw9005586610947833080:=()
def tw16779202448319462041:=()
def tw8748412615625713213:=()
def tw4407211083181139788:=()
def tw5966893041110706815:=()
def tw15639132053810445213:=()
def tw15236330994724090352:=()
def tw3683788509203625348:=()
def tw9335546390528473210:=()
def tw1430402305995488492:=()
def tw4609685666273358825:=()
def tw12951937553721067900:=()
def tw5456472562685988391:=()
def tw1162746955468487075:=()
def tw7092945005491693943:=()
def tw7528121569330255629:=()
def tw4260370896679340180:=()
def tw609161561668829219:=()
def tw7379276549105362469:=()
def tw12904055773742998164:=()
def tw16708988363578043753:=()
def tw11408788104550391785:=()
def tw2202161734706883074:=()
def tw14761846560161915449:=()
def tw6279697267624332393:=()
def tw1911670276176643634:=()
def tw17922469659452190220:=()
def tw6820028181142948958:=()
def tw960946686140755712:=()
def tw4740174067786829768:=()
def tw2081148718158510083:=()
def tw3626160313397883098:=()
def tw13061988396029307257:=()
def tw12967868314705043511:=()
def tw5094062137423787081:=()
def tw3372576581584591627:=()
def tw11157139321935505660:=()
def tw9972736828130478186:=()
def tw5627102580536350200:=()
def tw2691254386688821165:=()
def tw5225960924540800986:=()
def tw14513655407837245776:=()
def tw16216190413008914541:=()
def tw618317841612923936:=()
def tw16385500750553723287:=()
def tw2803944270359304483:=()
def tw13770571714069246527:=()
def tw15739821453209214953:=()
def tw8710558244584334993:=()
def tw13870316265068627726:=()
def tw1000532423296893888:=()
def tw16293239143178333914:=()
def tw5768835286790068076:=()
def tw7264559324069739604:=()
def tw6158390444600403224:=()
def tw12583985351120301657:=()
def tw11504785811572737788:=()
def tw242027533125394090:=()
def tw10132777083383679574:=()
def tw14776307034169880422:=()
def tw13935281449795219819:=()
def tw11947577720653144518:=()
def tw17936697853125996290:=()
def tw3862161526410362434:=()
def tw3761889808916078451:=()
def tw7330425158798455721:=()
def tw18050482246890339527:=()
def tw16874798430779284517:=()
def tw11423438266850843930:=()
def tw9604581684400862094:=()
def tw11391603716001851624:=()
def tw11967177801814773610:=()
def tw13017367357013836748:=()
def tw9278181416448904794:=()
def tw12513456861452398228:=()
def tw16509141336396219525:=()
def tw16793998212224824204:=()
def tw6712375374911068172:=()
def tw9892569638879102672:=()
def tw8032089686482299402:=()
def tw7463301817804629013:=()
def tw9540944431991444481:=()
def tw16706871107771133873:=()
def tw5705107508431041770:=()
def tw1866418527328907790:=()
def tw11059774068383842662:=()
def tw16779459269578709373:=()
def tw14597733270556063450:=()
def tw5889347354188523259:=()
def tw7701668914864957066:=()
def tw1789979505266668572:=()
def tw5780395026198570619:=()
def tw2588521548463921378:=()
def tw6471935414329529858:=()
def tw5670717024365751593:=()
def tw11952890354839120226:=()
def tw6143887859630723573:=()
def tw783102664698744181:=()
def tw1098531062595391200:=()
def tw6400126722292078133:=()
def tw12017704915311270523:=()
def tw7315420436538314469:=()
def tw14005784568211617110:=()
def tw13112267792044828737:=()
def tw1282761905376836749:=()
def tw8362307848623350545:=()
def tw10359492475783553178:=()
def tw6517491443341880652:=()
def tw17996010924968417032:=()
def tw11067173303971407458:=()
def tw11148309493942921819:=()
def tw1726454930416761419:=()
def tw12142275881043845524:=()
def tw12465045135698626399:=()
def tw6246248731400570288:=()
def tw908483617931639986:=()
def tw5578112472823555672:=()
def tw17842653975962151923:=()
def tw8172944646166447178:=()
def tw8395813586201007771:=()
def tw4618452720274177951:=()
def tw1585492674291334930:=()
def tw5047957722952228650:=()
def tw13733082247945590079:=()
def tw15576137278343337075:=()
def tw2162359325897482830:=()
def tw1238459332153704748:=()
def tw11887346193682415710:=()
def tw238180420430446084:=()
def tw4526234028140998668:=()
def tw3414647883858790846:=()
def tw5748749154187144991:=()
def tw6789096376069883927:=()
def tw1839387599577409683:=()
def tw2634883147670846757:=()
def tw10861206599412394029:=()
def tw12370733989560116829:=()
def tw15850028439308412679:=()
def tw2813426712663419293:=()
def tw17278278372321181619:=()
def tw3507605734477210413:=()
def tw8201865626740508909:=()
def tw5575344937723438946:=()
def tw3582315792666958969:=()
def tw17634973551176487266:=()
def tw10093885330041376160:=()
def tw5340449088776182098:=()
def tw1724802541924327375:=()
def tw1088213753080070179:=()
def tw16662653259312670063:=()
def tw17542914230591994456:=()
def tw1828540094834321248:=()
def tw12236566320160985939:=()
def tw8868404414955721665:=()
def tw5326884864999318676:=()
def tw7759393908356871824:=()
def tw13691611288502652361:=()
def tw18080404412505548722:=()
def tw1868939675737898078:=()
def tw12205631629856725805:=()
def tw10566333941553075209:=()
def tw1623457239249183334:=()
def tw12706481506332667120:=()
def tw6040734918671951091:=()
def tw2926625243068170780:=()
def tw1494984601861945508:=()
def tw12029210590381097331:=()
def tw16367333768782706709:=()
def tw16585189555157340512:=()
def tw11135524566909356059:=()
def tw11790004002515419858:=()
def tw16515914297091356793:=()
def tw6100751458136847934:=()
def tw605064887078056863:=()
def tw3453346022491474547:=()
def tw7394380967711151278:=()
def tw15570502387876488341:=()
def tw15281378235958910697:=()
def tw13049738512926232594:=()
def tw10529392350370497388:=()
def tw7028159920844435229:=()
def tw3084794389056671644:=()
def tw7416272688818451237:=()
def tw12389811657589745740:=()
def tw5152804403258685740:=()
def tw14588351723039861894:=()
def tw5750947647028193012:=()
def tw1803546786906751832:=()
def tw811889728576845935:=()
def tw13560514465164566898:=()
def tw229116397207628842:=()
def tw10613749746660788798:=()
def tw11897196170299210301:=()
def tw9493412827641177811:=()
def tw15058455357138864391:=()
def tw2843402141993789532:=()
def tw8295384992357536436:=()
def tw1252061678942010794:=()
def tw15261818416122901262:=()
def tw3326150916691669220:=()
def tw10738198281983600862:=()
def tw13086709990068631644:=()
def tw3955888234042180652:=()
def tw11242287807712363692:=()
def tw7971149325621328967:=()
def tw11455905111207371039:=()
def tw6503262563980751851:=()
def tw15563547831603935651:=()
def tw7056883829048725955:=()
def tw82525201350759562:=()
def tw7528912558255478453:=()
def tw12604599712348876542:=()
def tw15006986087925663557:=()
def tw685840811691718926:=()
def tw8876077721885555141:=()
def tw17469830542701693094:=()
def tw12241019945648685681:=()
def tw2438057209498777152:=()
def tw12000320972460832243:=()
def tw5841957644456883976:=()
def tw4336027908588885220:=()
def tw13257824186545274336:=()
def tw2617709177915162004:=()
def tw1489310970404739449:=()
def tw17607327824450840619:=()
def tw12160264793417045233:=()
def tw11745547695333716757:=()
def tw8729472114676527780:=()
def tw7255492802098166544:=()
def tw5532218550119159769:=()
def tw324899015783567616:=()
def tw18231957554245044864:=()
def tw5367553652133597903:=()
def tw15985791745831889334:=()
def tw16969476840899605618:=()
def tw7765632394126884988:=()
def tw10142646234072507048:=()
def tw6868532576667534283:=()
def tw6417318314374341311:=()
def tw15730201776938915909:=()
def tw14954945381462720973:=()
def tw15602037859715544285:=()
def tw7312864166099561788:=()
def tw7827022487921679538:=()
def tw9853309542898959210:=()
def tw1866276072440443835:=()
def tw3774537136891389468:=()
def tw4183143732910825416:=()
def tw17968555332258255146:=()
def tw13137214742103844251:=()
def tw4130683759781539920:=()
def tw9179415946563828920:=()
def tw7584508753906657649:=()
def tw18405937353668916147:=()
def tw14975300377317368509:=()
def tw17983342300782146399:=()
def tw2959858147897005739:=()
def tw14714369938732128139:=()
def tw2093969195746235216:=()
def tw14900435041152053962:=()
def tw12747607562764714323:=()
def tw17736540130852045334:=()
def tw6884748300640902617:=()
def tw11753180060140525141:=()
def tw11118719500130586211:=()
def tw12690138364079882764:=()
def tw11942724346088076559:=()
def tw13912304309516713195:=()
def tw13677519998659383539:=()
def tw4449506215403183932:=()
def tw17311547338812725779:=()
def tw10304856158234265752:=()
def tw11938844142012505235:=()
def tw16812721111371343187:=()
def tw12793632093498636408:=()
def tw6904170891343149463:=()
def tw2901858844072179344:=()
def tw1157225891783520810:=()
def tw15817030529238471039:=()
def tw11381780784427281342:=()
def tw5274067995307020228:=()
def tw2636172439696549345:=()
def tw2245567850927631391:=()
def tw10634265900485491168:=()
def tw17605893373317187438:=()
def tw9107441207087144009:=()
def tw949739054110086630:=()
def tw17378408144849248482:=()
def tw15162699009258998945:=()
def tw10434594331940204413:=()
def tw5476658613825662811:=()
def tw10706420428118092912:=()
def tw11364532490838195435:=()
def tw7126204986875448427:=()
def tw17326122816396528836:=()
def tw10350731770665067898:=()
def tw12776520997632862980:=()
def tw16865785064117500350:=()
def tw9338460459565119195:=()
def tw7722674214169894211:=()
def tw11121116509159544292:=()
def tw2325113319561652449:=()
def tw7490786718745209220:=()
def tw2356381431026147692:=()
def tw13608406793952826115:=()
def tw7611533664389694099:=()
def tw14326894477176488062:=()
def tw3774082551903327212:=()
def tw17190489303515545968:=()
def tw10797594347733478711:=()
def tw2208324060801400570:=()
def tw5664503752813332404:=()
def tw12460089580869591569:=()
def tw11976241147697742109:=()
def tw2858714272537629260:=()
def tw18315797884863603184:=()
def tw2208377030018702724:=()
def tw16442148160359157687:=()
def tw13776700484943569031:=()
def tw14326592699586214081:=()
def tw8656203811805147965:=()
def tw774236621592940673:=()
def tw3979948032900227592:=()
def tw194260473538370323:=()
def tw5204113825864811306:=()
def tw17478893646205124291:=()
def tw8396775046109191835:=()
def tw16161704346390096787:=()
def tw7846679172136503289:=()
def tw1771148798662601461:=()
def tw4064452285503585428:=()
def tw11578020220233073503:=()
def tw9633336370716939693:=()
def tw7617442412725425391:=()
def tw1830681341910049009:=()
def tw8052940224088198946:=()
def tw392041184708643320:=()
def tw8755154863840131502:=()
def tw3715408938572414011:=()
def tw7070077130642568582:=()
def tw12729894524683502285:=()
def tw3031287913750013411:=()
def tw328228416010333699:=()
def tw8469116709851555402:=()
def tw1656046794719061872:=()
def tw12661332666074586657:=()
def tw8489800886166543074:=()
def tw18075168510049275248:=()
def tw8739265930568185614:=()
def tw12806962651791991709:=()
def tw14212074132538195678:=()
def tw17021436899551225668:=()
def tw5253634833376182533:=()
def tw12127522285935704318:=()
def tw5851123643320455880:=()
def tw10705921099003048481:=()
def tw2432407355750949761:=()
def tw10513385396541327422:=()
def tw10339315216785730918:=()
def tw18170594746632981977:=()
def tw3755331086026225109:=()
def tw8719821026941335389:=()
def tw618247693460354597:=()
def tw10265921170150833808:=()
def tw11066109077136295178:=()
def tw13030425942761552917:=()
def tw14568226289061026789:=()
def tw2903638060712973921:=()
def tw10846507229870230483:=()
def tw5098822601254054629:=()
def tw1783218028640376189:=()
def tw13382601020975589287:=()
def tw2007989157291448306:=()
def tw4300735846169367433:=()
def tw10714013503335209225:=()
def tw16131887442424515347:=()
def tw18217194884763251582:=()
def tw12700729951791737385:=()
def tw12962155540282238701:=()
def tw1146459433311021885:=()
def tw3419576860696882940:=()
def tw9789366030385338677:=()
def tw10984746892452549972:=()
def tw2306236400875596893:=()
def tw7238279562108058541:=()
def tw5928034023155971571:=()
def tw12109866845565278291:=()
def tw4228146492982219777:=()
def tw10150454302980394070:=()
def tw17619658756737716484:=()
def tw5109339277202278993:=()
def tw4118783239566506524:=()
def tw14276918951636723448:=()
end PySem.W.Fast
set_option maxRecDepth 100000 in
set_option maxHeartbeats 0 in
theorem PySem.Challenge.cw_trialdeal_k17_whole_wins_between_hands_holds : PySem.Challenge.rw_trialdeal_k17_whole_wins_between_hands.Holds := by
 w_on;o_law;k_head;(case hw=>w_witness2)
 k_fill
 refine My.walk (l:=PySem.Challenge.rw_trialdeal_k17_whole_wins_between_hands) rfl rfl (λ w h Y=>PySem.W.kIn_of Y) ?F
 case F =>
  intro w mg fa h KX G hmg;refine' My.all_mk KX G hmg (My.base_mk ?jaa ?jab ?jac ?jad ?jae ?jaf ?jag ?jah ?jai ?jaj ?jak ?jal) (My.err_mk "NoShare" ?jam ?jan ?jao ?jap ?jaq ?jar ?jas ?jat) (My.err_mk "NoNumber" ?jau ?jav ?jaw ?jax ?jay ?jaz ?jaA ?jaB) (My.err_mk "NoFolk" ?jaC ?jaD ?jaE ?jaF ?jaG ?jaH ?jaI ?jaJ) (My.err_mk "NoTrials" ?jaK ?jaL ?jaM ?jaN ?jaO ?jaP ?jaQ ?jaR) (My.err_mk "NoOutcome" ?jaS ?jaT ?jaU ?jaV ?jaW ?jaX ?jaY ?jaZ) (My.err_mk "NotSure" ?ja0 ?ja1 ?ja2 ?ja3 ?ja4 ?ja5 ?ja6 ?ja7) (My.err_mk "NoPairs" ?ja8 ?ja9 ?jba ?jbb ?jbc ?jbd ?jbe ?jbf) (My.err_mk "TooMany" ?jbg ?jbh ?jbi ?jbj ?jbk ?jbl ?jbm ?jbn)
   ?jbo ?jbp ?jbq ?jbr ?jbs ?jbt ?jbu ?jbv ?jbw ?jbx ?jby ?jbz ?jbA ?jbB ?jbC ?jbD ?jbE ?jbF ?jbG ?jbH ?jbI ?jbJ ?jbK ?jbL ?jbM ?jbN ?jbO ?jbP ?jbQ ?jbR ?jbS ?jbT ?jbU ?jbV ?jbW ?jbX ?jbY ?jbZ ?jb0 ?jb1 ?jb2 ?jb3 ?jb4 ?jb5 ?jb6 ?jb7 ?jb8 ?jb9 ?jca ?jcb ?jcc ?jcd ?jce ?jcf ?jcg ?jch ?jci ?jcj ?jck ?jcl ?jcm ?jcn ?jco ?jcp ?jcq ?jcr ?jcs ?jct ?jcu ?jcv ?jcw ?jcx ?jcy ?jcz ?jcA ?jcB ?jcC ?jcD ?jcE ?jcF ?jcG ?jcH ?jcI ?jcJ ?jcK ?jcL ?jcM ?jcN ?jcO ?jcP ?jcQ ?jcR ?jcS ?jcT ?jcU ?jcV ?jcW ?jcX ?jcY ?jcZ ?jc0 ?jc1 ?jc2 ?jc3 ?jc4 ?jc5 ?jc6 ?jc7 ?jc8 ?jc9 ?jda ?jdb ?jdc ?jdd ?jde ?jdf ?jdg ?jdh ?jdi ?jdj ?jdk ?jdl ?jdm ?jdn ?jdo ?jdp ?jdq ?jdr ?jds ?jdt ?jdu ?jdv ?jdw ?jdx ?jdy ?jdz ?jdA ?jdB ?jdC ?jdD ?jdE ?jdF ?jdG ?jdH ?jdI ?jdJ ?jdK ?jdL ?jdM ?jdN ?jdO ?jdP ?jdQ ?jdR ?jdS ?jdT ?jdU ?jdV ?jdW ?jdX ?jdY ?jdZ ?jd0 ?jd1 ?jd2 ?jd3 ?jd4 ?jd5 ?jd6 ?jd7 ?jd8 ?jd9 ?jea ?jeb ?jec ?jed ?jee ?jef ?jeg ?jeh ?jei ?jej ?jek ?jel ?jem ?jen ?jeo ?jep ?jeq ?jer ?jes ?jet ?jeu ?jev ?jew ?jex ?jey ?jez ?jeA ?jeB ?jeC ?jeD ?jeE ?jeF ?jeG ?jeH ?jeI ?jeJ ?jeK ?jeL ?jeM ?jeN ?jeO ?jeP ?jeQ ?jeR ?jeS ?jeT ?jeU ?jeV ?jeW ?jeX ?jeY ?jeZ ?je0 ?je1 ?je2 ?je3 ?je4 ?je5 ?je6 ?je7 ?je8 ?je9 ?jfa ?jfb ?jfc ?jfd ?jfe ?jff ?jfg ?jfh ?jfi ?jfj ?jfk ?jfl ?jfm ?jfn ?jfo ?jfp ?jfq ?jfr ?jfs ?jft ?jfu ?jfv ?jfw ?jfx ?jfy ?jfz ?jfA ?jfB ?jfC ?jfD ?jfE ?jfF ?jfG ?jfH ?jfI ?jfJ ?jfK ?jfL ?jfM ?jfN ?jfO ?jfP ?jfQ ?jfR ?jfS ?jfT ?jfU ?jfV ?jfW ?jfX ?jfY ?jfZ ?jf0 ?jf1 ?jf2 ?jf3 ?jf4 ?jf5 ?jf6 ?jf7 ?jf8 ?jf9 ?jga ?jgb ?jgc ?jgd ?jge ?jgf ?jgg ?jgh ?jgi ?jgj ?jgk ?jgl ?jgm ?jgn ?jgo ?jgp ?jgq ?jgr ?jgs ?jgt ?jgu ?jgv ?jgw ?jgx ?jgy ?jgz ?jgA ?jgB ?jgC ?jgD ?jgE ?jgF ?jgG ?jgH ?jgI ?jgJ ?jgK ?jgL ?jgM ?jgN ?jgO ?jgP ?jgQ ?jgR ?jgS ?jgT ?jgU ?jgV ?jgW ?jgX ?jgY ?jgZ ?jg0 ?jg1 (My.dn_of My.bp0 KX G ?jg2 ?jg3 ?jg4 ?jg5) (My.dn_of My.bp1 KX G ?jg6 ?jg7 ?jg8 ?jg9) (My.dn_of My.bp2 KX G ?jha ?jhb ?jhc ?jhd) (My.dn_of My.bp3 KX G ?jhe ?jhf ?jhg ?jhh) (My.dn_of My.bp4 KX G ?jhi ?jhj ?jhk ?jhl) (My.dn_of My.bp5 KX G ?jhm ?jhn ?jho ?jhp) (My.dn_of My.bp6 KX G ?jhq ?jhr ?jhs ?jht) (My.dn_of My.bp7 KX G ?jhu ?jhv ?jhw ?jhx) (My.dn_of My.bp8 KX G ?jhy ?jhz ?jhA ?jhB) (My.dn_of My.bp9 KX G ?jhC ?jhD ?jhE ?jhF) (My.dn_of My.bp10 KX G ?jhG ?jhH ?jhI ?jhJ) (My.dn_of My.bp11 KX G ?jhK ?jhL ?jhM ?jhN) (My.dn_of My.bp12 KX G ?jhO ?jhP ?jhQ ?jhR) (My.dn_of My.bp13 KX G ?jhS ?jhT ?jhU ?jhV) (My.dn_of My.bp14 KX G ?jhW ?jhX ?jhY ?jhZ) (My.dn_of My.bp15 KX G ?jh0 ?jh1 ?jh2 ?jh3) (My.dn_of My.bp16 KX G ?jh4 ?jh5 ?jh6 ?jh7) (My.dn_of My.bp17 KX G ?jh8 ?jh9 ?jia ?jib) (My.dn_of My.bp18 KX G ?jic ?jid ?jie ?jif) (My.dn_of My.bp19 KX G ?jig ?jih ?jii ?jij) (My.dn_of My.bp20 KX G ?jik ?jil ?jim ?jin) (My.dn_of My.bp21 KX G ?jio ?jip ?jiq ?jir) (My.dn_of My.bp22 KX G ?jis ?jit ?jiu ?jiv) (My.dn_of My.bp23 KX G ?jiw ?jix ?jiy ?jiz) (My.dn_of My.bp24 KX G ?jiA ?jiB ?jiC ?jiD) (My.dn_of My.bp25 KX G ?jiE ?jiF ?jiG ?jiH) (My.dn_of My.bp26 KX G ?jiI ?jiJ ?jiK ?jiL) (My.dn_of My.bp27 KX G ?jiM ?jiN ?jiO ?jiP) (My.dn_of My.bp28 KX G ?jiQ ?jiR ?jiS ?jiT) (My.dn_of My.bp29 KX G ?jiU ?jiV ?jiW ?jiX) (My.dn_of My.bp30 KX G ?jiY ?jiZ ?ji0 ?ji1) (My.dn_of My.bp31 KX G ?ji2 ?ji3 ?ji4 ?ji5) (My.dn_of My.bp32 KX G ?ji6 ?ji7 ?ji8 ?ji9) (My.dn_of My.bp33 KX G ?jja ?jjb ?jjc ?jjd) (My.dn_of My.bp34 KX G ?jje ?jjf ?jjg ?jjh) (My.dn_of My.bp35 KX G ?jji ?jjj ?jjk ?jjl) (My.dm_of My.bm0 ?jjm ?jjn ?jjo ?jjp) (My.dm_of My.bm1 ?jjq ?jjr ?jjs ?jjt) (My.dm_of My.bm2 ?jju ?jjv ?jjw ?jjx) (My.dm_of My.bm3 ?jjy ?jjz ?jjA ?jjB) (My.dm_of My.bm4 ?jjC ?jjD ?jjE ?jjF) (My.dm_of My.bm5 ?jjG ?jjH ?jjI ?jjJ) (My.dm_of My.bm6 ?jjK ?jjL ?jjM ?jjN) (My.dm_of My.bm7 ?jjO ?jjP ?jjQ ?jjR) (My.dm_of My.bm8 ?jjS ?jjT ?jjU ?jjV) (My.dm_of My.bm9 ?jjW ?jjX ?jjY ?jjZ) (My.dm_of My.bm10 ?jj0 ?jj1 ?jj2 ?jj3) (My.dm_of My.bm11 ?jj4 ?jj5 ?jj6 ?jj7) (My.dm_of My.bm12 ?jj8 ?jj9 ?jka ?jkb) (My.dm_of My.bm13 ?jkc ?jkd ?jke ?jkf) (My.dm_of My.bm14 ?jkg ?jkh ?jki ?jkj) (My.dm_of My.bm15 ?jkk ?jkl ?jkm ?jkn) (My.dm_of My.bm16 ?jko ?jkp ?jkq ?jkr) (My.dm_of My.bm17 ?jks ?jkt ?jku ?jkv) (My.dm_of My.bm18 ?jkw ?jkx ?jky ?jkz) (My.dm_of My.bm19 ?jkA ?jkB ?jkC ?jkD) (My.dm_of My.bm20 ?jkE ?jkF ?jkG ?jkH) (My.dm_of My.bm21 ?jkI ?jkJ ?jkK ?jkL) (My.dm_of My.bm22 ?jkM ?jkN ?jkO ?jkP) (My.dm_of My.bm23 ?jkQ ?jkR ?jkS ?jkT) (My.dm_of My.bm24 ?jkU ?jkV ?jkW ?jkX) (My.dm_of My.bm25 ?jkY ?jkZ ?jk0 ?jk1) (My.dm_of My.bm26 ?jk2 ?jk3 ?jk4 ?jk5) (My.dm_of My.bm27 ?jk6 ?jk7 ?jk8 ?jk9)
   (λ s v=>.of_eq rfl)
  case jbo | jbp | jbq | jbr | jbs | jbt | jbu | jbv | jbw | jaa | jab=>k_is
  (case jac=>exact My.strKeys_of rfl)
  (case jad=>first | rfl | decide +kernel)
  case jae | jaf | jag | jah | jai | jaj | jak | jal | jam | jan | jao | jap | jaq | jar | jas | jat | jau | jav | jaw | jax | jay | jaz | jaA | jaB | jaC | jaD | jaE | jaF | jaG | jaH | jaI | jaJ | jaK | jaL | jaM | jaN | jaO | jaP | jaQ | jaR | jaS | jaT | jaU | jaV | jaW | jaX | jaY | jaZ | ja0 | ja1 | ja2 | ja3 | ja4 | ja5 | ja6 | ja7 | ja8 | ja9 | jba | jbb | jbc | jbd | jbe | jbf | jbg | jbh | jbi | jbj | jbk | jbl | jbm | jbn | jcb | jci | jcq | jcY | jdw | jd4 | jeD | jfb | jfy | jfV | jgi | jce | jcl | jcm | jcJ | jcK | jcL | jcM | jcN | jdh | jdi | jdj | jdk | jdl | jdP | jdQ | jdR | jdS | jdT | jen | jeo | jep | jeq | jer | jes | jeW | jeX | jeY | jeZ | je0 | jfn | jfo | jfp | jfq | jfr | jfs | jfK | jfL | jfM | jfN | jfO | jfP | jf7 | jf8 | jf9 | jga | jgb | jgc | jgu | jgv | jgw | jgx | jgy | jgz | jbx | jby | jbz | jbA | jbB | jbC | jbD | jbE | jbF | jbG | jbH | jbI | jbJ | jbK | jbL | jbM | jbN | jbO | jbP | jbQ | jbR | jbS | jbT | jbU | jbV | jbW | jbX | jbY | jbZ | jb0 | jb1 | jb2 | jb3 | jb4 | jb5 | jb6 | jb7 | jb8 | jb9 | jca | jcc | jcd | jcf | jcg | jch | jcj | jck | jcn | jco | jcp | jcr | jcs | jct | jcu | jcv | jcw | jcx | jcy | jcz | jcA | jcB | jcC | jcD | jcE | jcF | jcG | jcH | jcI | jcO | jcP | jcQ | jcR | jcS | jcT | jcU | jcV | jcW | jcX | jcZ | jc0 | jc1 | jc2 | jc3 | jc4 | jc5 | jc6 | jc7 | jc8 | jc9 | jda | jdb | jdc | jdd | jde | jdf | jdg | jdm | jdn | jdo | jdp | jdq | jdr | jds | jdt | jdu | jdv | jdx | jdy | jdz | jdA | jdB | jdC | jdD | jdE | jdF | jdG | jdH | jdI | jdJ | jdK | jdL | jdM | jdN | jdO | jdU | jdV | jdW | jdX | jdY | jdZ | jd0 | jd1 | jd2 | jd3 | jd5 | jd6 | jd7 | jd8 | jd9 | jea | jeb | jec | jed | jee | jef | jeg | jeh | jei | jej | jek | jel | jem | jet | jeu | jev | jew | jex | jey | jez | jeA | jeB | jeC | jeE | jeF | jeG | jeH | jeI | jeJ | jeK | jeL | jeM | jeN | jeO | jeP | jeQ | jeR | jeS | jeT | jeU | jeV | je1 | je2 | je3 | je4 | je5 | je6 | je7 | je8 | je9 | jfa | jfc | jfd | jfe | jff | jfg | jfh | jfi | jfj | jfk | jfl | jfm | jft | jfu | jfv | jfw | jfx | jfz | jfA | jfB | jfC | jfD | jfE | jfF | jfG | jfH | jfI | jfJ | jfQ | jfR | jfS | jfT | jfU | jfW | jfX | jfY | jfZ | jf0 | jf1 | jf2 | jf3 | jf4 | jf5 | jf6 | jgd | jge | jgf | jgg | jgh | jgj | jgk | jgl | jgm | jgn | jgo | jgp | jgq | jgr | jgs | jgt | jgA | jgB | jgC | jgD | jgE | jgF | jgG | jgH | jgI | jgJ | jgK | jgL | jgM | jgN | jgO | jgP | jgQ | jgR | jgS | jgT | jgU | jgV | jgW | jgX | jgY | jgZ | jg0 | jg1 | jg2 | jg3 | jg4 | jg5 | jg6 | jg7 | jg8 | jg9 | jha | jhb | jhc | jhd | jhe | jhf | jhg | jhh | jhi | jhj | jhk | jhl | jhm | jhn | jho | jhp | jhq | jhr | jhs | jht | jhu | jhv | jhw | jhx | jhy | jhz | jhA | jhB | jhC | jhD | jhE | jhF | jhG | jhH | jhI | jhJ | jhK | jhL | jhM | jhN | jhO | jhP | jhQ | jhR | jhS | jhT | jhU | jhV | jhW | jhX | jhY | jhZ | jh0 | jh1 | jh2 | jh3 | jh4 | jh5 | jh6 | jh7 | jh8 | jh9 | jia | jib | jic | jid | jie | jif | jig | jih | jii | jij | jik | jil | jim | jin | jio | jip | jiq | jir | jis | jit | jiu | jiv | jiw | jix | jiy | jiz | jiA | jiB | jiC | jiD | jiE | jiF | jiG | jiH | jiI | jiJ | jiK | jiL | jiM | jiN | jiO | jiP | jiQ | jiR | jiS | jiT | jiU | jiV | jiW | jiX | jiY | jiZ | ji0 | ji1 | ji2 | ji3 | ji4 | ji5 | ji6 | ji7 | ji8 | ji9 | jja | jjb | jjc | jjd | jje | jjf | jjg | jjh | jji | jjj | jjk | jjl | jjm | jjn | jjo | jjp | jjq | jjr | jjs | jjt | jju | jjv | jjw | jjx | jjy | jjz | jjA | jjB | jjC | jjD | jjE | jjF | jjG | jjH | jjI | jjJ | jjK | jjL | jjM | jjN | jjO | jjP | jjQ | jjR | jjS | jjT | jjU | jjV | jjW | jjX | jjY | jjZ | jj0 | jj1 | jj2 | jj3 | jj4 | jj5 | jj6 | jj7 | jj8 | jj9 | jka | jkb | jkc | jkd | jke | jkf | jkg | jkh | jki | jkj | jkk | jkl | jkm | jkn | jko | jkp | jkq | jkr | jks | jkt | jku | jkv | jkw | jkx | jky | jkz | jkA | jkB | jkC | jkD | jkE | jkF | jkG | jkH | jkI | jkJ | jkK | jkL | jkM | jkN | jkO | jkP | jkQ | jkR | jkS | jkT | jkU | jkV | jkW | jkX | jkY | jkZ | jk0 | jk1 | jk2 | jk3 | jk4 | jk5 | jk6 | jk7 | jk8 | jk9=>k_is
