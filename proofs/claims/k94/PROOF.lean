import PyProof.Rows.All
import Wide.All
import OpenK.AllK
import Wide.FinOn
import Lean
import PyProof.EqAt
import PyProof.EqKinds
import PyProof.TupleCall
import KE.IntBitsLaws
import KE.KFind
import PyProof.ListRange
import KE.KRevIter
import PySem.SetOps
import PyProof.Rows.SetFrom
import PyProof.Rows.SortWalk
import PyProof.CollectWalk
import PyProof.ListNew
import PyProof.SetRoads
import PyProof.MeetsSeq2
import PyProof.MeetsSeq3
import PyProof.StationsW
import PyProof.ExcInit
import PyProof.InstStoreFacts
import PyProof.RulesAs
import PyProof.RulesDel
import PyProof.ExcArgs
import KE.KSortTup
import PyProof.Draws
import PyProof.TupleOfGen
import PyProof.ZipIter
import PyProof.TupleKey
import PyProof.SetKind
import PyProof.IsRules
import PyProof.WalkLemmas
import PyProof.DictKinds
import PyProof.ReprRoads
import PyProof.ReprLen
import PyProof.StrLawsTight
import PyProof.FitsReplace
import KE.KIntText
import KE.KTabLook
import PySem.Challenge.RW_toggleclock_k94_whole_desk_on_fields
set_option Elab.async false
set_option linter.all false
set_option maxRecDepth 100000
set_option maxHeartbeats 4000000
variable {κ α β γ δ ε α1 α2 α3 α4:Type}{us vs its its':List PySem.Value}{x name qual nm row:PySem.Str}{u doc pm cdv oc vl vu:PySem.Value}{a it C dx sl ja ji jW kC jN kD qH qI:PySem.Addr}{o:PySem.Obj}{h h' base:PySem.Heap}{items:Array PySem.Value}{prog P:PySem.Program}{w:PySem.World}{A:PySem.Around}{E Q:PySem.Value->PySem.Shared->Prop}{s s':PySem.Shared}{m mr mm_:Option (List α)}{fl:Bool}{e tg iter value:PySem.Expr}{pins:List (PySem.Addr×PySem.Obj)}{g' g g'':Int->Int->Bool}{t' i n k' ep:Nat}{ch fp:List PySem.Addr}{N ps loose own:List PySem.Str}{j y z:Int}{M:PySem.Model}{pos pos' apos p2 cpos:PySem.Pos}{op:α->Option γ}{K:PySem.W.Frag}{st:PySem.Stmt}{es:List PySem.Expr}{body:List PySem.Stmt}{l:List α}{lo hi m' mi:Option Int}{p:Array Nat}{f:List α->Option δ}{mA mg:PySem.Str->Option PySem.Value}{pl:PySem.Sem Bool}{R:α->β->Prop}{kw:List (PySem.Str×PySem.Value)}{env:PySem.Env}{fd:PySem.FuncData}{outer:List PySem.Env}{kindOf:PySem.Str->Option PySem.NameKind}{sc scope:PySem.Scope}{an od:Option PySem.Addr}{osl:Array (Option PySem.Value)}{T:String}{ns ln DS:List Int}{XP:(PySem.Str->Option PySem.Value)->PySem.Heap->Prop}{YP:PySem.World->PySem.Heap->Prop}{ix:List Nat}{ma mv:Option α}{mb:Option β}{ml:Option (List (κ×α))}{mh:Option (Option Int)}{mc:Int×Int->Option Bool}{m1:Option α1}{m2:Option α2}{m3:Option α3}{B:Option δ}{b0:β}{kk:β->Option δ}{me:Int×Int->Option γ}{x1:α1}{x2:α2}{n':Option Bool}{cM:β->Option Bool}{fM:β->Option β}{mk:Option κ}{key:Nat->Int}{q':Int×Int}{Dk:α×List α}
namespace L2
open PySem PySem.Spec PyProof.Rows
def Xa:type_of% @wpAny_bind:=@wpAny_bind
def Xb:type_of% @wpAny_pure:=@wpAny_pure
def Xc:type_of% @List.getElem?_eq_getElem:=@List.getElem?_eq_getElem
def Xd:type_of% @Heap.get?_push_of_some:=@Heap.get?_push_of_some
def Xe:type_of% @Nat.le_refl:=@Nat.le_refl
def Xg:type_of% @List.size_toArray:=@List.size_toArray
def Xh:type_of% @Bool.false_ne_true:=@Bool.false_ne_true
def Xi:type_of% @Heap.get?_push_size:=@Heap.get?_push_size
def Xj:type_of% @List.length_map:=@List.length_map
def Xk:type_of% @decide_eq_false:=@decide_eq_false
def Xl:type_of% @Heap.lt_size:=@Heap.lt_size
def Xn:type_of% @List.mem_cons_of_mem:=@List.mem_cons_of_mem
def Xo:type_of% @List.mem_cons_self:=@List.mem_cons_self
def Xp:type_of% @List.map_cons:=@List.map_cons
def Xq:type_of% @W.mg_none_of:=@W.mg_none_of
def Xr:type_of% @Nat.lt_of_lt_of_le:=@Nat.lt_of_lt_of_le
def Xt:type_of% @Array.length_toList:=@Array.length_toList
def Xu:type_of% @decide_eq_true_eq:=@decide_eq_true_eq
def Xv:type_of% @PySem.F.plainAttrs_list:=@PySem.F.plainAttrs_list
def Xw:type_of% @List.getElem?_map:=@List.getElem?_map
def Xx:type_of% @sizeLine_eq:=@sizeLine_eq
def Xy:type_of% @decide_eq_true:=@decide_eq_true
def Xz:type_of% @PySem.F.plainAttrs_str:=@PySem.F.plainAttrs_str
def XA:type_of% @PyProof.Rows.callWith_type1:=@PyProof.Rows.callWith_type1
def XB:type_of% @Bool.and_eq_true:=@Bool.and_eq_true
def XE:type_of% @List.length_append:=@List.length_append
def XF:type_of% @Bool.false_eq_true:=@Bool.false_eq_true
def XG:type_of% @Nat.lt_of_le_of_lt:=@Nat.lt_of_le_of_lt
def XH:type_of% @wpAny_call_entry:=@wpAny_call_entry
def XI:type_of% @List.lookup_cons:=@List.lookup_cons
def XJ:type_of% @Bool.eq_iff_iff:=@Bool.eq_iff_iff
def XL:type_of% @List.mem_append_right:=@List.mem_append_right
def XM:type_of% @wpAny_truthy_bool:=@wpAny_truthy_bool
def XN:type_of% @wpAny_newObj_type:=@wpAny_newObj_type
def XO:type_of% @Nat.ne_of_lt:=@Nat.ne_of_lt
def XR:type_of% @Int.toNat_natCast:=@Int.toNat_natCast
def XS:type_of% @PySem.F.type_list_append:=@PySem.F.type_list_append
def XT:type_of% @PySem.F.slot_list_append:=@PySem.F.slot_list_append
def XU:type_of% @Nat.lt_irrefl:=@Nat.lt_irrefl
def XV:type_of% @Nat.le_trans:=@Nat.le_trans
def XX:type_of% @List.length_cons:=@List.length_cons
def XY:type_of% @if_false:=@if_false
def XZ:type_of% @List.getD_eq_getElem?_getD:=@List.getD_eq_getElem?_getD
def X0:type_of% @PySem.mem_of_lookup:=@PySem.mem_of_lookup
def X1:type_of% @List.find?_cons:=@List.find?_cons
def X7:type_of% @cond_false:=@cond_false
def X8:type_of% @wpAny_holding:=@wpAny_holding
def X9:type_of% @W.mg_of:=@W.mg_of
def wa:type_of% @Nat.zero_le:=@Nat.zero_le
def wb:type_of% @wpAny_mono:=@wpAny_mono
def wc:type_of% @cond_true:=@cond_true
end L2
namespace L2
open PySem PySem.Spec PyProof.Rows
abbrev Key:=Sum Int Str
def jek:Key->Value->Bool
 | .inl k,v=>Value.isInt k v
 | .inr x,v=>Value.isStrOf x v
def joC (w:World):Key->Int
 | .inl k=>hashInt k
 | .inr x=>hashStr w x
def xA:∀ {k:Key}{v:Value},jek k v=true->(∃ i t,k=Sum.inl i/\v=Value.int i t) \/ (∃ x t,k=Sum.inr x/\v=Value.str x t)
 | .inl i,v,h=>by
  obtain⟨t,e⟩:=Value.isInt_shape (k:=i) (v:=v) h;exact .inl ⟨i,t,rfl,e⟩
 | .inr x,v,h=>by
  obtain⟨t,e⟩:=Value.isStrOf_shape (x:=x) (v:=v) h;exact .inr ⟨x,t,rfl,e⟩
def jfo (i:Int) (t:Tok):jek (.inl i) (.int i t)=true:=by simp[jek,Value.isInt]
def jfp (x:Str) (t:Tok):jek (.inr x) (.str x t)=true:=by simp[jek,Value.isStrOf]
def jlW (a b:Int):decide ((Sum.inl a:Key)=Sum.inl b)=(a==b):=by
 by_cases e:a=b
 ·subst e; simp
 ·have h:¬ (Sum.inl a:Key)=Sum.inl b:=fun q=>e (Sum.inl.inj q);rw[Xk h];exact(beq_eq_false_iff_ne.mpr e).symm
def jlX (a b:Str):decide ((Sum.inr a:Key)=Sum.inr b)=decide (a=b):=by
 by_cases e:a=b
 ·subst e; simp
 ·have h:¬ (Sum.inr a:Key)=Sum.inr b:=fun q=>e (Sum.inr.inj q);rw[Xk h,Xk e]
def jlY (a:Int) (b:Str):decide ((Sum.inl a:Key)=Sum.inr b)=false:=Xk (fun q=>nomatch q)
def jlZ (a:Str) (b:Int):decide ((Sum.inr a:Key)=Sum.inl b)=false:=Xk (fun q=>nomatch q)
def zM (prog:Program) (w:World):PySem.KeyKind prog w Key where
 is:=jek
 hash:=joC w
 inj:=fun v a b ha hb=>by
  rcases xA ha with⟨i,t,rfl,rfl⟩ | ⟨x,t,rfl,rfl⟩
  ·rcases xA hb with⟨j,u,rfl,e⟩ | ⟨y,u,rfl,e⟩
   ·injection e with e1 _; rw[e1]
   ·exact nomatch e
  ·rcases xA hb with⟨j,u,rfl,e⟩ | ⟨y,u,rfl,e⟩
   ·exact nomatch e
   ·injection e with e1 _; rw[e1]
 byValue:=fun k v h=>by
  rcases xA h with⟨i,t,rfl,rfl⟩ | ⟨x,t,rfl,rfl⟩ <;> rfl
 pyHash:=fun hv h=>by
  rcases xA hv with⟨i,t,rfl,rfl⟩ | ⟨x,t,rfl,rfl⟩
  ·exact wpAny_pyHash_int h
  ·exact wpAny_pyHash_str h
 eqBool:=fun hu hv h=>by
  rcases xA hu with⟨i,t,rfl,rfl⟩ | ⟨x,t,rfl,rfl⟩
  ·rcases xA hv with⟨j,u,rfl,rfl⟩ | ⟨y,u,rfl,rfl⟩
   ·rw[jlW] at h; exact wpAny_eqBool_int h
   ·rw[jlY] at h; exact SeqAt.EqAt.int_str i t y u _ _ _ _ h
  ·rcases xA hv with⟨j,u,rfl,rfl⟩ | ⟨y,u,rfl,rfl⟩
   ·rw[jlZ] at h; exact SeqAt.EqAt.str_int x t j u _ _ _ _ h
   ·rw[jlX] at h; exact wpAny_eqBool_str h
 «strs»:=fun k x t v h=>by
  rcases xA h with⟨i,u,rfl,e⟩ | ⟨y,u,rfl,e⟩
  ·exact nomatch e
  ·injection e with e1 _
   subst e1;cases v <;> rfl
def jbT (prog:Program) (w:World) (i:Int) (t:Tok):(zM prog w).is (.inl i) (.int i t)=true:=jfo i t
def jbU (prog:Program) (w:World) (x:Str) (t:Tok):(zM prog w).is (.inr x) (.str x t)=true:=jfp x t
inductive V where
 | non | bl (b:Bool) | int (i:Int) | str (x:Str) | byt (b:Array UInt8) | flt (b:UInt64) | ref (a:Addr) | ty (n:String)
 deriving DecidableEq
def RelV:V->Value->Prop
 | .non,u=>u=Value.none
 | .bl b,u=>u=Value.bool b
 | .int i,u=>∃ t,u=Value.int i t
 | .str x,u=>∃ t,u=Value.str x t
 | .byt b,u=>∃ t,u=Value.bytes b t
 | .flt b,u=>∃ t,u=Value.float b t
 | .ref a,u=>u=Value.ref a
 | .ty n,u=>u=Value.type n
abbrev Vals:List V->List Value->Prop:=Paired RelV
def Vals.length {xs:List V} (r:Vals xs us):xs.length=us.length:=Paired.length r
def Vals.get:∀ {xs:List V}{us:List Value}{i:Nat}{x:V},Vals xs us->xs[i]?=some x->∃ u,us[i]?=some u/\RelV x u
 | _,_,_,_,.nil,e=>by simp at e
 | _,_,0,_,.cons r _,e=>by simp at e; subst e; exact ⟨_,rfl,r⟩
 | _,_,i+1,x,.cons _ t,e=>by
  obtain⟨u,h1,h2⟩:=Vals.get (i:=i) (x:=x) t (by simpa using e);exact⟨u,by simpa using h1,h2⟩
def Vals.set {x:V} (r:RelV x u):∀ {xs:List V}{us:List Value} (i:Nat),Vals xs us->Vals (xs.set i x) (us.set i u)
 | _,_,_,.nil=>.nil
 | _,_,0,.cons _ t=>.cons r t
 | _,_,i+1,.cons q t=>.cons q (Vals.set r i t)
def Vals.append:∀ {xs ys:List V}{us ws:List Value},Vals xs us->Vals ys ws->Vals (xs++ys) (us++ws)
 | _,_,_,_,.nil,s=>s
 | _,_,_,_,.cons r t,s=>.cons r (Vals.append t s)
def Vals.take:∀ {xs:List V}{us:List Value} (n:Nat),Vals xs us->Vals (xs.take n) (us.take n)
 | _,_,0,_=>.nil
 | _,_,_+1,.nil=>.nil
 | _,_,n+1,.cons r t=>.cons r (Vals.take n t)
def Vals.drop:∀ {xs:List V}{us:List Value} (n:Nat),Vals xs us->Vals (xs.drop n) (us.drop n)
 | _,_,0,r=>r
 | _,_,_+1,.nil=>.nil
 | _,_,n+1,.cons _ t=>Vals.drop n t
def RelO:Option V->Option Value->Prop
 | some v,some u=>RelV v u
 | none,none=>True
 | _,_=>False
def KV:List (κ×V)->List (κ×Value)->Prop:=Paired fun (p:κ×V) (q:κ×Value)=>p.1=q.1/\RelV p.2 q.2
def kV:Key->V
 | .inl i=>.int i
 | .inr x=>.str x
inductive HO where
 | lst (xs:List V)
 | tup (xs:List V)
 | dK (kvs:List (Key×V)) | dT (fl:Bool) (kvs:List (List Key×V))
 | set (S:Int->Bool) (n:Nat)
 | ins (C dx:Addr) (fs:List (Str×V))
 | own (x:Addr)
 | xd (fs:List (Str×V))
 | met (f x:Addr)
 | rng (lo hi:Int)
 | frz (o:Obj) (u:HO)
 | tbl (ps:Array Value)
 | ext (φ:Heap->Prop)
abbrev Hp:=Addr->Option HO
def upd (H:Hp) (a:Addr) (o:HO):Hp:=fun b=>if b=a then some o else H b
def j_ {H:Hp}{o:HO}:upd H a o a=some o:=by unfold upd; rw[if_pos rfl]
def km {H:Hp}{b:Addr}{o:HO} (h:b≠a):upd H a o b=H b:=by unfold upd; rw[if_neg h]
def jl0 {H:Hp}{b:Addr}{o u:HO} (h:H a=some o) (h':H b=some u) (d:o≠u):a≠b:=by
 intro e; subst e; rw[h] at h'; exact d (Option.some.inj h')
def yp {H:Hp}{b:Addr}{o:HO} (h:H a=some o) (h':H b=none):a≠b:=by
 intro e; subst e; rw[h] at h'; cases h'
def TupO (h:Heap) (a:Addr) (items:Array Value):Prop:=∃ o,h.get? a=some o/\(o.cls=.type "tuple"/\o.dict=none)/\∃ n,o.data=.seq items n
def TupO.isTup (x:TupO h a items):IsTup h a items:=let ⟨o,e,c,d⟩:=x; ⟨o,e,c.1,d⟩
def TupO.lt (x:TupO h a items):a<h.objs.size:=x.isTup.lt
def TupO.new (h:Heap) (items:Array Value):TupO (h.push { cls:=.type "tuple",data:=.seq items }) h.objs.size items:=⟨_,Xi _ rfl,⟨rfl,rfl⟩,_,rfl⟩
section
variable {K:Type} [DecidableEq K] {knd:KeyKind prog w K} 
def IsNest (knd:KeyKind prog w K) (h:Heap) (ks:List K) (a:Addr):Prop:=∃ k r t v o n,ks=k::r/\h.get? a=some o/\o.cls=.type "tuple"/\o.data=.seq #[.ref t,v] n/\IsTupleKey knd h r t/\knd.is k v=true
def IsNest.typeIs {ks:List K} (x:IsNest knd s.heap ks a):s.TypeIs (.ref a) "tuple":=let ⟨_,_,_,_,o,_,_,ho,hc,_⟩:=x; ⟨o,ho,hc⟩
def IsNest.inj {x y:List K} (hx:IsNest knd h x a) (hy:IsNest knd h y a):x=y:=by
 obtain⟨k,r,t,v,o,n,rfl,ho,_,hd,ht,hk⟩:=hx;obtain⟨k',r',t',v',o',n',rfl,ho',_,hd',ht',hk'⟩:=hy;obtain rfl:o=o':=Option.some.inj (ho.symm.trans ho');rw[hd] at hd';injection hd' with h1 _
 have h1:=congrArg Array.toList h1;injection h1 with h2 h3
 injection h2 with h2
 injection h3 with h3 _
 subst h2 h3;rw[knd.inj _ _ _ hk hk',ht.inj ht']
def IsNest.keeps {ks:List K}{d:Addr}{es ep} (x:IsNest knd h ks a) (ho:h.get? d=some o) (hd:o.data=.dict es ep) (hs:Heap.SameBut d h h'):IsNest knd h' ks a:=by
 obtain⟨k,r,t,v,o',n,e,ho',hc,hd',ht,hk⟩:=x;have hne:a≠d:=by
  rintro rfl;obtain rfl:o'=o:=Option.some.inj (ho'.symm.trans ho);rw[hd] at hd'; exact nomatch hd'
 exact⟨k,r,t,v,o',n,e,(hs.2 a hne).trans ho',hc,hd',ht.keeps ho hd hs,hk⟩
def jdk (knd:KeyKind prog w K):List K->Int
 | []=>0
 | k::r=>reduceHash (Builtin.Tuple.tupleHashOf [tupleKeyHash knd r,knd.hash k])
def jfq {ks:List K}{Q:Int->Shared->Prop} (hu:A.units+1<cLine) (hk:IsNest knd s.heap ks a) (h:Q (jdk knd ks) { s with toks:=s.toks+(ks.length+2) }):wpAny (model prog w) A (pyHash (.ref a)) Q E s:=by
 have hT:=hk.typeIs;obtain⟨k,r,t,v,o,n,rfl,ho,hc,hd,ht,hk⟩:=hk;unfold pyHash
 first | unfold pyHashByItsType | skip
 first | refine Xa (wpAny_cRoomFor_or (.inr (by omega)) ?_) | skip
 refine Xa (wpAny_specialOf hT F.slot_tuple_hash.lookup ?_);show wpAny _ _ (if (some (Value.builtin "tuple.__hash__")==some Value.none)=true then _ else _) Q E s;rw[if_neg (by rw[beq_builtin_none]; exact Xh)];refine Xa (wpAny_specialOf hT F.slot_tuple_hash.lookup ?_);show wpAny _ _ (callSpecialIfBoundUnlessNone? (.ref a) "__hash__" _ >>= _) Q E s;refine Xa (wpAny_callSpecialIfBoundUnlessNone?_slot hT F.slot_tuple_hash (XH F.slot_tuple_hash hT F.entry_tuple_hash ?_ (F.args_tuple_hash_1 _)));show wpAny _ _ (Builtin.Tuple.tupleItemsOf (.ref a) >>= _) _ _ s;refine Xa (wpAny_tupleItemsOf ho hd ?_);refine Xa ?_;rw[<- Array.forIn_toList];show wpAny _ _ (forIn [Value.ref t,v] _ _) _ _ s;rw[List.forIn_cons];refine Xa (Xa (wpAny_pyHash_tuple (A:=A.in1) (show A.units+1<cLine from hu) ht ?_))
 first
  | refine Xb ?_
  | refine Xa (Xb (Xb ?_))
 dsimp only;rw[List.forIn_cons];refine Xa (Xa (knd.pyHash hk ?_))
 first
  | refine Xb ?_
  | refine Xa (Xb (Xb ?_))
 dsimp only;rw[List.forIn_nil];refine Xb ?_;show wpAny _ _ (retInt (Builtin.Tuple.tupleHashOf [tupleKeyHash knd r,knd.hash k])) _ _ _;refine wpAny_ret_mkInt ?_;show wpAny _ _ (if (decide (-(2:Int) ^ 63<=Builtin.Tuple.tupleHashOf [tupleKeyHash knd r,knd.hash k])&&decide (Builtin.Tuple.tupleHashOf [tupleKeyHash knd r,knd.hash k]<2 ^ 63))=true then _ else _) Q E _;have ez:s.toks+(r.length+1)+1+1=s.toks+((k::r).length+2):=by rw[XX]; omega
 rw[<- ez] at h;have h:Q (reduceHash (Builtin.Tuple.tupleHashOf [tupleKeyHash knd r,knd.hash k])) _:=h;unfold reduceHash at h;by_cases hr:(decide (-(2:Int) ^ 63<=Builtin.Tuple.tupleHashOf [tupleKeyHash knd r,knd.hash k])&&decide (Builtin.Tuple.tupleHashOf [tupleKeyHash knd r,knd.hash k]<2 ^ 63))=true
 ·rw[if_pos hr];rw[if_pos hr] at h;exact Xb h
 ·rw[if_neg hr];rw[if_neg hr] at h;exact Xa (wpAny_rule (Xb h))
def jaB {x y:List K}{b:Addr}{P:Fin->Shared->Prop} (hu:A.units<cLine) (hx:IsNest knd s.heap x a) (hy:IsNest knd s.heap y b) (h:P (.done (.ret (.bool (decide (x=y))))) s) :
  wpAny (model prog w) A (Builtin.«tuple.__eq__» ⟨[.ref a,.ref b],[]⟩) P E s:=by
 have hTb:=hy.typeIs;obtain⟨k,r,t,v,o,n,rfl,ho,hc,hd,ht,hk⟩:=hx;obtain⟨k',r',t',v',o',n',rfl,ho',hc',hd',ht',hk'⟩:=hy;show wpAny _ _ (isInstance (.ref b) (.type "tuple") >>= _) _ _ s;refine Xa (wpAny_isInstance hTb isSubtype_tuple_tuple ?_);simp only[Bool.not_true,XF,XY];refine Xa (wpAny_tupleItemsOf ho hd ?_);refine Xa (wpAny_tupleItemsOf ho' hd' ?_);refine Xa ?_;show wpAny _ _ (forIn [(Value.ref t,Value.ref t'),(v,v')] _ _) _ _ s;rw[List.forIn_cons];refine Xa (Xa (wpAny_eqBool_tuple hu ht ht' ?_));by_cases e1:r=r'
 ·subst e1;rw[Xy rfl];simp only[Bool.not_true,XF,XY];refine Xb ?_;dsimp only;rw[List.forIn_cons];refine Xa (Xa (knd.eqBool hk hk' ?_));by_cases e2:k=k'
  ·subst e2;rw[Xy rfl];simp only[Bool.not_true,XF,XY];refine Xb ?_;dsimp only;rw[List.forIn_nil];refine Xb ?_;rw[Xy rfl] at h;exact Xb h
  ·rw[Xk e2];simp only[Bool.not_false,if_true];rw[Xk (fun z=>e2 (List.cons.inj z).1)] at h;exact Xa (Xb (Xb (Xb (Xb h))))
 ·rw[Xk e1];simp only[Bool.not_false,if_true];rw[Xk (fun z=>e1 (List.cons.inj z).2)] at h;exact Xa (Xb (Xb (Xb (Xb h))))
def jkb {x y:List K}{b:Addr}{Q:Bool->Shared->Prop} (hu:A.units+1<cLine) (hx:IsNest knd s.heap x a) (hy:IsNest knd s.heap y b) (h:Q (decide (x=y)) s):wpAny (model prog w) A (eqBool (.ref a) (.ref b)) Q E s:=by
 unfold eqBool
 try with_reducible refine X8 ?_
 show wpAny _ _ (if (Value.ref a==Value.ref b)=true then _ else _) Q E s;by_cases hab:(Value.ref a==Value.ref b)=true
 ·rw[if_pos hab];have e:a=b:=by have:=eq_of_beq hab; injection this
  subst e;obtain rfl:=hx.inj hy;exact Xa (wpAny_rule (Xb (by simpa using h)))
 ·rw[if_neg hab];exact Xa (wpAny_richCompare_same_room (op:=.Eq) hx.typeIs hy.typeIs F.slot_tuple_eq
   (XH F.slot_tuple_eq hx.typeIs F.entry_tuple_eq (jaB (A:=A.in1) (show A.units+1<cLine from hu) hx hy ⟨_,rfl,(fun e=>nomatch e),XM h⟩) (F.args_tuple_eq_2 _ _)) (by omega))
def jhN {ks:List K}{m:Nat}{Q:Bool->Shared->Prop} (hk:IsTupleKey knd s.heap ks a) (h:Q true s):wpAny (model prog w) A (eqIsQuiet (m+1) (.ref a)) Q E s:=by
 have hT:=hk.typeIs;obtain⟨o,items,n,ho,_,hd,hi⟩:=hk;unfold eqIsQuiet;refine Xa (wpAny_specialOf hT F.slot_tuple_eq.lookup ?_);show wpAny _ _ (isInstance (.ref a) (.type "tuple") >>= _) _ _ s;refine Xa (wpAny_isInstance hT isSubtype_tuple_tuple ?_);simp only[Bool.not_true,XF,XY];refine Xa (wpAny_seqItems ho hd ?_);refine Xa ?_;show wpAny _ _ (forIn items _ _) _ _ s;rw[<- Array.forIn_toList];refine wpAny_forIn_list _ (fun rest r s'=>r.1=none/\s'=s/\∀ v∈rest,carriedByValue v=true) _ ?_ ?_ _ _ ⟨rfl,rfl,hi.byValue⟩
 ·rintro v rest r s' ⟨hr,rfl,hall⟩;rw[eqIsQuiet_byValue _ (hall v Xo)];refine Xa (Xb ?_);simp only[Bool.not_true,XF,XY];exact Xb ⟨rfl,rfl,fun u hu'=>hall u (Xn _ hu')⟩
 ·rintro⟨r1,r2⟩ s' ⟨hr,rfl,_⟩;simp only at hr;subst hr;exact Xb h
def jel {ks:List K}{Q:Bool->Shared->Prop} (hk:IsNest knd s.heap ks a) (h:Q true s):wpAny (model prog w) A (eqIsQuiet 8 (.ref a)) Q E s:=by
 have hT:=hk.typeIs;obtain⟨k,r,t,v,o,n,rfl,ho,hc,hd,ht,hk⟩:=hk;unfold eqIsQuiet;refine Xa (wpAny_specialOf hT F.slot_tuple_eq.lookup ?_);show wpAny _ _ (isInstance (.ref a) (.type "tuple") >>= _) _ _ s;refine Xa (wpAny_isInstance hT isSubtype_tuple_tuple ?_);simp only[Bool.not_true,XF,XY];refine Xa (wpAny_seqItems ho hd ?_);refine Xa ?_;show wpAny _ _ (forIn #[Value.ref t,v] _ _) _ _ s;rw[<- Array.forIn_toList];show wpAny _ _ (forIn [Value.ref t,v] _ _) _ _ s;rw[List.forIn_cons];refine Xa (Xa (jhN (m:=6) ht ?_));simp only[Bool.not_true,XF,XY];refine Xb ?_;dsimp only;rw[List.forIn_cons,eqIsQuiet_byValue _ (knd.byValue _ _ hk)];refine Xa (Xa (Xb ?_));simp only[Bool.not_true,XF,XY];refine Xb ?_;dsimp only;rw[List.forIn_nil];exact Xb (Xb h)
end
def jhO {K:Type} [DecidableEq K] (knd:KeyKind prog w K):HeapKind prog w (List K) where
 is:=IsNest knd
 hash:=jdk knd
 draws:=fun ks=>ks.length+2
 room:=fun A=>A.units+1<cLine
 inj:=fun hx hy=>hx.inj hy
 keeps:=fun x ho hd hs=>x.keeps ho hd hs
 pyHash:=fun hu hk h=>jfq hu hk h
 eqBool:=fun hu hx hy h=>jkb hu hx hy h
 quiet:=fun hk h=>jel hk h
def TupK (fl:Bool) (H:Hp) (ks:List Key) (b:Addr):Prop:=match fl with
 | false=>H b=some (.tup (ks.map kV))
 | true=>∃ k r t,ks=k::r/\H b=some (.tup [.ref t,kV k])/\H t=some (.tup (r.map kV))
def TupK.mono {H H':Hp}{ks:List Key}{b:Addr} (x:TupK fl H ks b) (ht:∀ b xs,H b=some (.tup xs)->H' b=some (.tup xs)):TupK fl H' ks b:=by
 cases fl with
 | false=>exact ht _ _ x
 | true=>obtain⟨k,r,t,e,h1,h2⟩:=x; exact ⟨k,r,t,e,ht _ _ h1,ht _ _ h2⟩
def kdT (fl:Bool) (P:Program) (w:World):HeapKind P w (List Key):=match fl with
 | false=>tupleKind (zM P w)
 | true=>jhO (zM P w)
section
variable (P:Program) (w:World)
def ObjOk (H:Hp) (h:Heap) (a:Addr):HO->Prop
 | .lst xs=>xs.length<=sizeLine/\∃ (its:List Value) (n:Nat),Vals xs its/\h.get? a=some { cls:=.type "list",data:=.seq its.toArray n }
 | .tup xs=>xs.length<=sizeLine/\∃ its:List Value,Vals xs its/\TupO h a its.toArray
 | .dK kvs=>kvs.length<=sizeLine/\(a==sysModules)=false/\∃ vs,KV kvs vs/\h.DictOf (zM P w) a vs
 | .dT fl kvs=>kvs.length<=sizeLine/\(a==sysModules)=false/\∃ xs:List (List Key×Addr×Value),
   Paired (fun (p:List Key×V) (q:List Key×Addr×Value)=>p.1=q.1/\TupK fl H p.1 q.2.1/\RelV p.2 q.2.2) kvs xs /\
   ∃ o es ep,h.get? a=some o/\o.ExactDict/\o.data=.dict es ep/\es.toList=xs.map (entryOfKey (kdT fl P w))/\(xs.map (·.1)).Nodup
 | .set S n=>h.SetOf (intKind P w) a S n
 | .ins C dx fs=>H dx=some (.own a)/\fs.length<=1000/\dx≠a/\h.get? a=some (W.instObj C dx) /\
   ∃ mA,h.Ns1 dx mA/\(∀ f,RelO (fs.lookup f) (mA f))/\PySem.Within mA (fs.map (·.1))
 | .own _=>∃ o,h.get? a=some o
 | .xd fs=>∃ mA,h.Ns1 a mA/\∀ f,RelO (fs.lookup f) (mA f)
 | .rng lo hi=>∃ t u v,h.get? a=some { cls:=.type "range",data:=.fields #[.int lo t,.int hi u,.int 1 v] }
 | .frz o u=>h.get? a=some o/\ObjOk H h a u
 | .tbl ps=>h.get? a=some { cls:=.none,data:=.fields ps }
 | .met f x=>h.get? a=some (W.methodObj (.ref f) (.ref x))
 | .ext φ=>φ h/\(∃ o,h.get? a=some o)/\∀ h1 h2:Heap,φ h1->(∀ o,h1.get? a=some o->h2.get? a=some o)->φ h2
def HOk (H:Hp) (h:Heap):Prop:=∀ a o,H a=some o->ObjOk P w H h a o
end
section
variable {H H':Hp}{o:HO}
def ObjOk.lt (x:ObjOk P w H h a o):a<h.objs.size:=by
 cases o with
 | lst xs=>obtain⟨_,_,_,_,e⟩:=x; exact Xl e
 | tup xs=>obtain⟨_,_,_,p⟩:=x; exact p.lt
 | dK kvs=>obtain⟨_,_,_,_,o,_,_,e,_⟩:=x; exact Xl e
 | dT fl kvs=>obtain⟨_,_,_,_,o,_,_,e,_⟩:=x; exact Xl e
 | set S n=>obtain⟨o,_,_,_,e,_⟩:=x; exact Xl e
 | ins C dx fs=>obtain⟨_,_,_,e,_⟩:=x; exact Xl e
 | own y=>obtain⟨_,e⟩:=x; exact Xl e
 | xd fs=>obtain⟨_,⟨_,_,_,e,_⟩,_⟩:=x; exact Xl e
 | rng lo hi=>obtain⟨_,_,_,e⟩:=x; exact Xl e
 | frz ob u=>obtain⟨e,_⟩:=x; exact Xl e
 | tbl ps=>exact Xl (show h.get? a=some _ from x)
 | met f y=>exact Xl (show h.get? a=some _ from x)
 | ext φ=>obtain⟨_,⟨_,e⟩,_⟩:=x; exact Xl e
def Paired.mapP {F G:α->β->Prop}:∀ {l₁:List α}{l₂:List β},Paired F l₁ l₂->(∀ a b,F a b->G a b)->Paired G l₁ l₂
 | _,_,.nil,_=>.nil
 | _,_,.cons r t,f=>.cons (f _ _ r) (Paired.mapP t f)
def ObjOk.stay (x:ObjOk P w H h a o) (k:∀ b u,(b=a \/ H b=some (.own a))->h.get? b=some u->h'.get? b=some u)
  (ho:∀ b,H b=some (.own a)->H' b=some (.own a)) (ht:∀ b xs,H b=some (.tup xs)->H' b=some (.tup xs)):ObjOk P w H' h' a o:=by
 induction o with
 | lst xs=>obtain⟨z,its,n,r,e⟩:=x; exact ⟨z,its,n,r,k _ _ (.inl rfl) e⟩
 | tup xs=>obtain⟨z,its,r,ob,e,c⟩:=x; exact ⟨z,its,r,ob,k _ _ (.inl rfl) e,c⟩
 | dK kvs=>obtain⟨z,y,vs,r,ob,es,ep,e,c⟩:=x; exact ⟨z,y,vs,r,ob,es,ep,k _ _ (.inl rfl) e,c⟩
 | dT fl kvs=>
  obtain⟨z,y,xs,r,ob,es,ep,e,c⟩:=x;exact⟨z,y,xs,Paired.mapP r fun p q z=>⟨z.1,z.2.1.mono ht,z.2.2⟩,ob,es,ep,k _ _ (.inl rfl) e,c⟩
 | set S n=>obtain⟨ob,es,ep,t,e,c⟩:=x; exact ⟨ob,es,ep,t,k _ _ (.inl rfl) e,c⟩
 | ins C dx fs=>
  obtain⟨d,z,ne,e,mA,⟨od,es,ep,e2,c⟩,r⟩:=x;exact⟨ho _ d,z,ne,k _ _ (.inl rfl) e,mA,⟨od,es,ep,k _ _ (.inr d) e2,c⟩,r⟩
 | own y=>obtain⟨ob,e⟩:=x; exact ⟨ob,k _ _ (.inl rfl) e⟩
 | xd fs=>obtain⟨mA,⟨od,es,ep,e,c⟩,r⟩:=x; exact ⟨mA,⟨od,es,ep,k _ _ (.inl rfl) e,c⟩,r⟩
 | rng lo hi=>obtain⟨t,u,v,e⟩:=x; exact ⟨t,u,v,k _ _ (.inl rfl) e⟩
 | frz ob u ih=>obtain⟨e,q⟩:=x; exact ⟨k _ _ (.inl rfl) e,ih q⟩
 | tbl ps=>
  have e:h.get? a=some { cls:=.none,data:=.fields ps }:=x;show h'.get? a=some { cls:=.none,data:=.fields ps };exact k a _ (.inl rfl) e
 | met f y=>
  have e:h.get? a=some (W.methodObj (.ref f) (.ref y)):=x;show h'.get? a=some (W.methodObj (.ref f) (.ref y));exact k a _ (.inl rfl) e
 | ext φ=>obtain⟨p,⟨o,e⟩,st⟩:=x; exact ⟨st _ _ p fun o q=>k _ _ (.inl rfl) q,⟨o,k _ _ (.inl rfl) e⟩,st⟩
def HOk.lt (x:HOk P w H h) (e:H a=some o):a<h.objs.size:=(x a o e).lt
def HOk.fresh (x:HOk P w H h) (e:h.objs.size<=a):H a=none:=by
 cases q:H a with
 | none=>rfl
 | some u=>exact absurd (Xr (x.lt q) e) (XU _)
def HOk.kept (x:HOk P w H h) (k:∀ b u,h.get? b=some u->h'.get? b=some u):HOk P w H h':=fun a o e=>
 (x a o e).stay (fun b u _ q=>k b u q) (fun _ q=>q) fun _ _ q=>q
def HOk.laid (x:HOk P w H h) (k:∀ b u,h.get? b=some u->h'.get? b=some u) (hp:h.objs.size<=a) (new:ObjOk P w (upd H a o) h' a o):HOk P w (upd H a o) h':=fun b u e=>by
 have hn:=x.fresh hp;by_cases hb:b=a
 ·subst hb; rw[j_] at e; cases e; exact new
 ·rw[km hb] at e;exact(x b u e).stay (fun c v _ q=>k c v q) (fun c q=>by rw[km (yp q hn)]; exact q) fun c xs q=>by rw[km (yp q hn)]; exact q
end
def Rd (H:Hp) (a:Addr) (u:HO):Prop:=H a=some u \/ ∃ o,H a=some (.frz o u)
def Rd.ok {H:Hp}{u:HO} (r:Rd H a u) (x:HOk P w H h):ObjOk P w H h a u:=by
 rcases r with r | ⟨o,r⟩
 ·exact x a u r
 ·obtain⟨_,q⟩:=x a _ r;exact q
def Mut:Option HO->Prop
 | some (.lst _)=>True
 | some (.dK _)=>True
 | some (.dT _ _)=>True
 | some (.set _ _)=>True
 | some (.ins _ _ _)=>True
 | some (.ext _)=>True
 | _=>False
section
variable {H:Hp}{x e:Addr}{o':HO}
def HOk.write (ok:HOk P w H h) (mu:Mut (H x)) (he:e=x \/ H e=some (.own x)) (k:∀ b u,b≠e->h.get? b=some u->h'.get? b=some u) (heo:∃ u,h'.get? e=some u)
  (new:ObjOk P w (upd H x o') h' x o'):HOk P w (upd H x o') h':=fun b u q=>by
 have nown:∀ c y,H c=some (.own y)->c≠x:=fun c y r z=>by subst z; rw[r] at mu; exact mu
 have ntup:∀ c xs,H c=some (.tup xs)->c≠x:=fun c xs r z=>by subst z; rw[r] at mu; exact mu
 by_cases hb:b=x
 ·subst hb; rw[j_] at q; cases q; exact new
 ·rw[km hb] at q;by_cases hbe:b=e
  ·have q':H b=some (.own x):=by
    rcases he with z | z
    ·exact absurd (hbe.trans z) hb
    ·rw[hbe]; exact z
   rw[q] at q'; cases q';obtain⟨v,hv⟩:=heo;exact⟨v,by rw[hbe]; exact hv⟩
  ·refine(ok b u q).stay (fun c v hc r=>k c v ?_ r) (fun c r=>by rw[km (nown c b r)]; exact r) fun c xs r=>by rw[km (ntup c xs r)]; exact r
   rcases hc with rfl | hc
   ·exact hbe
   ·rintro rfl;rcases he with z | z
    ·exact nown c b hc z
    ·rw[hc] at z; cases z; exact hb rfl
end
structure Un (fs ex:List Addr) (H H':Hp) (h h':Heap):Prop where
 keep:∀ b o,h.get? b=some o->H b=none->b∉fs->b∉ex->h'.get? b=some o
 slot:∀ b o,h.get? b=some o->H b=none->b∈fs->b∉ex->∃ sl,h'.get? b=some { o with slots:=sl }
 free:∀ b o,h.get? b=some o->H b=none->b∉ex->H' b=none
 there:∀ b o,h.get? b=some o->b∉ex->∃ o',h'.get? b=some o'
 tups:∀ b xs,H b=some (.tup xs)->H' b=some (.tup xs)
 frzs:∀ b o u,H b=some (.frz o u)->H' b=some (.frz o u)
 tbls:∀ b ps,H b=some (.tbl ps)->∃ more,H' b=some (.tbl (ps++more))
section
variable {fs fs' ex ex':List Addr}{H H1 H2:Hp}{h1 h2:Heap}{x e:Addr}{o:HO}
def Un.any (u:Un fs ex H H1 h h1) {b:Addr}{ob:Obj} (q:h.get? b=some ob) (n:H b=none) (hx:b∉ex):∃ sl,h1.get? b=some { ob with slots:=sl }:=by
 by_cases hb:b∈fs
 ·exact u.slot b ob q n hb hx
 ·exact⟨ob.slots,u.keep b ob q n hb hx⟩
def Un.kept (k:∀ b u,h.get? b=some u->h'.get? b=some u):Un fs ex H H h h':=
 ⟨fun b ob q _ _ _=>k b ob q,fun b ob q _ _ _=>⟨ob.slots,k b ob q⟩,fun _ _ _ n _=>n,fun b ob q _=>⟨ob,k b ob q⟩,fun _ _ q=>q,fun _ _ _ q=>q,fun _ ps q=>⟨#[],by rw[q]; simp⟩⟩
def Un.refl:Un fs ex H H h h:=Un.kept fun _ _ q=>q
def Un.laid (k:∀ b u,h.get? b=some u->h'.get? b=some u) (hp:h.objs.size<=a) (hn:H a=none):Un fs ex H (upd H a o) h h' where
 keep:=fun b u q _ _ _=>k b u q
 slot:=fun b u q _ _ _=>⟨u.slots,k b u q⟩
 free:=fun b u q n _=>by rw[km (XO (Xr (Xl q) hp))]; exact n
 there:=fun b u q _=>⟨u,k b u q⟩
 tups:=fun b xs q=>by rw[km (yp q hn)]; exact q
 frzs:=fun b u xs q=>by rw[km (yp q hn)]; exact q
 tbls:=fun b ps q=>⟨#[],by rw[km (yp q hn),q]; simp⟩
def Un.write (mu:Mut (H x)) (he:e=x \/ H e=some (.own x)) (k:∀ b u,b≠e->h.get? b=some u->h'.get? b=some u) (heo:∃ u,h'.get? e=some u):Un fs ex H (upd H x o) h h':=by
 have hx:∀ b,H b=none->b≠x:=fun b n z=>by subst z; rw[n] at mu; exact mu
 have hb:∀ b,H b=none->b≠e:=fun b n z=>by
  subst z;rcases he with r | r
  ·exact hx b n r
  ·rw[n] at r; cases r
 have hm:∀ b u,H b=some u->¬ Mut (some u)->b≠x:=fun b u q nm z=>by subst z; rw[q] at mu; exact nm mu
 refine⟨fun b u q n _ _=>k b u (hb b n) q,fun b u q n _ _=>⟨u.slots,k b u (hb b n) q⟩,fun b u q n _=>by rw[km (hx b n)]; exact n,fun b u q _=>?_,
  fun b xs q=>by rw[km (hm b _ q fun z=>z)]; exact q,fun b u xs q=>by rw[km (hm b _ q fun z=>z)]; exact q,fun b ps q=>⟨#[],by rw[km (hm b _ q fun z=>z),q]; simp⟩⟩
 by_cases hbe:b=e
 ·subst hbe; exact heo
 ·exact⟨u,k b u hbe q⟩
end
def trk (h:Heap) (H:Hp):List Addr:=(List.range h.objs.size).filter fun a=>(H a).isSome
def jhP (h:Heap) (H:Hp):Heap:=W.hideAll h (trk h H)
def jfr (h:Heap) (H:Hp):(jhP h H).objs.size=h.objs.size:=W.hideAll_size _ _
def jhQ {H:Hp}{b:Addr} (e:h.get? b=some o) (n:H b=none):(jhP h H).get? b=some o:=
 W.hideAll_get _ e fun hm=>by
  have q:(H b).isSome=true:=(List.mem_filter.mp hm).2;rw[n] at q; simp at q
def jkc {H:Hp}{b:Addr} (e:(jhP h H).get? b=some o):h.get? b=some o/\H b=none:=by
 have e':h.get? b=some o:=W.of_hideAll (trk h H) e;refine⟨e',?_⟩;cases q:H b with
 | none=>rfl
 | some x=>
  have hm:b∈trk h H:=List.mem_filter.mpr ⟨List.mem_range.mpr (Xl e'),by simp[q]⟩;have z:(jhP h H).get? b=none:=W.hideAll_none (trk h H) hm;rw[z] at e; cases e
def jkd (g h:Heap) (L:Addr):List (Addr×Obj):=(List.range h.objs.size).filterMap fun a=>if a=L \/ (g.get? a).isSome=true then none else (h.get? a).map fun o=>(a,o)
def rest (g h:Heap) (L d:Addr):List (Addr×Obj):=(jkd g h L).filter fun p=>decide (p.1≠d)
structure Mod (K:W.Frag) (mg:Str->Option Value) (base:Heap):Prop where
 kin:K.In base
 glob:base.Ns mainGlobals mg
 blt:∃ mb,base.Ns builtinsNs mb/\∀ x:Str,x≠"__name__"->mb x=bootBuiltins x
 nolimit:base.NoLimit
structure Cx where
 prog:Program
 w:World
 K:W.Frag
 mg:Str->Option Value
 base:Heap
 A:Around
 N:List Str
 s₀:Shared
 H₀:Hp
 env:Env
 outer:List Env
 stack:List Env
 ex:List Addr
 fn:Str->Bool
 calm:Bool
 pn:List (Addr×Obj)
 xe:Value->Shared->Prop
def frs (l:List Env):List Addr:=l.filterMap (·.frame)
abbrev Cx.fs (X:Cx):List Addr:=frs X.outer
def Vis (sc:Scope) (x:Str):Prop:=sc.names.lookup x=some .local \/ sc.names.lookup x=some .cell \/ sc.names.lookup x=some .free
def Loc (sc:Scope) (x:Str):Prop:=sc.names.lookup x=some .local \/ sc.names.lookup x=some .cell
def joD (env:Env) (h:Heap) (m:Str->Option Value) (x:Str) (u:Value):Prop:=
 (env.kindOf x=some .local/\m x=some u) \/ ((env.kindOf x=some .cell \/ env.kindOf x=some .free)/\∃ c,env.cells.lookup x=some c/\h.IsCell c (some u))
structure Cx.Ok (X:Cx):Prop where
 mod:Mod X.K X.mg X.base
 kind:X.env.scope.kind=.function
 glob:X.env.globals=mainGlobals
 blt:X.env.builtins=builtinsNs
 above:X.s₀.heap.objs.size<=X.env.locals
 inj:∀ x y c,X.env.cells.lookup x=some c->X.env.cells.lookup y=some c->x=y
 has:∀ x,(X.env.kindOf x=some .cell \/ X.env.kindOf x=some .free)->∃ c,X.env.cells.lookup x=some c
 cab:∀ x c,X.fn x=true->X.env.cells.lookup x=some c->X.s₀.heap.objs.size<=c
 hd:X.calm=true->X.A.handled=none
 frames:X.A.frames=some X.stack
 stk:X.stack=X.outer \/ (X.stack=X.env::X.outer/\X.env.frame=some X.env.locals)
 exf:∀ b∈X.ex,b≠X.env.locals/\∀ x c,X.env.cells.lookup x=some c->c≠b
 bs:∀ b o,X.base.get? b=some o->X.s₀.heap.get? b=some o/\X.H₀ b=none
 bsz:X.base.objs.size<=X.s₀.heap.objs.size
 noex:∀ b o,X.base.get? b=some o->b∉X.ex
 exfs:∀ b∈X.ex,b∉X.fs
 funs:X.s₀.heap.FunFrames X.base X.outer
 frf:∀ b∈X.fs,X.H₀ b=none
structure Inv (X:Cx) (pins:List (Addr×Obj)) (σ:List (Option V)) (H:Hp) (s:Shared):Prop where
 ok:X.Ok
 os:s.os=X.s₀.os
 bare:AllBare s.gens
 base:Un X.fs X.ex X.H₀ H X.s₀.heap s.heap
 loc:∃ m,s.heap.Ns X.env.locals m/\∀ (i:Nat) (x:Str) (v:V),X.N[i]?=some x->σ[i]?=some (some v)->Vis X.env.scope x->∃ u,RelV v u/\joD X.env s.heap m x u
 cell:∀ x c,X.env.cells.lookup x=some c->∃ v,s.heap.IsCell c v
 free:H X.env.locals=none
 freeC:∀ x c,X.env.cells.lookup x=some c->H c=none
 pin:∀ p∈X.pn++pins,s.heap.get? p.1=some p.2/\H p.1=none/\p.1≠X.env.locals/\p.1∉X.fs/\∀ v,p.2.data≠.cell v
 hok:HOk X.prog X.w H s.heap
 len:σ.length=X.N.length
section
variable {X:Cx}{σ:List (Option V)}{H H':Hp} 
def Cx.Ok.nofr (ok:X.Ok) {b:Addr} (e:X.base.get? b=some o):b∉X.fs:=fun hb=>by
 have:=(ok.funs.mem hb).1;rw[e] at this; cases this
def Inv.bs (I:Inv X pins σ H s):∀ b o,X.base.get? b=some o->s.heap.get? b=some o/\H b=none:=fun b o e=>
 ⟨I.base.keep b o (I.ok.bs b o e).1 (I.ok.bs b o e).2 (I.ok.nofr e) (I.ok.noex b o e),I.base.free b o (I.ok.bs b o e).1 (I.ok.bs b o e).2 (I.ok.noex b o e)⟩
def Inv.bk (I:Inv X pins σ H s):∀ b o,X.base.get? b=some o->s.heap.get? b=some o:=fun b o e=>(I.bs b o e).1
def Inv.mod (I:Inv X pins σ H s):Mod X.K X.mg X.base:=I.ok.mod
def Inv.kIn (I:Inv X pins σ H s):X.K.In s.heap:=I.ok.mod.kin.keeps I.bk
def Inv.lt (I:Inv X pins σ H s):X.env.locals<s.heap.objs.size:=let ⟨_,hn,_⟩:=I.loc; hn.lt
def Inv.sz (I:Inv X pins σ H s):X.s₀.heap.objs.size<=s.heap.objs.size:=XV I.ok.above (Nat.le_of_lt I.lt)
def Inv.nofs (I:Inv X pins σ H s) (h:s.heap.objs.size<=a):a∉X.fs:=fun hb=>by
 obtain⟨_,o,ho,_⟩:=I.ok.funs.mem hb;exact absurd (Xr (Xl ho) (XV I.sz h)) (XU _)
def Inv.cne (I:Inv X pins σ H s):∀ x c,X.env.cells.lookup x=some c->c≠X.env.locals:=fun x c e z=>by
 obtain⟨v,o,ho,hd⟩:=I.cell x c e;obtain⟨m,⟨o',es,ep,ho',hd',_⟩,_⟩:=I.loc;rw[z,ho'] at ho; cases ho; rw[hd'] at hd; cases hd
def Inv.funs (I:Inv X pins σ H s):s.heap.FunFrames X.base X.outer:=by
 have all:∀ (l:List Env),(∀ b∈frs l,b∈X.fs)->X.s₀.heap.FunFrames X.base l->s.heap.FunFrames X.base l:=by
  intro l
  induction l with
  | nil=>intro _ _; trivial
  | cons env r ih=>
   intro hs hl;obtain⟨hk,⟨L,o,hf,hn,ho,hd⟩,hr⟩:=hl;have hL:L∈X.fs:=hs L (by unfold frs; rw[List.filterMap_cons,hf]; exact Xo);obtain⟨sl,e⟩:=I.base.slot L o ho (I.ok.frf L hL) hL fun z=>I.ok.exfs L z hL;exact⟨hk,⟨L,_,hf,hn,e,hd⟩,ih (fun b hb=>hs b (by unfold frs; rw[List.filterMap_cons,hf]; exact Xn _ hb)) hr⟩
 exact all X.outer (fun _ hb=>hb) I.ok.funs
def Inv.stack (I:Inv X pins σ H s):s.heap.FunFrames X.base X.stack:=by
 rcases I.ok.stk with e | ⟨e,hf⟩
 ·rw[e]; exact I.funs
 ·rw[e];obtain⟨m,hn,_⟩:=I.loc;refine .cons (by rw[I.ok.kind]; decide) hf hn ?_ I.funs;exact Heap.get?_none_of_le (XV I.ok.bsz I.ok.above)
def Inv.stkSub (I:Inv X pins σ H s):∀ b∈frs X.stack,b∈X.env.locals::X.fs:=fun b hb=>by
 rcases I.ok.stk with e | ⟨e,hf⟩
 ·rw[e] at hb; exact Xn _ hb
 ·rw[e] at hb;unfold frs at hb;rw[List.filterMap_cons,hf] at hb;exact hb
def Inv.stkFree (I:Inv X pins σ H s):∀ b∈frs X.stack,H b=none:=fun b hb=>by
 rcases List.mem_cons.mp (I.stkSub b hb) with e | hb
 ·rw[e]; exact I.free
 ·obtain⟨_,o,ho,_⟩:=I.ok.funs.mem hb;exact I.base.free b o ho (I.ok.frf b hb) fun z=>I.ok.exfs b z hb
def Inv.step {g':Array GenState}{d':Drawn} (I:Inv X pins σ H s)
  (hch:∀ b∈ch,(b∈X.ex \/ X.s₀.heap.objs.size<=b)/\b≠X.env.locals/\(∀ x c,X.env.cells.lookup x=some c->c≠b)/\∀ p∈X.pn++pins,p.1≠b)
  (keep:∀ b o,b≠X.env.locals->b∉X.fs->b∉ch->s.heap.get? b=some o->H b=none->h'.get? b=some o)
  (slot:∀ b o,b≠X.env.locals->b∈X.fs->b∉ch->s.heap.get? b=some o->H b=none->∃ sl,h'.get? b=some { o with slots:=sl }) (free:∀ b o,b∉ch->s.heap.get? b=some o->H b=none->H' b=none)
  (there:∀ b o,b∉ch->s.heap.get? b=some o->∃ o',h'.get? b=some o')
  (tups:∀ b xs,H b=some (.tup xs)->H' b=some (.tup xs)) (frzs:∀ b o u,H b=some (.frz o u)->H' b=some (.frz o u)) (tbls:∀ b ps,H b=some (.tbl ps)->∃ more,H' b=some (.tbl (ps++more)))
  (ns:∀ m,s.heap.Ns X.env.locals m->h'.Ns X.env.locals m) (hok:HOk X.prog X.w H' h') (hg:AllBare g') :
  Inv X pins σ H' { s with heap:=h',gens:=g',drawn:=d',toks:=t' }:=by
 have neL:∀ b o,X.s₀.heap.get? b=some o->b≠X.env.locals:=fun b o e=>XO (Xr (Xl e) I.ok.above);have neC:∀ b o,X.s₀.heap.get? b=some o->b∉X.ex->b∉ch:=fun b o e hx hb=>by
  rcases (hch b hb).1 with z | z
  ·exact hx z
  ·exact absurd (Xr (Xl e) z) (XU _)
 have cellK:∀ x c,X.env.cells.lookup x=some c->∀ v,s.heap.IsCell c v->h'.IsCell c v:=fun x c e v ⟨o,ho,hd⟩=>by
  have nch:c∉ch:=fun z=>(hch c z).2.2.1 x c e rfl;by_cases hc:c∈X.fs
  ·obtain⟨sl,q⟩:=slot c o (I.cne x c e) hc nch ho (I.freeC x c e);exact⟨_,q,hd⟩
  ·exact⟨o,keep c o (I.cne x c e) hc nch ho (I.freeC x c e),hd⟩
 refine⟨I.ok,I.os,hg,⟨fun b o e n hb hx=>?_,fun b o e n hb hx=>?_,fun b o e n hx=>?_,fun b o e hx=>?_,fun b xs e=>tups b xs (I.base.tups b xs e),fun b o xs e=>frzs b o xs (I.base.frzs b o xs e),fun b ps e=>?_⟩,?_,fun x c e=>?_,?_,fun x c e=>?_,fun p hp=>?_,hok,I.len⟩
 ·exact keep b o (neL b o e) hb (neC b o e hx) (I.base.keep b o e n hb hx) (I.base.free b o e n hx)
 ·obtain⟨sl,e1⟩:=I.base.slot b o e n hb hx;obtain⟨sl',e2⟩:=slot b _ (neL b o e) hb (neC b o e hx) e1 (I.base.free b o e n hx);exact⟨sl',e2⟩
 ·obtain⟨o',e1⟩:=I.base.there b o e hx;exact free b o' (neC b o e hx) e1 (I.base.free b o e n hx)
 ·obtain⟨o',e1⟩:=I.base.there b o e hx;exact there b o' (neC b o e hx) e1
 ·obtain⟨m1,e1⟩:=I.base.tbls b ps e;obtain⟨m2,e2⟩:=tbls b _ e1;exact⟨m1++m2,by rw[e2,Array.append_assoc]⟩
 ·obtain⟨m,hn,hl⟩:=I.loc;refine⟨m,ns m hn,fun i x v e1 e2 e3=>?_⟩;obtain⟨u,r,l⟩:=hl i x v e1 e2 e3;refine⟨u,r,?_⟩;rcases l with l | ⟨k,c,e,z⟩
  ·exact .inl l
  ·exact .inr ⟨k,c,e,cellK x c e _ z⟩
 ·obtain⟨v,z⟩:=I.cell x c e;exact⟨v,cellK x c e v z⟩
 ·obtain⟨m,⟨o,_,_,ho,_⟩,_⟩:=I.loc;exact free _ o (fun z=>(hch _ z).2.1 rfl) ho I.free
 ·obtain⟨v,o,ho,hd⟩:=I.cell x c e;exact free c o (fun z=>(hch c z).2.2.1 x c e rfl) ho (I.freeC x c e)
 ·obtain⟨e,n,ne,nf,d⟩:=I.pin p hp;have nch:p.1∉ch:=fun z=>(hch p.1 z).2.2.2 p hp rfl;exact⟨keep p.1 p.2 ne nf nch e n,free p.1 p.2 nch e n,ne,nf,d⟩
def Inv.un (I:Inv X pins σ H s) (u:Un X.fs [] H H' s.heap h') (hok:HOk X.prog X.w H' h'):Inv X pins σ H' { s with heap:=h',toks:=t' }:=by
 obtain⟨m,⟨o,es,ep,ho,r⟩,_⟩:=id I.loc;obtain⟨sl,hL⟩:=u.any ho I.free (by simp);exact I.step (g':=s.gens) (d':=s.drawn) (ch:=[]) (fun _ z=>nomatch z) (fun b o _ hb _ e n=>u.keep b o e n hb (by simp)) (fun b o _ hb _ e n=>u.slot b o e n hb (by simp)) (fun b o _ e n=>u.free b o e n (by simp)) (fun b o _ e=>u.there b o e (by simp)) u.tups u.frzs u.tbls (fun m' hm=>by
  obtain⟨o',es',ep',ho',r'⟩:=hm;rw[ho] at ho'; cases ho';exact⟨_,es',ep',hL,r'⟩) hok I.bare
def Inv.call {g':Array GenState}{d':Drawn} (I:Inv X pins σ H s) (u:Un (frs X.stack) ch H H' s.heap h') (hok:HOk X.prog X.w H' h') (hg:AllBare g')
  (hch:∀ b∈ch,(b∈X.ex \/ X.s₀.heap.objs.size<=b)/\b≠X.env.locals/\(∀ x c,X.env.cells.lookup x=some c->c≠b)/\∀ p∈X.pn++pins,p.1≠b) :
  Inv X pins σ H' { s with heap:=h',gens:=g',drawn:=d',toks:=t' }:=by
 obtain⟨m,⟨o,es,ep,ho,r⟩,_⟩:=id I.loc;obtain⟨sl,hL⟩:=u.any ho I.free fun z=>(hch _ z).2.1 rfl;exact I.step (ch:=ch) hch (fun b o hL hb hc e n=>u.keep b o e n (fun z=>(List.mem_cons.mp (I.stkSub b z)).elim hL hb) hc) (fun b o _ _ hc e n=>u.any e n hc) (fun b o hc e n=>u.free b o e n hc) (fun b o hc e=>u.there b o e hc) u.tups u.frzs u.tbls (fun m' hm=>by
  obtain⟨o',es',ep',ho',r'⟩:=hm;rw[ho] at ho'; cases ho';exact⟨_,es',ep',hL,r'⟩) hok hg
def Inv.turned (I:Inv X pins σ H s) (k:∀ b o,b≠it->s.heap.get? b=some o->h'.get? b=some o) (hn:H it=none) (hL:it≠X.env.locals)
  (h1:it∈X.ex \/ X.s₀.heap.objs.size<=it) (h2:∀ x c,X.env.cells.lookup x=some c->c≠it) (h3:∀ p∈X.pn++pins,p.1≠it):Inv X pins σ H { s with heap:=h',toks:=t' }:=by
 have nit:∀ b u,H b=some u->b≠it:=fun b u e z=>by rw[z,hn] at e; cases e
 refine I.step (g':=s.gens) (d':=s.drawn) (ch:=[it]) (fun b hb=>?_) (fun b o _ _ hc e _=>k b o (fun z=>hc (by simp[z])) e) (fun b o _ _ hc e _=>⟨o.slots,k b o (fun z=>hc (by simp[z])) e⟩) (fun _ _ _ _ n=>n)
  (fun b o hc e=>⟨o,k b o (fun z=>hc (by simp[z])) e⟩) (fun _ _ e=>e) (fun _ _ _ e=>e) (fun b ps e=>⟨#[],by rw[e]; simp⟩) (fun m hm=>?_) (fun b u e=>?_) I.bare
 ·have e:b=it:=by simpa using hb
  subst e;exact⟨h1,hL,h2,h3⟩
 ·obtain⟨o,es,ep,ho,r⟩:=hm;exact⟨o,es,ep,k _ o (Ne.symm hL) ho,r⟩
 ·refine(I.hok b u e).stay (fun c v hc q=>k c v ?_ q) (fun _ q=>q) fun _ _ q=>q;rcases hc with z | z
  ·rw[z]; exact nit b u e
  ·exact nit c _ z
def Inv.tok (I:Inv X pins σ H s) (t:Nat):Inv X pins σ H { s with toks:=t }:=I.un (h':=s.heap) (t':=t) Un.refl I.hok
def Inv.kept (I:Inv X pins σ H s) (k:∀ b u,s.heap.get? b=some u->h'.get? b=some u):Inv X pins σ H { s with heap:=h',toks:=t' }:=I.un (Un.kept k) (I.hok.kept k)
def Inv.laid {o:HO} (I:Inv X pins σ H s) (k:∀ b u,s.heap.get? b=some u->h'.get? b=some u) (hp:s.heap.objs.size<=a) (new:ObjOk X.prog X.w (upd H a o) h' a o) :
  Inv X pins σ (upd H a o) { s with heap:=h',toks:=t' }:=I.un (Un.laid k hp (I.hok.fresh hp)) (I.hok.laid k hp new)
def Inv.write {x e:Addr}{o:HO} (I:Inv X pins σ H s) (mu:Mut (H x)) (he:e=x \/ H e=some (.own x)) (k:∀ b u,b≠e->s.heap.get? b=some u->h'.get? b=some u) (heo:∃ u,h'.get? e=some u)
  (new:ObjOk X.prog X.w (upd H x o) h' x o):Inv X pins σ (upd H x o) { s with heap:=h',toks:=t' }:=I.un (Un.write mu he k heo) (I.hok.write mu he k heo new)
def Inv.pins_of {pins':List (Addr×Obj)} (I:Inv X pins σ H s) (h:∀ p∈pins',s.heap.get? p.1=some p.2/\H p.1=none/\p.1≠X.env.locals/\p.1∉X.fs/\∀ v,p.2.data≠.cell v):Inv X pins' σ H s:=
 ⟨I.ok,I.os,I.bare,I.base,I.loc,I.cell,I.free,I.freeC,fun p hp=>(List.mem_append.mp hp).elim (fun z=>I.pin p (List.mem_append_left _ z)) (h p),I.hok,I.len⟩
def jdl (hN:N.Nodup) {j:Nat} (a:N[i]?=some x) (b:N[j]?=some x):i=j:=by
 obtain⟨h1,e1⟩:=List.getElem?_eq_some_iff.mp a;obtain⟨h2,e2⟩:=List.getElem?_eq_some_iff.mp b;exact(List.getElem_inj hN).mp (e1.trans e2.symm)
def jaC {v:V}{Q:Unit->Shared->Prop} (I:Inv X pins σ H s) (hN:X.N.Nodup) (hi:X.N[i]?=some x) (hx:Loc X.env.scope x) (r:RelV v u)
  (h:∀ s',Inv X pins (σ.set i (some v)) H s'->(∃ a,Heap.SameBut a s.heap s'.heap/\(a=X.env.locals \/ X.env.cells.lookup x=some a))->Q () s') (hf:X.fn x=true \/ X.env.scope.names.lookup x=some .local:=by first | exact .inl rfl | exact .inr rfl | assumption):wpAny M A (storeName X.env x u) Q E s:=by
 obtain⟨m,hn,hl⟩:=id I.loc;have hcls:(X.env.scope.kind==.class||(X.env.scope.kind==.module&&X.env.locals != X.env.globals))=false:=by rw[I.ok.kind]; rfl
 have hiσ:i < σ.length:=by rw[I.len]; exact (List.getElem?_eq_some_iff.mp hi).1
 have cne:=I.cne;have tracked:∀ {a:Addr}{h':Heap},(∃ o,s.heap.get? a=some o/\H a=none)->Heap.SameBut a s.heap h'->HOk X.prog X.w H h':=fun {a h'} ha hs b ob e=>by
  obtain⟨_,_,hfree⟩:=ha;refine(I.hok b ob e).stay (fun c w' hc q=>(hs.2 c ?_).trans q) (fun _ q=>q) fun _ _ q=>q;rintro rfl;rcases hc with rfl | hc
  ·rw[hfree] at e; cases e
  ·rw[hfree] at hc; cases hc
 rcases hx with hk | hk
 ·refine wpAny_storeName_local hk hn (fun h' hn' hs=>?_) hcls;obtain⟨oL,_,_,hoL,_⟩:=id hn;refine h _ ⟨I.ok,I.os,I.bare,⟨fun b o e n hb hx=>?_,fun b o e n hb hx=>?_,I.base.free,fun b o e hx=>?_,I.base.tups,I.base.frzs,I.base.tbls⟩,⟨_,hn',fun j y v' e1 e2 e3=>?_⟩,fun y c e=>?_,I.free,I.freeC,fun p hp=>?_,tracked ⟨oL,hoL,I.free⟩ hs,by simpa using I.len⟩ ⟨_,hs,.inl rfl⟩
  ·exact(hs.2 b (XO (Xr (Xl e) I.ok.above))).trans (I.base.keep b o e n hb hx)
  ·obtain⟨sl,e1⟩:=I.base.slot b o e n hb hx;exact⟨sl,(hs.2 b (XO (Xr (Xl e) I.ok.above))).trans e1⟩
  ·obtain⟨o',e1⟩:=I.base.there b o e hx;exact⟨o',(hs.2 b (XO (Xr (Xl e) I.ok.above))).trans e1⟩
  ·by_cases hj:j=i
   ·subst hj;rw[hi] at e1; cases e1;rw[List.getElem?_set_self hiσ] at e2;cases e2;exact⟨u,r,.inl ⟨hk,by simp⟩⟩
   ·rw[List.getElem?_set_ne (Ne.symm hj)] at e2;obtain⟨u',r',q⟩:=hl j y v' e1 e2 e3;refine⟨u',r',?_⟩;rcases q with⟨k,e⟩ | ⟨k,c,e,z⟩
    ·refine .inl ⟨k,?_⟩;have:y≠x:=fun e=>hj (jdl hN e1 (e ▸ hi));simp[this,e]
    ·exact .inr ⟨k,c,e,z.sameBut hs (cne y c e)⟩
  ·obtain⟨w',z⟩:=I.cell y c e;exact⟨w',z.sameBut hs (cne y c e)⟩
  ·obtain⟨e,n,ne,nf,d⟩:=I.pin p hp;exact⟨(hs.2 p.1 ne).trans e,n,ne,nf,d⟩
 ·have hfn:X.fn x=true:=by
   rcases hf with z | z
   ·exact z
   ·rw[z] at hk; cases hk
  obtain⟨c,hc⟩:=I.ok.has x (.inl hk);obtain⟨w',z⟩:=I.cell x c hc;refine wpAny_storeName_cell I.ok.kind hk hc z (fun h' hc' hs=>?_);obtain⟨oc,hoc,hocd⟩:=id z;refine h { s with heap:=h' } ⟨I.ok,I.os,I.bare,⟨fun b o e n hb hx=>?_,fun b o e n hb hx=>?_,I.base.free,fun b o e hx=>?_,I.base.tups,I.base.frzs,I.base.tbls⟩,⟨m,hn.sameBut hs (Ne.symm (cne x c hc)),fun j y v' e1 e2 e3=>?_⟩,fun y c' e=>?_,I.free,I.freeC,fun p hp=>?_,tracked ⟨oc,hoc,I.freeC x c hc⟩ hs,by simpa using I.len⟩ ⟨c,hs,.inr hc⟩
  ·exact(hs.2 b (XO (Xr (Xl e) (I.ok.cab x c hfn hc)))).trans (I.base.keep b o e n hb hx)
  ·obtain⟨sl,e1⟩:=I.base.slot b o e n hb hx;exact⟨sl,(hs.2 b (XO (Xr (Xl e) (I.ok.cab x c hfn hc)))).trans e1⟩
  ·obtain⟨o',e1⟩:=I.base.there b o e hx;exact⟨o',(hs.2 b (XO (Xr (Xl e) (I.ok.cab x c hfn hc)))).trans e1⟩
  ·by_cases hj:j=i
   ·subst hj;rw[hi] at e1; cases e1;rw[List.getElem?_set_self hiσ] at e2;cases e2;exact⟨u,r,.inr ⟨.inl hk,c,hc,hc'⟩⟩
   ·rw[List.getElem?_set_ne (Ne.symm hj)] at e2;obtain⟨u',r',q⟩:=hl j y v' e1 e2 e3;refine⟨u',r',?_⟩;rcases q with q | ⟨k,c',e,z'⟩
    ·exact .inl q
    ·refine .inr ⟨k,c',e,z'.sameBut hs ?_⟩;rintro rfl;exact hj (jdl hN e1 (I.ok.inj _ _ _ e hc ▸ hi))
  ·by_cases hcc:c'=c
   ·subst hcc; exact ⟨_,hc'⟩
   ·obtain⟨w2,z2⟩:=I.cell y c' e;exact⟨w2,z2.sameBut hs hcc⟩
  ·obtain⟨e,n,ne,nf,d⟩:=I.pin p hp;refine⟨(hs.2 p.1 ?_).trans e,n,ne,nf,d⟩;intro q;rw[q,hoc] at e;have q':oc=p.2:=Option.some.inj e;exact d w' (by rw[<- q']; exact hocd)
def YO {v:V}{Q:Unit->Shared->Prop} (I:Inv X pins σ H s) (hN:X.N.Nodup) (hi:X.N[i]?=some x) (hx:Loc X.env.scope x) (r:RelV v u)
  (h:∀ s',Inv X pins (σ.set i (some v)) H s'->Q () s') (hf:X.fn x=true \/ X.env.scope.names.lookup x=some .local:=by first | exact .inl rfl | exact .inr rfl | assumption):wpAny M A (storeName X.env x u) Q E s:=
 jaC I hN hi hx r (fun s' I' _=>h s' I') hf
def Inv.call' (I:Inv X pins σ H s) (ho:s'.os=s.os) (u:Un (frs X.stack) ch H H' s.heap s'.heap) (hok:HOk X.prog X.w H' s'.heap) (hg:AllBare s'.gens)
  (hch:∀ b∈ch,(b∈X.ex \/ X.s₀.heap.objs.size<=b)/\b≠X.env.locals/\(∀ x c,X.env.cells.lookup x=some c->c≠b)/\∀ p∈X.pn++pins,p.1≠b):Inv X pins σ H' s':=by
 obtain⟨h',g',d',t',o'⟩:=s';have e:o'=s.os:=ho;subst e;exact I.call (g':=g') (t':=t') (d':=d') u hok hg hch
end
abbrev XK:=Value->Option Addr->Hp->Prop
abbrev St:=List (Option V)
abbrev VK:=V->Hp->Prop
abbrev TE:=St->Hp->VK->Prop
abbrev TT:=St->Hp->(Bool->Hp->Prop)->Prop
abbrev TA:=St->Hp->(List V->Hp->Prop)->Prop
structure Ends where
 nx:St->Hp->Prop
 rt:VK
 bk:St->Hp->Prop:=fun _ _=>False
 ct:St->Hp->Prop:=fun _ _=>False
abbrev TS:=Ends->St->Hp->Prop
def EP (X:Cx) (pins:List (Addr×Obj)) (σ:St) (Q:VK) (u:Value) (s':Shared):Prop:=∃ v H',Inv X pins σ H' s'/\RelV v u/\Q v H'
def TP (X:Cx) (pins:List (Addr×Obj)) (σ:St) (Q:Bool->Hp->Prop) (b:Bool) (s':Shared):Prop:=∃ H',Inv X pins σ H' s'/\Q b H'
def AP (X:Cx) (pins:List (Addr×Obj)) (σ:St) (Q:List V->Hp->Prop) (us:List Value) (s':Shared):Prop:=∃ vs H',Inv X pins σ H' s'/\Vals vs us/\Q vs H'
def SP (X:Cx) (pins:List (Addr×Obj)) (D:Ends) (f:Flow) (s':Shared):Prop:=
 match f with
 | .next=>∃ σ' H',Inv X pins σ' H' s'/\D.nx σ' H'
 | .brk=>∃ σ' H',Inv X pins σ' H' s'/\D.bk σ' H'
 | .cont=>∃ σ' H',Inv X pins σ' H' s'/\D.ct σ' H'
 | .ret u=>∃ v σ' H',Inv X pins σ' H' s'/\RelV v u/\D.rt v H'
def PE (X:Cx) (e:Expr) (t:TE):Prop:=
 ∀ (pins:List (Addr×Obj)) (s:Shared) (σ:St) (H:Hp) (Q:VK),Inv X pins σ H s->t σ H Q->wpAny (model X.prog X.w) X.A (eval e X.env) (EP X pins σ Q) X.xe s
def PT (X:Cx) (e:Expr) (t:TT):Prop:=
 ∀ (pins:List (Addr×Obj)) (s:Shared) (σ:St) (H:Hp) (Q:Bool->Hp->Prop),Inv X pins σ H s->t σ H Q->wpAny (model X.prog X.w) X.A (isTrue e X.env (eval e X.env)) (TP X pins σ Q) X.xe s
def PW (X:Cx) (e:Expr) (t:TT):Prop:=
 ∀ (whole:Sem Value) (pins:List (Addr×Obj)) (s:Shared) (σ:St) (H:Hp) (Q:Bool->Hp->Prop),Inv X pins σ H s->t σ H Q->wpAny (model X.prog X.w) X.A (isTrue e X.env whole) (TP X pins σ Q) X.xe s
def PW.pt {X:Cx}{t:TT} (h:PW X e t):PT X e t:=h _
def PA (X:Cx) (es:List Expr) (t:TA):Prop:=
 ∀ (pos:Pos) (pins:List (Addr×Obj)) (s:Shared) (σ:St) (H:Hp) (Q:List V->Hp->Prop),Inv X pins σ H s->t σ H Q->wpAny (model X.prog X.w) X.A (spliced (backTo pos (starEach es X.env))) (AP X pins σ Q) X.xe s
def PS (X:Cx) (st:Stmt) (t:TS):Prop:=
 ∀ (pins:List (Addr×Obj)) (s:Shared) (σ:St) (H:Hp) (D:Ends),Inv X pins σ H s->t D σ H->wpAny (model X.prog X.w) X.A (exec st X.env) (SP X pins D) X.xe s
def PSs (X:Cx) (st:List Stmt) (t:TS):Prop:=
 ∀ (pins:List (Addr×Obj)) (s:Shared) (σ:St) (H:Hp) (D:Ends),Inv X pins σ H s->t D σ H->wpAny (model X.prog X.w) X.A (execs st X.env) (SP X pins D) X.xe s
def thn {t:Sem α}{Q Q':α->Shared->Prop} (h:wpAny M A t Q E s) (hQ:∀ a s,Q a s->Q' a s):wpAny M A t Q' E s:=wb h hQ fun _ _ x=>x
section
variable {X:Cx}
def JJ (i:Nat):TE:=fun σ H Q=>∃ v,σ[i]?=some (some v)/\Q v H
def tC (v:V):TE:=fun _ H Q=>Q v H
def jl1 (hN:X.N[i]?=some x) (hv:Vis X.env.scope x) (hd:(x==("__debug__":Str))=false:=by decide) (hcd:(x==("__classdict__":Str))=false:=by decide):PE X (.Name x pos) (JJ i):=by
 intro pins s σ H Q I h;obtain⟨v,e,h⟩:=h;obtain⟨m,hn,hl⟩:=I.loc;obtain⟨u,r,l⟩:=hl i x v hN e hv;have fin:EP X pins σ Q u s:=⟨v,H,I,r,h⟩;rcases l with⟨hk,hm⟩ | ⟨hk,c,hc,hcell⟩
 ·exact wpAny_Name (wpAny_loadName_local I.ok.kind hk hn hm fin) hd
 ·rcases hk with hk | hk
  ·exact wpAny_Name (wpAny_loadName_cell I.ok.kind hk hc hcell fin) hd
  ·exact wpAny_Name (wpAny_loadName_free I.ok.kind hk hc hcell fin hcd) hd
def jo {i j pos}:PE X (.Constant (.int i) j pos) (tC (.int i)):=fun _ _ _ H _ I h=>wpAny_Constant_int ⟨.int i,H,I.tok _,⟨_,rfl⟩,h⟩
def Uj {b j pos}:PE X (.Constant (.bool b) j pos) (tC (.bl b)):=fun _ _ _ H _ I h=>Constant_bool ⟨.bl b,H,I,rfl,h⟩
def kr {x j pos}:PE X (.Constant (.str x) j pos) (tC (.str x)):=fun _ _ _ H _ I h=>Calls.Constant_str ⟨.str x,H,I.tok _,⟨_,rfl⟩,h⟩
def Gl (X:Cx) (x:Str):Prop:=X.env.kindOf x=some .globalImplicit
def UQ {σ:St}{H:Hp} (I:Inv X pins σ H s) (hg:Gl X x) (hm:X.mg x=some u) (h:Q u s)
  (hd:(x==("__debug__":Str))=false:=by decide):wpAny (model X.prog X.w) X.A (eval (.Name x pos) X.env) Q E s:=
 Calls.Name_function_global I.ok.kind hg (Calls.loadGlobal_global (by rw[I.ok.glob]; exact I.mod.glob.keeps I.bk) hm h) hd
def JM {σ:St}{H:Hp} (I:Inv X pins σ H s) (hg:Gl X x) (hm:X.mg x=none) (hv:bootBuiltins x=some u) (h:Q u s)
  (hn:x≠"__name__":=by decide) (hd:(x==("__debug__":Str))=false:=by decide):wpAny (model X.prog X.w) X.A (eval (.Name x pos) X.env) Q E s:=by
 obtain⟨mb,h1,h2⟩:=I.mod.blt;exact Calls.Name_function_global I.ok.kind hg (Calls.loadGlobal_builtin (by rw[I.ok.glob]; exact I.mod.glob.keeps I.bk) hm (by rw[I.ok.blt]; exact h1.keeps I.bk) ((h2 x hn).trans hv) h) hd
def UR {v:V} (hg:Gl X x) (hm:X.mg x=some u) (r:RelV v u) (hd:(x==("__debug__":Str))=false:=by decide):PE X (.Name x pos) (tC v):=
 fun _ _ _ H _ I h=>UQ I hg hm ⟨v,H,I,r,h⟩ hd
variable {a b:Expr}{ta tb:TE} 
def PC (X:Cx) (op:CmpOp) (a b:Expr) (t:TE):Prop:=
 ∀ (pins:List (Addr×Obj)) (s:Shared) (σ:St) (H:Hp) (Q:VK),Inv X pins σ H s->t σ H Q ->
  wpAny (model X.prog X.w) X.A (eval a X.env) (fun v s₁=>wpAny (model X.prog X.w) X.A (eval b X.env) (fun u s₂=>wpAny (model X.prog X.w) X.A (compareOp op v u) (EP X pins σ Q) X.xe s₂) X.xe s₁) X.xe s
def jhR (b:Expr) {op:CmpOp} (h:op≠.In) (h2:op≠.NotIn):behindInMarks op b=false:=by
 have e1:(op==CmpOp.In)=false:=by cases op <;> first | rfl | exact absurd rfl h
 have e2:(op==CmpOp.NotIn)=false:=by cases op <;> first | rfl | exact absurd rfl h2
 cases b <;> simp[behindInMarks,e1,e2]
def tB (t:TE):TT:=fun σ H Q=>t σ H fun x H1=>∃ c,x=.bl c/\Q c H1
def jdm {op:CmpOp}{t:TE} (h:PC X op a b t) (h1:behindInMarks op b=false:=by first | exact jhR _ (by decide) (by decide) | rfl):PT X (.Compare a [op] [b] pos) (tB t):=by
 intro pins s σ H Q I hw;refine wpAny_isTrue_Compare1 (thn (h pins s σ H _ I hw) fun v s1 h1=>thn h1 fun u s2 h2=>thn h2 fun c s3 ⟨x,H1,I1,r1,q1⟩=>?_) h1;obtain⟨d,rfl,q⟩:=q1;cases r1;exact XM ⟨H1,I1,q⟩
def GR {t:TE} (h:PE X e t) (he:∀ whole,isTrue e X.env whole=(do let v <- whole; standAt e.pos; holding [v] (truthy v)):=by intro _; rfl):PT X e (tB t):=by
 intro pins s σ H Q I hw;refine isTrue_plain (thn (h pins s σ H _ I hw) fun v s1 ⟨x,H1,I1,r1,q1⟩=>?_) (he _);obtain⟨d,rfl,q⟩:=q1;cases r1;exact XM ⟨H1,I1,q⟩
variable {tA tB':TT}{rest:List Expr}
def jlG (t u:TT):TT:=fun σ H Q=>t σ H fun c H1=>if c=true then u σ H1 Q else Q false H1
def tOr (t u:TT):TT:=fun σ H Q=>t σ H fun c H1=>if c=true then Q true H1 else u σ H1 Q
def jlH (t:TT):TT:=fun σ H Q=>t σ H fun c H1=>Q (!c) H1
def YQ (ha:PT X a tA):PW X (.BoolOp .And [a] pos) tA:=by
 intro wh pins s σ H Q I h;refine isTrue_and (thn (ha pins s σ H Q I h) fun c s1 e=>?_);cases c with
 | true=>exact isTrue_and_nil e
 | false=>exact e
def Vm (ha:PT X a tA):PW X (.BoolOp .Or [a] pos) tA:=by
 intro wh pins s σ H Q I h;refine isTrue_or (thn (ha pins s σ H Q I h) fun c s1 e=>?_);cases c with
 | false=>exact isTrue_or_nil e
 | true=>exact e
def jdn (ha:PT X a tA) (hb:PW X (.BoolOp .And (b::rest) pos) tB'):PW X (.BoolOp .And (a::b::rest) pos) (jlG tA tB'):=by
 intro wh pins s σ H Q I h;refine isTrue_and (thn (ha pins s σ H _ I h) fun c s1 ⟨H1,I1,q1⟩=>?_);cases c with
 | true=>exact hb wh pins s1 σ H1 Q I1 q1
 | false=>exact ⟨H1,I1,q1⟩
def WW (ha:PT X a tA) (hb:PW X (.BoolOp .Or (b::rest) pos) tB'):PW X (.BoolOp .Or (a::b::rest) pos) (tOr tA tB'):=by
 intro wh pins s σ H Q I h;refine isTrue_or (thn (ha pins s σ H _ I h) fun c s1 ⟨H1,I1,q1⟩=>?_);cases c with
 | true=>exact ⟨H1,I1,q1⟩
 | false=>exact hb wh pins s1 σ H1 Q I1 q1
def JC (ha:PT X a tA):PT X (.UnaryOp .Not a pos) (jlH tA):=by
 intro pins s σ H Q I h;exact isTrue_not (ha pins s σ H (fun c H1=>Q (!c) H1) I h)
def jbV (ta tb:TE):TE:=fun σ H Q=>ta σ H fun x H1=>∃ c,x=.bl c/\if c=true then tb σ H1 Q else Q (.bl false) H1
def jke (ta:TE):TE:=fun σ H Q=>ta σ H fun x H1=>∃ c,x=.bl c/\Q (.bl (!c)) H1
def jdo {op}{t:TE} (h:PE X a t):PE X (.BoolOp op [a] pos) t:=fun pins s σ H Q I hw=>BoolOp_one (h pins s σ H Q I hw)
def jdp (ha:PE X a ta) (hb:PE X (.BoolOp .And (b::rest) pos) tb):PE X (.BoolOp .And (a::b::rest) pos) (jbV ta tb):=by
 intro pins s σ H Q I h;refine BoolOp_and (thn (ha pins s σ H _ I h) fun v s1 ⟨x,H1,I1,r1,q1⟩=>?_);obtain⟨c,rfl,q1⟩:=q1;cases r1;refine XM ?_;cases c with
 | true=>exact hb pins s1 σ H1 Q I1 q1
 | false=>exact ⟨.bl false,H1,I1,rfl,q1⟩
def jjn (ha:PE X a ta):PE X (.UnaryOp .Not a pos) (jke ta):=by
 intro pins s σ H Q I h;refine UnaryOp_ (thn (ha pins s σ H _ I h) fun v s1 ⟨x,H1,I1,r1,q1⟩=>?_);obtain⟨c,rfl,q1⟩:=q1;cases r1;exact not_of (XM ⟨.bl (!c),H1,I1,rfl,q1⟩)
def tIf (t:TT) (ta tb:TE):TE:=fun σ H Q=>t σ H fun c H1=>if c=true then ta σ H1 Q else tb σ H1 Q
def Uk {c:Expr} (hc:PT X c tA) (ha:PE X a ta) (hb:PE X b tb):PE X (.IfExp c a b pos) (tIf tA ta tb):=by
 intro pins s σ H Q I h;refine wpAny_IfExp (thn (hc pins s σ H _ I h) fun d s1 ⟨H1,I1,q1⟩=>?_);cases d with
 | true=>exact ha pins s1 σ H1 Q I1 q1
 | false=>exact hb pins s1 σ H1 Q I1 q1
end
def SqL (K:W.Frag) (H:Hp) (a:Addr) (xs:List V):Prop:=
 Rd H a (.lst xs) \/
  ∃ (o:Obj) (its:Array Value) (n:Nat),K.lookup a=some o/\o.cls=.type "list"/\o.dict=none/\o.data=.seq its n/\its.size<=sizeLine/\Vals xs its.toList
def SqT (K:W.Frag) (H:Hp) (a:Addr) (xs:List V):Prop:=
 Rd H a (.tup xs) \/
  ∃ (o:Obj) (its:Array Value) (n:Nat),K.lookup a=some o/\o.cls=.type "tuple"/\o.data=.seq its n/\its.size<=sizeLine/\Vals xs its.toList
def joE:Value->Option V
 | .none=>some .non
 | .bool b=>some (.bl b)
 | .int i _=>some (.int i)
 | .str x _=>some (.str x)
 | .bytes b _=>some (.byt b)
 | .float b _=>some (.flt b)
 | .ref a=>some (.ref a)
 | .type n=>some (.ty n)
 | _=>none
def RelV.abs {x:V} (r:RelV x u):joE u=some x:=by
 cases x with
 | non=>cases r; rfl
 | bl _=>cases r; rfl
 | int _=>obtain⟨t,rfl⟩:=r; rfl
 | str _=>obtain⟨t,rfl⟩:=r; rfl
 | byt _=>obtain⟨t,rfl⟩:=r; rfl
 | flt _=>obtain⟨t,rfl⟩:=r; rfl
 | ref _=>cases r; rfl
 | ty _=>cases r; rfl
def RelV.inj {x y:V} (r:RelV x u) (q:RelV y u):x=y:=Option.some.inj (r.abs.symm.trans q.abs)
def Vals.inj:∀ {xs ys:List V}{us:List Value},Vals xs us->Vals ys us->xs=ys
 | _,_,_,.nil,.nil=>rfl
 | _,_,_,.cons r t,.cons r' t'=>by rw[r.inj r',Vals.inj t t']
section
variable {X:Cx}{σ:St}{H:Hp}{xs ys:List V}
def SqL.of (h:H a=some (.lst xs)):SqL K H a xs:=.inl (.inl h)
def SqT.of (h:H a=some (.tup xs)):SqT K H a xs:=.inl (.inl h)
def Inv.list (I:Inv X pins σ H s) (h:SqL X.K H a xs):∃ its:List Value,Vals xs its/\PlainL s.heap a its.toArray/\xs.length<=sizeLine:=by
 rcases h with h | ⟨o,its,n,hk,hc,hd,hs,hz,r⟩
 ·obtain⟨z,its,n,r,e⟩:=h.ok I.hok;exact⟨its,r,⟨_,n,e,rfl,rfl,rfl⟩,z⟩
 ·refine⟨its.toList,r,⟨o,n,I.kIn a o hk,hc,hd,by simpa using hs⟩,?_⟩;have e:=r.length;simp only[Xt] at e;omega
def Inv.tuple (I:Inv X pins σ H s) (h:SqT X.K H a xs):∃ its:List Value,Vals xs its/\IsTup s.heap a its.toArray/\xs.length<=sizeLine:=by
 rcases h with h | ⟨o,its,n,hk,hc,hs,hz,r⟩
 ·obtain⟨z,its,r,p⟩:=h.ok I.hok;exact⟨its,r,p.isTup,z⟩
 ·refine⟨its.toList,r,⟨o,I.kIn a o hk,hc,n,by simpa using hs⟩,?_⟩;have e:=r.length;simp only[Xt] at e;omega
def Inv.list_inj (I:Inv X pins σ H s) (h:SqL X.K H a xs) (h':SqL X.K H a ys):xs=ys:=by
 obtain⟨its,r,⟨o,n,e,_,_,d⟩,_⟩:=I.list h;obtain⟨its',r',⟨o',n',e',_,_,d'⟩,_⟩:=I.list h';rw[e] at e'; cases e';rw[d] at d';injection d' with d1 _
 have:its=its':=by simpa using congrArg Array.toList d1
 subst this;exact r.inj r'
def Inv.tuple_inj (I:Inv X pins σ H s) (h:SqT X.K H a xs) (h':SqT X.K H a ys):xs=ys:=by
 obtain⟨its,r,⟨o,e,_,n,d⟩,_⟩:=I.tuple h;obtain⟨its',r',⟨o',e',_,n',d'⟩,_⟩:=I.tuple h';rw[e] at e'; cases e';rw[d] at d';injection d' with d1 _
 have:its=its':=by simpa using congrArg Array.toList d1
 subst this;exact r.inj r'
end
abbrev Cx.wish (X:Cx) (E:Value->Shared->Prop):Cx:={ X with xe:=E }
abbrev Cx.nox (X:Cx):Cx:=X.wish fun _ _=>False
def Cx.Ok.wish {X:Cx} (ok:X.Ok) (E:Value->Shared->Prop):(X.wish E).Ok:=
 ⟨ok.mod,ok.kind,ok.glob,ok.blt,ok.above,ok.inj,ok.has,ok.cab,ok.hd,ok.frames,ok.stk,ok.exf,ok.bs,ok.bsz,ok.noex,ok.exfs,ok.funs,ok.frf⟩
def Cx.Ok.unwish {X:Cx} (ok:(X.wish E).Ok):X.Ok:=
 ⟨ok.mod,ok.kind,ok.glob,ok.blt,ok.above,ok.inj,ok.has,ok.cab,ok.hd,ok.frames,ok.stk,ok.exf,ok.bs,ok.bsz,ok.noex,ok.exfs,ok.funs,ok.frf⟩
section
variable {X:Cx}{σ:St}{H:Hp} 
def Inv.wish (I:Inv X pins σ H s) (E:Value->Shared->Prop):Inv (X.wish E) pins σ H s:=⟨I.ok.wish E,I.os,I.bare,I.base,I.loc,I.cell,I.free,I.freeC,I.pin,I.hok,I.len⟩
def Inv.unwish (I:Inv (X.wish E) pins σ H s):Inv X pins σ H s:=⟨I.ok.unwish,I.os,I.bare,I.base,I.loc,I.cell,I.free,I.freeC,I.pin,I.hok,I.len⟩
def SP.unwish {D:Ends}{f:Flow} (h:SP (X.wish E) pins D f s'):SP X pins D f s':=by
 cases f with
 | next=>obtain⟨σ',H',I,q⟩:=h; exact ⟨σ',H',I.unwish,q⟩
 | brk=>obtain⟨σ',H',I,q⟩:=h; exact ⟨σ',H',I.unwish,q⟩
 | cont=>obtain⟨σ',H',I,q⟩:=h; exact ⟨σ',H',I.unwish,q⟩
 | ret u=>obtain⟨v,σ',H',I,r,q⟩:=h; exact ⟨v,σ',H',I.unwish,r,q⟩
def PSs.nox {st:List Stmt}{t:TS} (h:PSs X.nox st t):PSs X st t:=fun pins s σ H D I hw=>
 wb (h pins s σ H D (I.wish _) hw) (fun _ _ q=>q.unwish) fun _ _ z=>False.elim z
end
section
variable {X:Cx}{rest:List Stmt}{t u:TS}{te:TE} 
def jl2:TS:=fun D σ H=>D.nx σ H
def Ul (t u:TS):TS:=fun D σ H=>t { D with nx:=u D } σ H
def ka:PSs X [] jl2:=fun _ _ σ H _ I h=>wpAny_execs_nil ⟨σ,H,I,h⟩
def jd (h1:PS X st t) (h2:PSs X rest u):PSs X (st::rest) (Ul t u):=by
 intro pins s σ H D I h;refine wpAny_execs_cons (thn (h1 pins s σ H { D with nx:=u D } I h) fun f s1 q=>?_)
 cases f with
 | next=>
  obtain⟨σ',H',I',q⟩:=q;exact h2 pins s1 σ' H' D I' q
 | ret v=>exact q
 | brk=>exact q
 | cont=>exact q
def jg (h1:PS X st t):PSs X [st] t:=by
 intro pins s σ H D I h;refine wpAny_execs_cons (thn (h1 pins s σ H D I h) fun f s1 q=>?_);cases f with
 | next=>exact wpAny_execs_nil q
 | ret v=>exact q
 | brk=>exact q
 | cont=>exact q
def jnB:TS:=fun D σ H=>D.ct σ H
def Inv.quiet {σ:St}{H:Hp} (I:Inv X pins σ H s):interactive X.env=false:=by simp[interactive,I.ok.kind]
def WX (te:TE):TS:=fun D σ H=>te σ H fun _ H1=>D.nx σ H1
def qh (he:PE X e te) (hs:swapsWith e none pos.line X.env=pure false:=by rfl):PS X (.Expr e pos) (WX te):=by
 intro pins s σ H D I h;exact wpAny_Expr_any (thn (he pins s σ H _ I h) fun v s1 ⟨x,H1,I1,r1,q1⟩=>⟨σ,H1,I1,q1⟩) I.quiet hs
def jlI (te:TE):TS:=fun D σ H=>te σ H D.rt
def jv (he:PE X e te):PS X (.Return (some e) pos) (jlI te):=by
 intro pins s σ H D I h;exact wpAny_Return_some (thn (he pins s σ H _ I h) fun v s1 ⟨x,H1,I1,r1,q1⟩=>⟨x,σ,H1,I1,r1,q1⟩)
def jhS (c:TT) (t u:TS):TS:=fun D σ H=>c σ H fun b H1=>if b=true then t D σ H1 else u D σ H1
def xB {c:Expr}{a b:List Stmt}{tc:TT} (hc:PT X c tc) (ha:PSs X a t) (hb:PSs X b u):PS X (.If c a b pos) (jhS tc t u):=by
 intro pins s σ H D I h;refine wpAny_If (thn (hc pins s σ H _ I h) fun d s1 ⟨H1,I1,q1⟩=>?_);cases d with
 | true=>exact ha pins s1 σ H1 D I1 q1
 | false=>exact hb pins s1 σ H1 D I1 q1
def jjo:TS:=fun _ _ _=>False
def qL:PS X st jjo:=fun _ _ _ _ _ _ h=>h.elim
def jfs {sts:List Stmt}:PSs X sts jjo:=fun _ _ _ _ _ _ h=>h.elim
end
abbrev TG:=V->St->Hp->(St->Hp->Prop)->Prop
abbrev TGs:=List V->St->Hp->(St->Hp->Prop)->Prop
def PG (X:Cx) (target:Expr) (t:TG):Prop:=
 ∀ (pins:List (Addr×Obj)) (s:Shared) (σ:St) (H:Hp) (v:V) (u:Value) (Q:St->Hp->Prop),Inv X pins σ H s->RelV v u->t v σ H Q ->
  wpAny (model X.prog X.w) X.A (assign target X.env u) (fun _ s'=>∃ σ' H',Inv X pins σ' H' s'/\Q σ' H') X.xe s
def PGs (X:Cx) (ts:List Expr) (t:TGs):Prop:=
 ∀ (pins:List (Addr×Obj)) (s:Shared) (σ:St) (H:Hp) (vs:List V) (us:List Value) (Q:St->Hp->Prop),Inv X pins σ H s->Vals vs us->t vs σ H Q ->
  wpAny (model X.prog X.w) X.A (assignInOrder ((assignEach ts X.env).map (·.2)) us) (fun _ s'=>∃ σ' H',Inv X pins σ' H' s'/\Q σ' H') X.xe s
abbrev jnC:=V->V->V->Hp->(Hp->Prop)->Prop
def joi (X:Cx) (t:jnC):Prop:=
 ∀ (pins:List (Addr×Obj)) (s:Shared) (σ:St) (H:Hp) (o i v:V) (ov iv u:Value) (Q:Hp->Prop),Inv X pins σ H s->RelV o ov->RelV i iv->RelV v u->t o i v H Q ->
  wpAny (model X.prog X.w) X.A (setItem ov iv u) (fun _ s'=>∃ H',Inv X pins σ H' s'/\Q H') X.xe s
section
variable {X:Cx} 
def ql (i:Nat):TG:=fun v σ H Q=>Q (σ.set i (some v)) H
def kA (hN:X.N.Nodup) (hi:X.N[i]?=some x) (hx:Loc X.env.scope x) (hf:X.fn x=true \/ X.env.scope.names.lookup x=some .local:=by first | exact .inl rfl | exact .inr rfl | assumption):PG X (.Name x pos) (ql i):=by
 intro pins s σ H v u Q I r h;exact wpAny_assign_Name (YO I hN hi hx r (fun s' I'=>⟨_,H,I',h⟩) hf)
def jhJ:TGs:=fun vs σ H Q=>vs=[]/\Q σ H
def Jc (t:TG) (u:TGs):TGs:=fun vs σ H Q=>∃ v r,vs=v::r/\t v σ H fun σ' H'=>u r σ' H' Q
def GD:PGs X [] jhJ:=by
 intro pins s σ H vs us Q I r h;obtain⟨e,h⟩:=h;subst e;cases r;exact assignInOrder_nil ⟨σ,H,I,h⟩
def qd {t:TG}{u:TGs} (h1:PG X e t) (h2:PGs X es u)
  (hs:(assignEach (e::es) X.env).map (·.2)=assign e X.env::(assignEach es X.env).map (·.2):=by rfl):PGs X (e::es) (Jc t u):=by
 intro pins s σ H vs us Q I r h;obtain⟨v,vr,e1,h⟩:=h;subst e1;cases r with
 | cons r rr=>
  rw[hs];refine assignInOrder_cons (thn (h1 pins s σ H _ _ _ I r h) fun _ s1 ⟨σ1,H1,I1,q1⟩=>?_);exact h2 pins s1 σ1 H1 _ _ Q I1 rr q1
def jhK (K:W.Frag) (n:Nat) (t:TGs):TG:=fun v σ H Q=>∃ a xs,v=.ref a/\SqT K H a xs/\xs.length=n/\t xs σ H Q
def QO {k:Nat}{t:TGs} (hc:X.calm=true) (h:PGs X es t)
  (hn:(assignEach es X.env).length=n:=by rfl) (hst:(assignEach es X.env).findIdx? (·.1)=none:=by rfl):PG X (.Tuple es k pos) (jhK X.K n t):=by
 intro pins s σ H v u Q I r hw;obtain⟨a,xs,e1,hq,hl,hw⟩:=hw;subst e1;cases r;obtain⟨its,rv,ht,hz⟩:=I.tuple hq;refine assign_Tuple_tuple (I.ok.hd hc) ht (by simp[hn,<- hl,rv.length]) hst fun h' hx=>?_;have I1:Inv X pins σ H { s with heap:=h' }:=I.kept (t':=s.toks) fun b o e=>hx b o (XO (Xl e)) e
 exact h pins _ σ H xs _ Q I1 (by simpa using rv) hw
def jns (to ti:TE) (t:jnC):TG:=fun v σ H Q=>to σ H fun o H1=>ti σ H1 fun i H2=>t o i v H2 fun H3=>Q σ H3
def jft {o i:Expr}{to ti:TE}{t:jnC} (ho:PE X o to) (hi:PE X i ti) (hs:joi X t)
  (ha:∀ v,assign (.Subscript o i pos) X.env v=(do
   let ov <- holding [v] (eval o X.env)
   let iv <- holding [v,ov] (eval i X.env)
   standAt pos
   holding [v,ov,iv] (setItem ov iv v)
   release [v,ov,iv] []):=by intro _; rfl):PG X (.Subscript o i pos) (jns to ti t):=by
 intro pins s σ H v u Q I r h;rw[ha];refine Xa (X8 (thn (ho pins s σ H _ I h) fun ov s1 ⟨x,H1,I1,r1,q1⟩=>?_));refine Xa (X8 (thn (hi pins s1 σ H1 _ I1 q1) fun iv s2 ⟨y,H2,I2,r2,q2⟩=>?_));refine Xa (wpAny_standAt (Xa (X8 (thn (hs pins s2 σ H2 x y v ov iv u _ I2 r1 r2 r q2) fun _ s3 ⟨H3,I3,q3⟩=>?_))));exact wpAny_release ⟨σ,H3,I3,q3⟩
def VQ (te:TE) (g:TG):TS:=fun D σ H=>te σ H fun x H1=>g x σ H1 D.nx
def Yk {te:TE}{g:TG} (he:PE X e te) (hg:PG X tg g) (hs:swapsWithSole [tg] e pos.line X.env=pure false:=by rfl) (hw:swappedStores [tg] e X.env=pure none:=by rfl)
  (h1:(assignEach [tg] X.env).map (·.2)=[assign tg X.env]:=by rfl):PS X (.Assign [tg] e pos) (VQ te g):=by
 intro pins s σ H D I h;refine wpAny_Assign_stores (thn (he pins s σ H _ I h) fun v s1 ⟨x,H1,I1,r1,q1⟩=>?_) hs hw;rw[h1];exact thn (hg pins s1 σ H1 x v _ I1 r1 q1) fun _ s2 q=>q
def jl3 {te:TE} (hN:X.N.Nodup) (hi:X.N[i]?=some x) (hx:Loc X.env.scope x) (he:PE X e te) (hs:swapsWith e (some (.Name x pos')) pos.line X.env=pure false:=by rfl) (hf:X.fn x=true \/ X.env.scope.names.lookup x=some .local:=by first | exact .inl rfl | exact .inr rfl | assumption) :
  PS X (.Assign [.Name x pos'] e pos) (VQ te (ql i)):=by
 intro pins s σ H D I h;refine wpAny_Assign_Name (thn (he pins s σ H _ I h) fun v s1 ⟨y,H1,I1,r1,q1⟩=>?_) hs;exact YO I1 hN hi hx r1 (fun s2 I2=>⟨_,H1,I2,q1⟩) hf
end
section
variable {X:Cx} 
def jfu (c:TT) (tb:TS):TS:=fun D σ H=>∃ W:Nat->St->Hp->Prop,(∃ m,W m σ H)/\∀ m σ H,W m σ H ->
 c σ H fun b H1=>if b=true then ∃ N:St->Hp->Prop,(∀ σ' H',N σ' H'->∃ m',m'<m/\W m' σ' H')/\tb { D with nx:=N,ct:=N,bk:=D.nx } σ H1 else D.nx σ H1
def Jd {c:Expr}{tc:TT}{tb:TS} (hp:PassesOwn (model X.prog X.w) X.A X.env X.xe) (hc:PT X c tc) (hb:PSs X body tb):PS X (.While c body [] pos) (jfu tc tb):=by
 intro pins s σ H D I h;obtain⟨W,⟨m0,w0⟩,turn⟩:=h;refine wpAny_While (codeAny_whileLoop (fun n s'=>∃ σ' H',Inv X pins σ' H' s'/\W n σ' H') ?_ m0 ⟨σ,H,I,w0⟩);rintro n s1 ⟨σ1,H1,I1,w1⟩;refine wpAny_passesOwn hp (thn (hc pins s1 σ1 H1 _ I1 (turn n σ1 H1 w1)) fun b s2 ⟨H2,I2,q2⟩=>?_);cases b with
 | true=>
  obtain⟨N,hN,q2⟩:=q2;rw[if_pos rfl];refine wpAny_passesOwn hp (thn (hb pins s2 σ1 H2 _ I2 q2) fun f s3 q3=>?_);cases f with
  | next=>
   obtain⟨σ3,H3,I3,n3⟩:=q3;obtain⟨m',hm,w3⟩:=hN σ3 H3 n3;exact⟨m',hm,σ3,H3,I3,w3⟩
  | cont=>
   obtain⟨σ3,H3,I3,n3⟩:=q3;obtain⟨m',hm,w3⟩:=hN σ3 H3 n3;exact⟨m',hm,σ3,H3,I3,w3⟩
  | brk=>exact q3
  | ret v=>exact q3
 | false=>
  rw[if_neg Xh];exact wpAny_execs_nil ⟨σ1,H2,I2,q2⟩
end
structure It where
 go:Nat->Hp->Prop
 yld:Nat->Hp->V->Hp->Prop
 stop:Nat->Hp->Prop
def jfv (X:Cx) (pins:List (Addr×Obj)) (H:Hp) (b:Addr):Prop:=
 H b=none/\b≠X.env.locals/\b∉X.fs/\(b∈X.ex \/ X.s₀.heap.objs.size<=b)/\(∀ x c,X.env.cells.lookup x=some c->c≠b)/\∀ p∈X.pn++pins,p.1≠b
def Inv.fpOk {X:Cx}{σ:St}{H H':Hp}{b:Addr} (I:Inv X pins σ H s) (hb:s.heap.objs.size<=b) (hn:H' b=none):jfv X pins H' b:=by
 refine⟨hn,Nat.ne_of_gt (Xr I.lt hb),I.nofs hb,.inr (XV I.sz hb),fun x c e z=>?_,fun p hp z=>?_⟩
 ·obtain⟨v,q⟩:=I.cell x c e;exact absurd (Xr q.lt (by rw[z]; exact hb)) (XU _)
 ·exact absurd (Xr (Xl (I.pin p hp).1) (by rw[z]; exact hb)) (XU _)
structure Turn (P:Program) (w:World) (K:W.Frag) (tg:Expr) (J:It) (fp:List Addr) (it:Addr) (tn:Nat->Heap->Prop) (ok:Cx->Prop:=fun X=>X.calm=true):Prop where
 mem:it∈fp
 obj:∀ i h,tn i h->∀ b∈fp,∃ o,h.get? b=some o/\∀ v,o.data≠.cell v
 keep:∀ i h h',tn i h->(∀ b∈fp,∀ o,h.get? b=some o->h'.get? b=some o)->tn i h'
 item:∀ (X:Cx),X.prog=P->X.w=w->X.K=K->ok X->∀ (i:Nat) (pins:List (Addr×Obj)) (s:Shared) (σ:St) (H:Hp) (E:Value->Shared->Prop),Inv X pins σ H s->(∀ b∈fp,jfv X pins H b)->tn i s.heap->J.go i H ->
  wpAny (model P w) X.A (pyNext (.ref it)) (fun r s1=>∃ u,r=some u /\
   wpAny (model P w) X.A (letOwnedTupleGo tg (.ref it) u) (fun _ s2=>∃ x H',Inv X pins σ H' s2/\RelV x u/\J.yld i H x H'/\tn (i+1) s2.heap/\∀ b∈fp,H' b=none) E s1) E s
 done:∀ (X:Cx),X.prog=P->X.w=w->X.K=K->ok X->∀ (i:Nat) (pins:List (Addr×Obj)) (s:Shared) (σ:St) (H:Hp) (E:Value->Shared->Prop),Inv X pins σ H s->(∀ b∈fp,jfv X pins H b)->tn i s.heap->J.stop i H ->
  wpAny (model P w) X.A (pyNext (.ref it)) (fun r s1=>r=none/\Inv X pins σ H s1) E s
 self:∀ (A:Around) (i:Nat) (s:Shared) (Q:Value->Shared->Prop) (E:Value->Shared->Prop),tn i s.heap->Q (.ref it) s->wpAny (model P w) A (pyIter (.ref it)) Q E s
abbrev TI:=St->Hp->(It->Hp->Prop)->Prop
def PIE (X:Cx) (pins:List (Addr×Obj)) (σ:St) (tg:Expr) (R:It->Hp->Prop) (itv:Value) (s2:Shared):Prop:=
 ∃ (it:Addr) (fp:List Addr) (tn:Nat->Heap->Prop) (J:It) (H':Hp),itv=.ref it/\Inv X pins σ H' s2/\Turn X.prog X.w X.K tg J fp it tn/\tn 0 s2.heap/\(∀ b∈fp,jfv X pins H' b)/\R J H'
def PI (X:Cx) (tg iter:Expr) (wi:TI):Prop:=
 ∀ (pins:List (Addr×Obj)) (s:Shared) (σ:St) (H:Hp) (R:It->Hp->Prop),Inv X pins σ H s->wi σ H R ->
  wpAny (model X.prog X.w) X.A (eval iter X.env) (fun v s1=>wpAny (model X.prog X.w) X.A (pyIter v) (PIE X pins σ tg R) X.xe s1) X.xe s
def jaD {n:String}{vs:Array Value}{Q:Unit->Shared->Prop} (ho:s.heap.get? it=some o) (hc:o.cls=.type n) (hd:o.data=.fields vs)
    (hn:["enumerate","zip","dict_itemiterator","dict_reverseitemiterator","odict_iterator","itertools.zip_longest","itertools.pairwise"].contains n=false) (hQ:Q () s):wpAny M A (letOwnedTupleGo tg (.ref it) u) Q E s:=by
  unfold letOwnedTupleGo;cases tg <;> first
    | exact Xb hQ
    | (cases u <;> first
        | exact Xb hQ
        | (refine Xa (wpAny_load ho ?_)
           rw[hc,hd];show wpAny M A (if (["enumerate","zip","dict_itemiterator","dict_reverseitemiterator","odict_iterator","itertools.zip_longest","itertools.pairwise"].contains n&&vs[0]?==some (rawInt _))=true then _ else _) Q E s;rw[if_neg (by intro h; rw[hn,Bool.false_and] at h; cases h)];exact Xb hQ))
def Itl (K:W.Frag) (a:Addr):It:=
 ⟨fun i H=>∃ xs x,SqL K H a xs/\xs[i]?=some x,fun i H x H'=>H'=H/\∀ xs,SqL K H a xs->xs[i]?=some x,fun i H=>∃ xs,SqL K H a xs/\xs.length<=i⟩
def Itt (K:W.Frag) (a:Addr):It:=
 ⟨fun i H=>∃ xs x,SqT K H a xs/\xs[i]?=some x,fun i H x H'=>H'=H/\∀ xs,SqT K H a xs->xs[i]?=some x,fun i H=>∃ xs,SqT K H a xs/\xs.length<=i⟩
def Itr (lo:Int) (n:Nat):It:=⟨fun i _=>i<n,fun i H x H'=>H'=H/\x=.int (lo+i),fun i _=>n<=i⟩
def jfw (a it:Addr):Turn P w K tg (Itl K a) [it] it (fun i h=>h.IsListIter it a i) where
 mem:=by simp
 obj:=fun i h st b hb=>by
  have e:b=it:=by simpa using hb
  subst e;obtain⟨o,e,c,d⟩:=st;exact⟨o,e,fun v z=>by rw[d] at z; cases z⟩
 keep:=fun i h h' st k=>st.at fun o e=>k it (by simp) o e
 item:=by
  intro X hP hw hK hc i pins s σ H E I hf st hg;subst hP hw hK;obtain⟨xs,x,hq,hx⟩:=hg;obtain⟨its,rv,p,hz⟩:=I.list hq;obtain⟨u,hu,ru⟩:=rv.get hx;obtain⟨f0,f1,f2,f3,f4,f5⟩:=hf it (by simp);refine wpAny_pyNext_list_item st p.isList (x:=u) (by simpa using hu) fun h' st' sb=>?_;have I1:Inv X pins σ H { s with heap:=h' }:=I.turned (t':=s.toks) (fun b o hb e=>(sb.2 b hb).trans e) f0 f1 f3 f4 f5
  obtain⟨o,e,c,d⟩:=id st';exact⟨u,rfl,jaD (s:={ s with heap:=h' }) e c d (by decide) ⟨x,H,I1,ru,⟨rfl,fun ys hy=>by rw[I.list_inj hy hq]; exact hx⟩,st',fun b hb=>(hf b hb).1⟩⟩
 done:=by
  intro X hP hw hK hc i pins s σ H E I hf st hg;subst hP hw hK;obtain⟨xs,hq,hx⟩:=hg;obtain⟨its,rv,p,hz⟩:=I.list hq;obtain⟨f0,f1,f2,f3,f4,f5⟩:=hf it (by simp);have hl:=rv.length;exact wpAny_pyNext_list_end (I.ok.hd hc) st p.isList (by simp; omega) fun h' eb=>⟨rfl,I.turned (t':=s.toks) (fun b o hb e=>eb b o hb e) f0 f1 f3 f4 f5⟩
 self:=fun _ _ _ _ _ st h=>wpAny_pyIter_listiter st h
def jem (a it:Addr):Turn P w K tg (Itt K a) [it] it (fun i h=>h.IsTupleIter it a i) where
 mem:=by simp
 obj:=fun i h st b hb=>by
  have e:b=it:=by simpa using hb
  subst e;obtain⟨o,e,c,d⟩:=st;exact⟨o,e,fun v z=>by rw[d] at z; cases z⟩
 keep:=fun i h h' st k=>st.at fun o e=>k it (by simp) o e
 item:=by
  intro X hP hw hK hc i pins s σ H E I hf st hg;subst hP hw hK;obtain⟨xs,x,hq,hx⟩:=hg;obtain⟨its,rv,p,hz⟩:=I.tuple hq;obtain⟨u,hu,ru⟩:=rv.get hx;obtain⟨f0,f1,f2,f3,f4,f5⟩:=hf it (by simp);refine wpAny_pyNext_tuple_item st (show s.heap.IsTuple a its.toArray from p) (x:=u) (by simpa using hu) fun h' st' sb=>?_;have I1:Inv X pins σ H { s with heap:=h' }:=I.turned (t':=s.toks) (fun b o hb e=>(sb.2 b hb).trans e) f0 f1 f3 f4 f5
  obtain⟨o,e,c,d⟩:=id st';exact⟨u,rfl,jaD (s:={ s with heap:=h' }) e c d (by decide) ⟨x,H,I1,ru,⟨rfl,fun ys hy=>by rw[I.tuple_inj hy hq]; exact hx⟩,st',fun b hb=>(hf b hb).1⟩⟩
 done:=by
  intro X hP hw hK hc i pins s σ H E I hf st hg;subst hP hw hK;obtain⟨xs,hq,hx⟩:=hg;obtain⟨its,rv,p,hz⟩:=I.tuple hq;obtain⟨f0,f1,f2,f3,f4,f5⟩:=hf it (by simp);have hl:=rv.length;exact wpAny_pyNext_tuple_end (I.ok.hd hc) st (show s.heap.IsTuple a its.toArray from p) (by simp; omega) fun h' eb=>⟨rfl,I.turned (t':=s.toks) (fun b o hb e=>eb b o hb e) f0 f1 f3 f4 f5⟩
 self:=fun _ _ _ _ _ st h=>wpAny_pyIter_tupleiter st h
def jen (it:Addr) (lo:Int) (n:Nat):Turn P w K tg (Itr lo n) [it] it (fun i h=>IsRangeIter h it (lo+(i:Nat) * 1) ((n:Int)-(i:Nat)) 1) where
 mem:=by simp
 obj:=fun i h st b hb=>by
  have e:b=it:=by simpa using hb
  subst e;exact⟨_,st,fun v z=>by
   have z':Data.fields _=Data.cell v:=z;cases z'⟩
 keep:=fun i h h' st k=>k it (by simp) _ st
 item:=by
  intro X hP hw hK hc i pins s σ H E I hf st hg;subst hP hw hK;obtain⟨f0,f1,f2,f3,f4,f5⟩:=hf it (by simp);have W:=Walks.range (prog:=X.prog) (w:=X.w) (I.ok.hd hc) it lo 1 n;refine W.item i s _ _ hg st fun v h' tk hv st' kk=>?_;obtain⟨t,rfl⟩:=hv;have I1:Inv X pins σ H { s with heap:=h',toks:=tk }:=I.turned (fun b o hb e=>kk b o (by simpa using hb) e) f0 f1 f3 f4 f5
  refine⟨_,rfl,jaD (s:={ s with heap:=h',toks:=tk }) (n:="range_iterator") st' rfl rfl (by decide) ⟨.int (lo+i),H,I1,⟨t,?_⟩,⟨rfl,rfl⟩,st',fun b hb=>(hf b hb).1⟩⟩
  rw[Int.mul_one]
 done:=by
  intro X hP hw hK hc i pins s σ H E I hf st hg;subst hP hw hK;obtain⟨f0,f1,f2,f3,f4,f5⟩:=hf it (by simp);exact wpAny_pyNext_range_end (I.ok.hd hc) st (by have:n<=i:=hg; omega) fun h' eb=>⟨rfl,I.turned (t':=s.toks) (fun b o hb e=>eb b o hb e) f0 f1 f3 f4 f5⟩
 self:=fun _ _ _ _ _ st h=>wpAny_pyIter_rangeiter st h
section
variable {X:Cx} 
def jhT (K:W.Frag) (tl:TE):TI:=fun σ H R=>tl σ H fun x H1=>∃ a,x=.ref a/\(∃ xs,SqL K H1 a xs)/\R (Itl K a) H1
def jnD (K:W.Frag) (tl:TE):TI:=fun σ H R=>tl σ H fun x H1=>∃ a,x=.ref a/\(∃ xs,SqT K H1 a xs)/\R (Itt K a) H1
def qF {l:Expr}{tl:TE} (hl:PE X l tl):PI X tg l (jhT X.K tl):=by
 intro pins s σ H R I h;refine thn (hl pins s σ H _ I h) fun v s1 ⟨x,H1,I1,r1,q1⟩=>?_;obtain⟨a,e,⟨xs,hq⟩,q⟩:=q1;subst e;cases r1;obtain⟨its,rv,p,hz⟩:=I1.list hq;refine wpAny_pyIter_list p.isList ?_;refine⟨s1.heap.objs.size,[s1.heap.objs.size],_,_,H1,rfl,I1.kept (t':=s1.toks) fun b o e=>Xd _ e,jfw a _,⟨_,Xi _ rfl,rfl,rfl⟩,fun b hb=>?_,q⟩;have e:b=s1.heap.objs.size:=by simpa using hb
 subst e;exact I1.fpOk (Xe _) (I1.hok.fresh (Xe _))
def jdq {l:Expr}{tl:TE} (hl:PE X l tl):PI X tg l (jnD X.K tl):=by
 intro pins s σ H R I h;refine thn (hl pins s σ H _ I h) fun v s1 ⟨x,H1,I1,r1,q1⟩=>?_;obtain⟨a,e,⟨xs,hq⟩,q⟩:=q1;subst e;cases r1;obtain⟨its,rv,p,hz⟩:=I1.tuple hq;refine wpAny_pyIter_tuple (show s1.heap.IsTuple a its.toArray from p) ?_;refine⟨s1.heap.objs.size,[s1.heap.objs.size],_,_,H1,rfl,I1.kept (t':=s1.toks) fun b o e=>Xd _ e,jem a _,⟨_,Xi _ rfl,rfl,rfl⟩,fun b hb=>?_,q⟩;have e:b=s1.heap.objs.size:=by simpa using hb
 subst e;exact I1.fpOk (Xe _) (I1.hok.fresh (Xe _))
def jdr {σ:St}{H:Hp}{R:It->Hp->Prop}{lo hi:Int}{t u v:Tok}{tk:Nat} (I:Inv X pins σ H s) (h1:-(2 ^ 62)<=lo) (h2:lo<2 ^ 62) (h3:-(2 ^ 62)<=hi) (h4:hi<2 ^ 62)
  (q:R (Itr lo (hi-lo).toNat) H):wpAny (model X.prog X.w) X.A (pyIter (.ref s.heap.objs.size)) (PIE X pins σ tg R) E { s with heap:=s.heap.push { cls:=.type "range",data:=.fields #[.int lo t,.int hi u,.int 1 v] },toks:=tk }:=by
 refine wpAny_pyIter_range (IsRange.new ..) (small_one h1 h2 h3 h4) ?_;have I1:Inv X pins σ H { s with heap:=s.heap.push { cls:=.type "range",data:=.fields #[.int lo t,.int hi u,.int 1 v] },toks:=tk }:=I.kept fun b o e=>Xd _ e
 refine⟨(s.heap.push { cls:=.type "range",data:=.fields #[.int lo t,.int hi u,.int 1 v] }).objs.size,[(s.heap.push { cls:=.type "range",data:=.fields #[.int lo t,.int hi u,.int 1 v] }).objs.size],_,_,H,rfl,
  I1.kept (t':=tk) fun b o e=>Xd _ e,jen _ lo (hi-lo).toNat,?_,fun b hb=>?_,q⟩
 ·have e1:lo+((0:Nat):Int) * 1=lo:=by simp
  have e2:(((hi-lo).toNat:Nat):Int)-((0:Nat):Int)=Builtin.Range.rangeSize lo hi 1:=by rw[rangeSize_one]; split <;> omega
  show IsRangeIter _ _ (lo+((0:Nat):Int) * 1) ((((hi-lo).toNat:Nat):Int)-((0:Nat):Int)) 1;rw[e1,e2];exact Xi _ rfl
 ·have e:b=(s.heap.push { cls:=.type "range",data:=.fields #[.int lo t,.int hi u,.int 1 v] }).objs.size:=by simpa using hb
  subst e;exact I1.fpOk (Xe _) (I1.hok.fresh (Xe _))
def YR (ta:TA):TI:=fun σ H R=>ta σ H fun vs H1=>∃ j:Int,vs=[.int j]/\-(2 ^ 62)<=j/\j<2 ^ 62/\R (Itr 0 j.toNat) H1
def jbW (ta:TA):TI:=fun σ H R=>ta σ H fun vs H1=>∃ i j:Int,vs=[.int i,.int j]/\(-(2 ^ 62)<=i/\i<2 ^ 62/\-(2 ^ 62)<=j/\j<2 ^ 62)/\R (Itr i (j-i).toNat) H1
def kI {a:Expr}{ta:TA}{p:Pos} (hg:Gl X "range") (hm:X.mg "range"=none) (ha:PA X [a] ta) (hs:starEach [a] X.env=[(false,eval a X.env)]:=by rfl):PI X tg (.Call (.Name "range" p) [a] [] pos) (YR ta):=by
 intro pins s σ H R I h;refine Call_ (JM I hg hm boot_range (XA (thn (ha pos pins s σ H _ I h) fun us s1 ⟨vs,H1,I1,r1,q1⟩=>?_) hs rfl));obtain⟨j,e,q1,q2,q⟩:=q1;subst e;cases r1 with
 | cons r rr=>
  cases rr;obtain⟨t,rfl⟩:=r;exact call_range_1 (jdr I1 (by omega) (by omega) q1 q2 (by simpa using q))
def jaE {a b:Expr}{ta:TA}{p:Pos} (hg:Gl X "range") (hm:X.mg "range"=none) (ha:PA X [a,b] ta) (hs:starEach [a,b] X.env=[(false,eval a X.env),(false,eval b X.env)]:=by rfl) (hs2:starEach [b] X.env=[(false,eval b X.env)]:=by rfl) :
  PI X tg (.Call (.Name "range" p) [a,b] [] pos) (jbW ta):=by
 intro pins s σ H R I h;refine Call_ (JM I hg hm boot_range (XA (thn (ha pos pins s σ H _ I h) fun us s1 ⟨vs,H1,I1,r1,q1⟩=>?_) (by rw[hs,hs2]) (by rw[hs2]; rfl)));obtain⟨i,j,e,⟨q1,q2,q3,q4⟩,q⟩:=q1;subst e;cases r1 with
 | cons r rr=>
  cases rr with
  | cons r' rr=>
   cases rr;obtain⟨t,rfl⟩:=r;obtain⟨t',rfl⟩:=r';exact call_range_2 (jdr I1 q1 q2 q3 q4 q)
def jjp (wi:TI) (g:TG) (tb:TS):TS:=fun D σ H=>wi σ H fun J H1=>∃ W:Nat->Nat->St->Hp->Prop,(∃ m,W 0 m σ H1)/\∀ i m σ H,W i m σ H ->
 (J.stop i H/\D.nx σ H) \/ (J.go i H/\∃ N:St->Hp->Prop,(∀ σ' H',N σ' H'->∃ m',m'<m/\W (i+1) m' σ' H')/\∀ x H',J.yld i H x H'->g x σ H' fun σ2 H2=>tb { D with nx:=N,ct:=N,bk:=D.nx } σ2 H2)
def jaF (fp:List Addr) (h:Heap):List (Addr×Obj):=fp.filterMap fun b=>(h.get? b).map fun o=>(b,o)
def Qr {b:Addr} (hb:b∈fp) (e:h.get? b=some o):(b,o)∈jaF fp h:=List.mem_filterMap.mpr ⟨b,hb,by rw[e]; rfl⟩
def jfx {p:Addr×Obj} (hp:p∈jaF fp h):p.1∈fp/\h.get? p.1=some p.2:=by
 obtain⟨b,hb,e⟩:=List.mem_filterMap.mp hp;cases q:h.get? b with
 | none=>rw[q] at e; cases e
 | some o=>
  rw[q] at e;have e':(b,o)=p:=Option.some.inj e;subst e';exact⟨hb,q⟩
def Inv.pinned {σ:St}{H:Hp} (I:Inv X pins σ H s) (hf:∀ b∈fp,jfv X pins H b) (ho:∀ b∈fp,∃ o,s.heap.get? b=some o/\∀ v,o.data≠.cell v):Inv X (pins++jaF fp s.heap) σ H s:=
 I.pins_of fun p hp=>(List.mem_append.mp hp).elim (fun z=>I.pin p (XL _ z)) fun z=>by
  obtain⟨hb,e⟩:=jfx z;obtain⟨f0,f1,f2,_⟩:=hf p.1 hb;obtain⟨o,e',d⟩:=ho p.1 hb;rw[e] at e'; cases e';exact⟨e,f0,f1,f2,d⟩
def Inv.unpinned {pl:List (Addr×Obj)}{σ:St}{H:Hp} (I:Inv X (pins++pl) σ H s):Inv X pins σ H s:=I.pins_of fun p hp=>I.pin p (XL _ (List.mem_append_left _ hp))
def xG {wi:TI}{g:TG}{tb:TS} (hp:PassesOwn (model X.prog X.w) X.A X.env X.xe) (hc:X.calm=true) (hi:PI X tg iter wi) (hg:PG X tg g) (hb:PSs X body tb)
  (hs:∀ x,foldedSetIterable iter X.env x=pure x:=by intro _; rfl):PS X (.For tg iter body [] pos) (jjp wi g tb):=by
 intro pins s σ H D I h;refine wpAny_For (thn (hi pins s σ H _ I h) fun v s1 h1=>thn h1 fun itv s2 h2=>?_) hs;obtain⟨it,fp,tn,J,H2,e,I2,T,st2,f2,W,⟨m0,w0⟩,turn⟩:=h2;subst e;have stat:∀ {H':Hp},(∀ b∈fp,H' b=none)->∀ b∈fp,jfv X pins H' b:=fun hn b hb=>⟨hn b hb,(f2 b hb).2⟩;refine codeAny_forLoop_any (fun n s'=>∃ i σ' H',Inv X pins σ' H' s'/\tn i s'.heap/\(∀ b∈fp,H' b=none)/\W i n σ' H') ?_ m0 ⟨0,σ,H2,I2,st2,fun b hb=>(f2 b hb).1,w0⟩;rintro n s3 ⟨i,σ3,H3,I3,st3,fr3,w3⟩;rcases turn i n σ3 H3 w3 with⟨stop,qn⟩ | ⟨go,N,hN,step⟩
 ·refine wpAny_passesOwn hp (thn (T.done X rfl rfl rfl hc i pins s3 σ3 H3 X.xe I3 (stat fr3) st3 stop) fun r s4 ⟨hr,I4⟩=>?_);subst hr;exact wpAny_execs_nil ⟨σ3,H3,I4,qn⟩
 ·refine wpAny_passesOwn hp (thn (T.item X rfl rfl rfl hc i pins s3 σ3 H3 X.xe I3 (stat fr3) st3 go) fun r s4 ⟨u,hr,h4⟩=>?_);subst hr;refine wpAny_passesOwn hp (thn h4 fun _ s5 ⟨x,H5,I5,r5,y5,st5,fr5⟩=>?_);have I5':=I5.pinned (stat fr5) (T.obj _ _ st5);refine wpAny_passesOwn hp (thn (hg _ s5 σ3 H5 x u _ I5' r5 (step x H5 y5)) fun _ s6 ⟨σ6,H6,I6,q6⟩=>?_);refine wpAny_passesOwn hp (thn (hb _ s6 σ6 H6 _ I6 q6) fun f s7 q7=>?_);have again:∀ {σ7:St}{H7:Hp},Inv X (pins++jaF fp s5.heap) σ7 H7 s7->N σ7 H7->∃ m,m<n/\∃ i σ' H',Inv X pins σ' H' s7/\tn i s7.heap/\(∀ b∈fp,H' b=none)/\W i m σ' H':=fun {σ7 H7} I7 n7=>by
   obtain⟨m',hm,w7⟩:=hN σ7 H7 n7;refine⟨m',hm,i+1,σ7,H7,I7.unpinned,T.keep _ _ _ st5 fun b hb o e=>(I7.pin (b,o) (XL _ (XL _ (Qr hb e)))).1,fun b hb=>?_,w7⟩;obtain⟨o,e,d⟩:=T.obj _ _ st5 b hb;exact(I7.pin (b,o) (XL _ (XL _ (Qr hb e)))).2.1
  cases f with
  | next=>obtain⟨σ7,H7,I7,n7⟩:=q7; exact again I7 n7
  | cont=>obtain⟨σ7,H7,I7,n7⟩:=q7; exact again I7 n7
  | brk=>obtain⟨σ7,H7,I7,q7⟩:=q7; exact ⟨σ7,H7,I7.unpinned,q7⟩
  | ret v=>obtain⟨x7,σ7,H7,I7,r7,q7⟩:=q7; exact ⟨x7,σ7,H7,I7.unpinned,r7,q7⟩
end
abbrev R2:=V->V->Hp->VK->Prop
def OpR (X:Cx) (f:Value->Value->Sem Value) (r:R2):Prop:=
 ∀ (pins:List (Addr×Obj)) (s:Shared) (σ:St) (H:Hp) (x y:V) (v u:Value) (Q:VK),Inv X pins σ H s->RelV x v->RelV y u->r x y H Q ->
  wpAny (model X.prog X.w) X.A (f v u) (EP X pins σ Q) X.xe s
def UnR (X:Cx) (f:Value->Sem Value) (r:V->Hp->VK->Prop):Prop:=
 ∀ (pins:List (Addr×Obj)) (s:Shared) (σ:St) (H:Hp) (x:V) (v:Value) (Q:VK),Inv X pins σ H s->RelV x v->r x H Q ->
  wpAny (model X.prog X.w) X.A (f v) (EP X pins σ Q) X.xe s
def GS (X:Cx) (f:Value) (r:List V->Hp->VK->Prop):Prop:=
 ∀ (pins:List (Addr×Obj)) (s:Shared) (σ:St) (H:Hp) (xs:List V) (us:List Value) (Q:VK),Inv X pins σ H s->Vals xs us->r xs H Q ->
  wpAny (model X.prog X.w) X.A (call f us) (EP X pins σ Q) X.xe s
def tOp (r:R2) (ta tb:TE):TE:=fun σ H Q=>ta σ H fun x H1=>tb σ H1 fun y H2=>r x y H2 Q
def tUn (r:V->Hp->VK->Prop) (ta:TE):TE:=fun σ H Q=>ta σ H fun x H1=>r x H1 Q
def rI (C:Int->Int->Prop) (g:Int->Int->V):R2:=fun x y H Q=>∃ i j,x=.int i/\y=.int j/\C i j/\Q (g i j) H
def rI0 (g:Int->Int->V):R2:=fun x y H Q=>∃ i j,x=.int i/\y=.int j/\Q (g i j) H
def rU (g:Int->V):V->Hp->VK->Prop:=fun x H Q=>∃ i,x=.int i/\Q (g i) H
section
variable {X:Cx}{a b c:Expr}{ta tb tc:TE} 
def jnE (ha:PE X a ta) (hb:PE X b tb) {σ:St}{H:Hp}{R:V->V->Hp->Prop} (I:Inv X pins σ H s)
  (h:ta σ H fun x H1=>tb σ H1 fun y H2=>R x y H2) {f:Value->Value->Sem Value}
  (hf:∀ v u s2 x y H2,Inv X pins σ H2 s2->RelV x v->RelV y u->R x y H2->wpAny (model X.prog X.w) X.A (f v u) Q X.xe s2) :
  wpAny (model X.prog X.w) X.A (eval a X.env) (fun v s₁=>wpAny (model X.prog X.w) X.A (eval b X.env) (fun u s₂=>wpAny (model X.prog X.w) X.A (f v u) Q X.xe s₂) X.xe s₁) X.xe s:=by
 refine thn (ha pins s σ H _ I h) fun v s1 ⟨x,H1,I1,r1,q1⟩=>?_;refine thn (hb pins s1 σ H1 _ I1 q1) fun u s2 ⟨y,H2,I2,r2,q2⟩=>?_;exact hf v u s2 x y H2 I2 r1 r2 q2
def jK {op:Operator}{r:R2} (ho:OpR X (binaryOp op) r) (ha:PE X a ta) (hb:PE X b tb):PE X (.BinOp a op b pos) (tOp r ta tb):=by
 intro pins s σ H Q I h;exact wpAny_BinOp (jnE ha hb I h fun v u s2 x y H2 I2 rx ry q=>ho pins s2 σ H2 x y v u Q I2 rx ry q)
def jaG {op:UnaryOp}{r:V->Hp->VK->Prop} (ho:UnR X (unaryOp op) r) (ha:PE X a ta):PE X (.UnaryOp op a pos) (tUn r ta):=by
 intro pins s σ H Q I h;exact UnaryOp_ (thn (ha pins s σ H _ I h) fun v s1 ⟨x,H1,I1,r1,q1⟩=>ho pins s1 σ H1 x v Q I1 r1 q1)
def opI {f:Value->Value->Sem Value}{C:Int->Int->Prop}{g:Int->Int->Int}
  (rule:∀ (i j:Int) (t u:Tok) (s:Shared) (Q:Value->Shared->Prop) (E:Value->Shared->Prop),C i j->Q (.int (g i j) s.toks) { s with toks:=s.toks+1 }->wpAny (model X.prog X.w) X.A (f (.int i t) (.int j u)) Q E s) :
  OpR X f (rI C fun i j=>.int (g i j)):=by
 intro pins s σ H x y v u Q I rx ry h;obtain⟨i,j,rfl,rfl,hc,q⟩:=h;obtain⟨t,rfl⟩:=rx;obtain⟨t',rfl⟩:=ry;exact rule i j t t' s _ _ hc ⟨.int (g i j),H,I.tok _,⟨_,rfl⟩,q⟩
def jnt {f:Value->Value->Sem Value}{g:Int->Int->Int}
  (rule:∀ (i j:Int) (t u:Tok) (s:Shared) (Q:Value->Shared->Prop) (E:Value->Shared->Prop),Q (.int (g i j) s.toks) { s with toks:=s.toks+1 }->wpAny (model X.prog X.w) X.A (f (.int i t) (.int j u)) Q E s) :
  OpR X f (rI0 fun i j=>.int (g i j)):=by
 intro pins s σ H x y v u Q I rx ry h;obtain⟨i,j,rfl,rfl,q⟩:=h;obtain⟨t,rfl⟩:=rx;obtain⟨t',rfl⟩:=ry;exact rule i j t t' s _ _ ⟨.int (g i j),H,I.tok _,⟨_,rfl⟩,q⟩
def jnu {f:Value->Value->Sem Value} 
  (rule:∀ (i j:Int) (t u:Tok) (s:Shared) (Q:Value->Shared->Prop) (E:Value->Shared->Prop),Q (.bool (g i j)) s->wpAny (model X.prog X.w) X.A (f (.int i t) (.int j u)) Q E s) :
  OpR X f (rI0 fun i j=>.bl (g i j)):=by
 intro pins s σ H x y v u Q I rx ry h;obtain⟨i,j,rfl,rfl,q⟩:=h;obtain⟨t,rfl⟩:=rx;obtain⟨t',rfl⟩:=ry;exact rule i j t t' s _ _ ⟨.bl (g i j),H,I,rfl,q⟩
def jlJ (i j:Int):Prop:=0<=j/\j<=1000000/\i.natAbs<2 ^ 64
def CMul (i j:Int):Prop:=(-(2 ^ 64)<i/\i<2 ^ 64) \/ (-(2 ^ 64)<j/\j<2 ^ 64)
def CMul.ok {i:Int} (h:CMul i j):IntMulOk i j:=by
 rcases h with⟨h1,h2⟩ | ⟨h1,h2⟩
 ·exact .of_left (intBits_le_64 h1 h2)
 ·exact .of_right (intBits_le_64 h1 h2)
def jeo (k:Nat):(0:Int)<=2 ^ k:=by
 rw[two_pow_cast];exact Int.natCast_nonneg _
def yK:OpR X (binaryOp .Add) (rI0 fun i j=>.int (i+j)):=jnt fun _ _ _ _ _ _ _ q=>add_int q
def Vn:OpR X (binaryOp .Sub) (rI0 fun i j=>.int (i-j)):=jnt fun _ _ _ _ _ _ _ q=>sub_int q
def GT:OpR X (binaryOp .Mult) (rI CMul fun i j=>.int (i * j)):=opI fun _ _ _ _ _ _ _ hc q=>mul_int q hc.ok
def JD:OpR X (binaryOp .Mod) (rI (fun _ j=>0<j) fun i j=>.int (i % j)):=opI fun i j _ _ _ _ _ hc q=>by
 have h1:(0:Int)<j:=hc;exact mod_int' (by omega) (by rw[Int.fmod_eq_emod_of_nonneg i (by omega)]; exact q)
def jl4:OpR X (binaryOp .Pow) (rI jlJ fun i j=>.int (i ^ j.toNat)):=opI fun _ _ _ _ _ _ _ hc q=>pow_int_small hc.1 hc.2.1 hc.2.2 q
def Um:OpR X (binaryOp .LShift) (rI jlJ fun i j=>.int (i * 2 ^ j.toNat)):=opI fun _ _ _ _ _ _ _ hc q=>lshift_int_small hc.1 hc.2.1 hc.2.2 q
def jjq:OpR X (binaryOp .RShift) (rI (fun _ j=>0<=j) fun i j=>.int (i / 2 ^ j.toNat)):=opI fun i j _ _ _ _ _ hc q=>
 rshift_int hc (by rw[Int.fdiv_eq_ediv_of_nonneg i (jeo _)]; exact q)
def jfy:OpR X (binaryOp .BitAnd) (rI0 fun i j=>.int (Builtin.bitAnd i j)):=jnt fun _ _ _ _ _ _ _ q=>and_int q
def VV:OpR X (binaryOp .BitOr) (rI0 fun i j=>.int (Builtin.bitOr i j)):=jnt fun _ _ _ _ _ _ _ q=>or_int q
def unI {f:Value->Sem Value}{g:Int->Int}
  (rule:∀ (i:Int) (t:Tok) (s:Shared) (Q:Value->Shared->Prop) (E:Value->Shared->Prop),Q (.int (g i) s.toks) { s with toks:=s.toks+1 }->wpAny (model X.prog X.w) X.A (f (.int i t)) Q E s) :
  UnR X f (rU fun i=>.int (g i)):=by
 intro pins s σ H x v Q I rx h;obtain⟨i,rfl,q⟩:=h;obtain⟨t,rfl⟩:=rx;exact rule i t s _ _ ⟨.int (g i),H,I.tok _,⟨_,rfl⟩,q⟩
def VW:UnR X (unaryOp .USub) (rU fun i=>.int (-i)):=unI fun _ _ _ _ _ q=>neg_int q
def jl5:UnR X (unaryOp .Invert) (rU fun i=>.int (Builtin.bitNot i)):=unI fun _ _ _ _ _ q=>invert_int q
end
def joj:V->V->Bool
 | .non,.non=>true | .non,.int _=>true | .int _,.non=>true | .non,.bl _=>true | .bl _,.non=>true | .non,.str _=>true | .str _,.non=>true
 | .int _,.int _=>true | .bl _,.bl _=>true | .str _,.str _=>true | .byt _,.byt _=>true
 | .int _,.str _=>true | .str _,.int _=>true | .bl _,.str _=>true | .str _,.bl _=>true
 | _,_=>false
def rEq:R2:=fun x y H Q=>joj x y=true/\Q (.bl (decide (x=y))) H
def rNe:R2:=fun x y H Q=>joj x y=true/\Q (.bl (!decide (x=y))) H
def YS {i:Int}:decide (V.int i=V.int j)=(i==j):=by
 rw[XJ];simp
def jjr {i j:Bool}:decide (V.bl i=V.bl j)=(i==j):=by
 rw[XJ];simp
def jfz {i j:Str}:decide (V.str i=V.str j)=(i==j):=by
 rw[XJ];simp
def jfA {i j:Array UInt8}:decide (V.byt i=V.byt j)=(i.toList==j.toList):=by
 rw[XJ];cases i;cases j;simp
section
variable {X:Cx}{a b c:Expr}{ta tb tc:TE} 
def qz {σ:St}{H:Hp}{Q:VK}{k k':Bool} (I:Inv X pins σ H s) (q:Q (.bl k) H) (e:k=k'):EP X pins σ Q (.bool k') s:=by
 subst e;exact⟨.bl k,H,I,rfl,q⟩
def GU:OpR X (compareOp .Eq) rEq:=by
 intro pins s σ H x y v u Q I rx ry h;obtain⟨hs,q⟩:=h;cases x with
 | non=>
  cases rx;cases y with
  | non=>cases ry; exact PySem.EqNone.eq_none_none (qz I q (by simp))
  | bl j=>cases ry; exact PySem.EqNone.eq_none_bool (qz I q (by simp))
  | int j=>obtain⟨t',rfl⟩:=ry; exact PySem.EqNone.eq_none_int (qz I q (by simp))
  | str j=>obtain⟨t',rfl⟩:=ry; exact PySem.EqNone.eq_none_str (qz I q (by simp))
  | _=>exact absurd (show false=true from hs) Xh
 | bl i=>
  cases rx;cases y with
  | non=>cases ry; exact PySem.EqNone.eq_bool_none (qz I q (by simp))
  | bl j=>cases ry; exact eq_bool (qz I q jjr)
  | str j=>obtain⟨t',rfl⟩:=ry; exact PySem.EqMixed.eq_bool_str (qz I q (by simp))
  | _=>exact absurd (show false=true from hs) Xh
 | int i=>
  obtain⟨t,rfl⟩:=rx;cases y with
  | non=>cases ry; exact PySem.EqNone.eq_int_none (qz I q (by simp))
  | int j=>obtain⟨t',rfl⟩:=ry; exact eq_int (qz I q YS)
  | str j=>obtain⟨t',rfl⟩:=ry; exact PySem.EqMixed.eq_int_str (qz I q (by simp))
  | _=>exact absurd (show false=true from hs) Xh
 | str i=>
  obtain⟨t,rfl⟩:=rx;cases y with
  | non=>cases ry; exact PySem.EqNone.eq_str_none (qz I q (by simp))
  | bl j=>cases ry; exact PySem.EqMixed.eq_str_bool (qz I q (by simp))
  | int j=>obtain⟨t',rfl⟩:=ry; exact PySem.EqMixed.eq_str_int (qz I q (by simp))
  | str j=>obtain⟨t',rfl⟩:=ry; exact eq_str (qz I q jfz)
  | _=>exact absurd (show false=true from hs) Xh
 | byt i=>
  obtain⟨t,rfl⟩:=rx;cases y with
  | byt j=>obtain⟨t',rfl⟩:=ry; exact W.eq_bytes (qz I q jfA)
  | _=>exact absurd (show false=true from hs) Xh
 | _=>cases y <;> exact absurd (show false=true from hs) Xh
def QH:OpR X (compareOp .NotEq) rNe:=by
 intro pins s σ H x y v u Q I rx ry h;obtain⟨hs,q⟩:=h;cases x with
 | non=>
  cases rx;cases y with
  | non=>cases ry; exact PySem.EqNone.ne_none_none (qz I q (by simp))
  | bl j=>cases ry; exact PySem.EqNone.ne_none_bool (qz I q (by simp))
  | int j=>obtain⟨t',rfl⟩:=ry; exact PySem.EqNone.ne_none_int (qz I q (by simp))
  | str j=>obtain⟨t',rfl⟩:=ry; exact PySem.EqNone.ne_none_str (qz I q (by simp))
  | _=>exact absurd (show false=true from hs) Xh
 | bl i=>
  cases rx;cases y with
  | non=>cases ry; exact PySem.EqNone.ne_bool_none (qz I q (by simp))
  | bl j=>cases ry; exact ne_bool (qz I q (congrArg not jjr))
  | str j=>obtain⟨t',rfl⟩:=ry; exact PySem.EqMixed.ne_bool_str (qz I q (by simp))
  | _=>exact absurd (show false=true from hs) Xh
 | int i=>
  obtain⟨t,rfl⟩:=rx;cases y with
  | non=>cases ry; exact PySem.EqNone.ne_int_none (qz I q (by simp))
  | int j=>obtain⟨t',rfl⟩:=ry; exact ne_int (qz I q (congrArg not YS))
  | str j=>obtain⟨t',rfl⟩:=ry; exact PySem.EqMixed.ne_int_str (qz I q (by simp))
  | _=>exact absurd (show false=true from hs) Xh
 | str i=>
  obtain⟨t,rfl⟩:=rx;cases y with
  | non=>cases ry; exact PySem.EqNone.ne_str_none (qz I q (by simp))
  | bl j=>cases ry; exact PySem.EqMixed.ne_str_bool (qz I q (by simp))
  | int j=>obtain⟨t',rfl⟩:=ry; exact PySem.EqMixed.ne_str_int (qz I q (by simp))
  | str j=>obtain⟨t',rfl⟩:=ry; exact ne_str (qz I q (congrArg not jfz))
  | _=>exact absurd (show false=true from hs) Xh
 | byt i=>
  obtain⟨t,rfl⟩:=rx;cases y with
  | byt j=>obtain⟨t',rfl⟩:=ry; exact W.ne_bytes (qz I q (congrArg not jfA))
  | _=>exact absurd (show false=true from hs) Xh
 | _=>cases y <;> exact absurd (show false=true from hs) Xh
def WY:OpR X (compareOp .Lt) (rI0 fun i j=>.bl (decide (i<j))):=jnu fun _ _ _ _ _ _ _ q=>lt_int q
def VA:OpR X (compareOp .LtE) (rI0 fun i j=>.bl (decide (i<=j))):=jnu fun _ _ _ _ _ _ _ q=>le_int q
def WZ:OpR X (compareOp .Gt) (rI0 fun i j=>.bl (decide (j<i))):=jnu fun _ _ _ _ _ _ _ q=>gt_int q
def jnF:OpR X (compareOp .GtE) (rI0 fun i j=>.bl (decide (j<=i))):=jnu fun _ _ _ _ _ _ _ q=>ge_int q
def jfB:OpR X (compareOp .In) (fun x y H Q=>∃ i j,x=.str i/\y=.str j/\Q (.bl (!(Builtin.Str.occurrences j i 0 j.length 1).isEmpty)) H):=by
 intro pins s σ H x y v u Q I rx ry h;obtain⟨i,j,rfl,rfl,q⟩:=h;obtain⟨t,rfl⟩:=rx;obtain⟨t',rfl⟩:=ry;exact in_str (qz I q rfl)
def jX (b:Expr) {op:CmpOp} (h:op≠.In:=by decide) (h2:op≠.NotIn:=by decide):behindInMarks op b=false:=by
 have e1:(op==CmpOp.In)=false:=by cases op <;> first | rfl | exact absurd rfl h
 have e2:(op==CmpOp.NotIn)=false:=by cases op <;> first | rfl | exact absurd rfl h2
 cases b <;> simp[behindInMarks,e1,e2]
def JN {op:CmpOp}{r:R2} (ho:OpR X (compareOp op) r) (ha:PE X a ta) (hb:PE X b tb) (hm:behindInMarks op b=false):PE X (.Compare a [op] [b] pos) (tOp r ta tb):=by
 intro pins s σ H Q I h;exact wpAny_Compare1 (jnE ha hb I h fun v u s2 x y H2 I2 rx ry q=>ho pins s2 σ H2 x y v u Q I2 rx ry q) hm
def jfC (t:TE):TT:=fun σ H Q=>t σ H fun x H'=>∃ k,x=.bl k/\Q k H'
def jP {op:CmpOp}{r:R2} (ho:OpR X (compareOp op) r) (ha:PE X a ta) (hb:PE X b tb) (hm:behindInMarks op b=false):PT X (.Compare a [op] [b] pos) (jfC (tOp r ta tb)):=by
 intro pins s σ H Q I h;refine wpAny_isTrue_Compare1 (thn (ha pins s σ H _ I h) fun v s1 ⟨x,H1,I1,r1,q1⟩=>thn (hb pins s1 σ H1 _ I1 q1) fun u s2 ⟨y,H2,I2,r2,q2⟩=>
  thn (ho pins s2 σ H2 x y v u _ I2 r1 r2 q2) fun c s3 ⟨z,H3,I3,r3,k,e,q3⟩=>?_) hm
 subst e;cases r3;exact XM ⟨H3,I3,q3⟩
def VX (r r':R2) (ta tb tc:TE):TE:=fun σ H Q=>ta σ H fun x H1=>tb σ H1 fun y H2=>r x y H2 fun z H3=>∃ k,z=.bl k /\
 (if k=true then tc σ H3 fun w' H4=>r' y w' H4 Q else Q (.bl false) H3)
def Qs {op op':CmpOp}{r r':R2} (ho:OpR X (compareOp op) r) (ho':OpR X (compareOp op') r') (ha:PE X a ta) (hb:PE X b tb) (hc:PE X c tc)
  (hm:lastMarks [op,op'] [b,c]=false:=by with_unfolding_all rfl):PT X (.Compare a [op,op'] [b,c] pos) (jfC (VX r r' ta tb tc)):=by
 intro pins s σ H Q I h;refine isTrue_chain (thn (ha pins s σ H _ I h) fun v s1 ⟨x,H1,I1,r1,q1⟩=>test_link (thn (hb pins s1 σ H1 _ I1 q1) fun u s2 ⟨y,H2,I2,r2,q2⟩=>
  thn (ho pins s2 σ H2 x y v u _ I2 r1 r2 q2) fun d s3 ⟨z,H3,I3,r3,k,e,q3⟩=>?_)) hm
 subst e;cases r3;refine XM ?_;cases k with
 | false=>
  obtain⟨k',e',q'⟩:=q3;cases e';exact ite_ff ⟨H3,I3,q'⟩
 | true=>
  refine ite_tt (test_last (thn (hc pins s3 σ H3 _ I3 q3) fun w' s4 ⟨z',H4,I4,r4,q4⟩=>thn (ho' pins s4 σ H4 y z' u w' _ I4 r2 r4 q4) fun d' s5 ⟨z2,H5,I5,r5,k2,e2,q5⟩=>?_));subst e2;cases r5;exact XM ⟨H5,I5,q5⟩
def Yl:(sizeLine:Nat)<2 ^ 63:=by rw[Xx]; decide
def qJ:OpR X (binaryOp .Add) (fun x y H Q=>∃ i j,x=.str i/\y=.str j/\i.length+j.length<=sizeLine/\Q (.str (i++j)) H):=by
 intro pins s σ H x y v u Q I rx ry h;obtain⟨i,j,rfl,rfl,hz,q⟩:=h;obtain⟨t,rfl⟩:=rx;obtain⟨t',rfl⟩:=ry;exact add_str (fun t' tk=>⟨.str (i++j),H,I.tok _,⟨_,rfl⟩,q⟩) hz
def US {x:V} (r:Vals [x] us):∃ u,us=[u]/\RelV x u:=by
 cases r with
 | cons r1 r2=>cases r2; exact ⟨_,rfl,r1⟩
def jds:GS X (.builtin "abs") (fun xs H Q=>∃ i,xs=[.int i]/\Q (.int (if i<0 then -i else i)) H):=by
 intro pins s σ H xs us Q I r h;obtain⟨i,rfl,q⟩:=h;obtain⟨u,rfl,t,rfl⟩:=US r;exact call_abs_int fun u tk=>⟨.int (if i<0 then -i else i),H,I.tok _,⟨_,rfl⟩,q⟩
def j2:GS X (.type "str") (fun xs H Q=>∃ i,xs=[.int i]/\i.natAbs.log2<1920/\Q (.str (toString i)) H):=by
 intro pins s σ H xs us Q I r h;obtain⟨i,rfl,hz,q⟩:=h;obtain⟨u,rfl,t,rfl⟩:=US r;exact PySem.P.str_of_int hz ⟨.str _,H,I.tok _,⟨_,rfl⟩,q⟩
end
structure ObjM (h:Heap) (x dx C:Addr) (mA:Str->Option Value):Prop where
 obj:h.get? x=some (W.instObj C dx)
 ns:h.Ns1 dx mA
 ne:dx≠x
def jfD (n:h.Ns1 dx mA):∃ od,h.get? dx=some od/\∀ name,W.lookIn name od=some (mA name):=by
 obtain⟨o,es,ep,ho,hd,hk,_,hm⟩:=n;refine⟨o,ho,fun name=>?_⟩;have e:=hm name;unfold nsFind findBy at e;rw[<- Array.find?_toList] at e;unfold W.lookIn;rw[hd];dsimp only;split
 ·rename_i y q
  rw[q] at e;exact congrArg some e
 ·rename_i q
  rw[q] at e;have a:es.toList.any (·.refKey)=false:=by
   rw[List.any_eq_false];intro y hy;obtain⟨z,t,hkey⟩:=hk y (Array.mem_toList_iff.mp hy);simp[DictEntry.refKey,hkey]
  have a':¬ es.toList.any (·.refKey)=true:=by rw[a]; exact Xh
  rw[if_neg a'];exact congrArg some e
def ObjM.look {x:Addr} (I:ObjM h x dx C mA):∃ od,W.InstAt h x (W.instObj C dx) C (some od)/\∀ name,W.lookIn name od=some (mA name):=
 let ⟨od,ho,hl⟩:=jfD I.ns
 ⟨od,⟨I.obj,rfl,rfl,ho⟩,hl⟩
section
variable {x f:Addr}{v:Value}
def jkf {expr:Bool} (X:K.In s.heap) (I:ObjM s.heap x dx C mA) (hg:W.plainGet K C name=true) (hh:W.hasDictIn K C=true)
  (ha:W.findIn K (.ref C) name=some none) (hv:mA name=some v) (hv':W.handedIn v=true) (h:Q v { s with toks:=s.toks+1 }) :
  wpAny (model prog w) A (getAttr (.ref x) name expr) Q E s:=by
 obtain⟨od,J,hl⟩:=I.look;exact W.get_value X J (W.plainGet_of hg).1 (W.findObj_own hh ha rfl (by rw[hl,hv])) hv' h
def jhU {Q:Value×List Value->Shared->Prop} (X:K.In s.heap) (I:ObjM s.heap x dx C mA) (hg:W.plainGet K C name=true)
  (hf:W.findIn K (.ref C) name=some (some (.ref f))) (ht:W.isFn K (.ref f)=true) (hv:mA name=none) (h:Q (.ref f,[.ref x]) s) :
  wpAny (model prog w) A (getMethod (.ref x) name pl) Q E s:=by
 obtain⟨od,J,hl⟩:=I.look;exact W.method_fn X J (W.plainGet_of hg).1 (W.plainGet_of hg).2 hf (beq_iff_eq.mp ht) (by show (W.lookIn name od).map (·.isSome)=some false; rw[hl,hv]; rfl) h
def jkg {ns:List Str}{Q:Unit->Shared->Prop} (X:K.In s.heap) (I:ObjM s.heap x dx C mA)
  (hs:W.findIn K (.ref C) "__setattr__"=some (some (.builtin "object.__setattr__"))) (hp:W.plainOver K C=true) (ht:W.takerIn K C name=some none) (hh:W.hasDictIn K C=true)
  (hw:PySem.Within mA ns) (hsz:ns.length<=sizeLine)
  (h:∀ h',ObjM h' x dx C (fun y=>if y=name then some v else mA y)->Heap.SameBut dx s.heap h'->Q () { s with heap:=h',toks:=s.toks+2 }) :
  wpAny (model prog w) A (setAttr (.ref x) name v) Q E s:=by
 obtain⟨od,J,hl⟩:=I.look;refine W.set_plain X J hs (W.osa_open (s:={ s with toks:=s.toks+1 }) (r:=none) X J hp ht fun b=>?_)
 obtain⟨cd,hc,hd'⟩:=W.any_some hh;have hx:s.heap.get? x=some ⟨.ref C,some dx,.plain,#[]⟩:=I.obj;refine Xa (Xb (Xa (Xa (wpAny_loadPart hx (Xa (W.Looks.here (s:={ s with toks:=s.toks+1 }) (W.looks_clsIn X hc) ?_))))))
 rw[hd'];refine Xb (a:=some dx) (Xa (Xb (Xa ?_)));refine wpAny_nsSet1 (s:={ s with toks:=s.toks+1 }) I.ns fun h' hn2 hs2=>?_
 obtain⟨oD,esD,epD,hoD,hdD,hcD⟩:=hn2.count (PySem.Within.cons name v hw);refine Xa (wpAny_lookBehind hoD (by rw[hdD]; exact pastItsLine_dict (XV hcD (by rw[XX]; omega))) ?_);exact Xb (h _ ⟨(hs2.2 _ (Ne.symm I.ne)).trans I.obj,hn2,I.ne⟩ hs2)
def jhV {R:Result->Shared->Prop} (X:K.In s.heap) (hm:W.makesIn K C=true)
  (hi:W.findIn K (.ref C) "__init__"=some (some (.ref f))) (hf:W.typeIn K (.ref f)=some (.type "function"))
  (h:codeAny (model prog w) (A.under (.builtin "type.__call__" ⟨.ref C::vs,kw⟩)) (.call (.ref f) ⟨.ref (s.heap.objs.size+1)::vs,kw⟩) (W.InitBack (s.heap.objs.size+1) R)
   { s with heap:=(s.heap.push W.emptyDict).push (W.instObj C s.heap.objs.size) }) :
  codeAny (model prog w) A (.call (.ref C) ⟨vs,kw⟩) R s:=by
 obtain⟨hh,g,d,t,os⟩:=s;exact W.make_core (W.makes_of X hm) (W.looks_findIn X hi) (fun self=>W.bind_fn X self hf) (.inl rfl) h
end
def QI (f:Str) (v:V):List (Str×V)->List (Str×V)
 | []=>[(f,v)]
 | (g,x)::r=>if g=f then (g,v)::r else (g,x)::QI f v r
def jm (f g:Str) (v:V):∀ fs:List (Str×V),(QI f v fs).lookup g=if g=f then some v else fs.lookup g
 | []=>by
  show List.lookup g [(f,v)]=_;by_cases h:g=f
  ·have hb:(g==f)=true:=beq_iff_eq.mpr h;simp only[List.lookup,hb,if_pos h]
  ·have hb:(g==f)=false:=beq_eq_false_iff_ne.mpr h;simp only[List.lookup,hb,if_neg h]
 | (k,x)::r=>by
  have ih:=jm f g v r;rw[show QI f v ((k,x)::r)=(if k=f then (k,v)::r else (k,x)::QI f v r) from rfl];by_cases hk:k=f
  ·rw[if_pos hk];by_cases h:g=k
   ·have hb:(g==k)=true:=beq_iff_eq.mpr h;simp only[List.lookup,hb,if_pos (h.trans hk)]
   ·have hb:(g==k)=false:=beq_eq_false_iff_ne.mpr h;simp only[List.lookup,hb,if_neg (fun e:g=f=>h (e.trans hk.symm))]
  ·rw[if_neg hk];by_cases h:g=k
   ·have hb:(g==k)=true:=beq_iff_eq.mpr h;simp only[List.lookup,hb,if_neg (fun e:g=f=>hk (h.symm.trans e))]
   ·have hb:(g==k)=false:=beq_eq_false_iff_ne.mpr h;simp only[List.lookup,hb];exact ih
def VY (f:Str) (v:V):∀ fs:List (Str×V),f∈(QI f v fs).map (·.1)/\∀ g,g∈fs.map (·.1)->g∈(QI f v fs).map (·.1)
 | []=>⟨by simp[QI],fun g h=>by simp at h⟩
 | (k,x)::r=>by
  obtain⟨i1,i2⟩:=VY f v r;rw[show QI f v ((k,x)::r)=(if k=f then (k,v)::r else (k,x)::QI f v r) from rfl];by_cases hk:k=f
  ·rw[if_pos hk];subst hk;exact⟨by simp,fun g h=>by simpa using h⟩
  ·rw[if_neg hk];refine⟨?_,fun g h=>?_⟩
   ·rw[Xp];exact Xn _ i1
   ·rw[Xp] at h ⊢;rcases List.mem_cons.mp h with e | e
    ·exact List.mem_cons.mpr (.inl e)
    ·exact Xn _ (i2 g e)
def QY (f:Str) (v:V):∀ fs:List (Str×V),(QI f v fs).length<=fs.length+1
 | []=>by simp[QI]
 | (k,x)::r=>by
  have ih:=QY f v r;rw[show QI f v ((k,x)::r)=(if k=f then (k,v)::r else (k,x)::QI f v r) from rfl];by_cases hk:k=f
  ·rw[if_pos hk,XX,XX]; omega
  ·rw[if_neg hk,XX,XX]; omega
def RelO.some_of {v:V}{o:Option Value} (r:RelO (some v) o):∃ u,o=some u/\RelV v u:=by
 cases o with
 | none=>exact (show False from r).elim
 | some u=>exact ⟨u,rfl,r⟩
def RelO.none_of {o:Option Value} (r:RelO none o):o=none:=by
 cases o with
 | none=>rfl
 | some u=>exact (show False from r).elim
def jfE {v:V} (r:RelV v u):W.handedIn u=true:=by
 cases v with
 | non=>cases (show u=Value.none from r); rfl
 | bl b=>cases (show u=Value.bool b from r); rfl
 | int i=>obtain⟨t,e⟩:=(show ∃ t,u=Value.int i t from r); cases e; rfl
 | str x=>obtain⟨t,e⟩:=(show ∃ t,u=Value.str x t from r); cases e; rfl
 | byt b=>obtain⟨t,e⟩:=(show ∃ t,u=Value.bytes b t from r); cases e; rfl
 | flt b=>obtain⟨t,e⟩:=(show ∃ t,u=Value.float b t from r); cases e; rfl
 | ref a=>cases (show u=Value.ref a from r); rfl
 | ty n=>cases (show u=Value.type n from r); rfl
section
variable {H H':Hp}{fs fs':List (Str×V)}
def jbX (hok:HOk P w H h) (e:H a=some (.ins C dx fs)):∃ mA,ObjM h a dx C mA/\(∀ f,RelO (fs.lookup f) (mA f))/\PySem.Within mA (fs.map (·.1))/\fs.length<=1000/\H dx=some (.own a):=by
 obtain⟨d,z,ne,ob,mA,n,r,q⟩:=(show ObjOk P w H h a (.ins C dx fs) from hok a _ e);exact⟨mA,⟨ob,n,ne⟩,r,q,z,d⟩
end
structure Cls (K:W.Frag) (C:Addr):Prop where
 pg:W.plainGet K C Str.empty=true
 hd:W.hasDictIn K C=true
 po:W.plainOver K C=true
 sa:W.findIn K (.ref C) "__setattr__"=some (some (.builtin "object.__setattr__"))
def Cls.get (c:Cls K C) (f:Str):W.plainGet K C f=true:=c.pg
def NoAttr (K:W.Frag) (C:Addr) (f:Str):Prop:=W.findIn K (.ref C) f=some none
def NoAttr.taker {f:Str} (n:NoAttr K C f):W.takerIn K C f=some none:=by
 unfold W.takerIn;rw[show W.findIn K (.ref C) f=some none from n];rfl
structure Meth (K:W.Frag) (C:Addr) (m:Str) (f:Addr):Prop where
 at_:W.findIn K (.ref C) m=some (some (.ref f))
 fn:W.isFn K (.ref f)=true
 kp:W.keepIn K (.ref f)=true
section
variable {X:Cx}{σ:St}{H:Hp}{fs:List (Str×V)}{f:Str}{v:V} 
def jep {b:Bool} (I:Inv X pins σ H s) (e:H a=some (.ins C dx fs)) (c:Cls X.K C) (n:NoAttr X.K C f) (l:fs.lookup f=some v)
  (h:∀ u s',Inv X pins σ H s'->RelV v u->Q u s'):wpAny (model X.prog X.w) A (getAttr (.ref a) f b) Q E s:=by
 obtain⟨mA,O,r,_,_,_⟩:=jbX I.hok e;obtain⟨u,hu,ru⟩:=RelO.some_of (v:=v) (o:=mA f) (by rw[<- l]; exact r f);exact jkf I.kIn O (c.get f) c.hd n hu (jfE ru) (h u _ (I.tok _) ru)
def Ym {m:Str}{g:Addr}{Q:Value×List Value->Shared->Prop} (I:Inv X pins σ H s) (e:H a=some (.ins C dx fs)) (c:Cls X.K C) (k:Meth X.K C m g) (l:fs.lookup m=none)
  (h:Q (.ref g,[.ref a]) s):wpAny (model X.prog X.w) A (getMethod (.ref a) m pl) Q E s:=by
 obtain⟨mA,O,r,_,_,_⟩:=jbX I.hok e;have hn:mA m=none:=RelO.none_of (by rw[<- l]; exact r m);exact jhU I.kIn O (c.get m) k.at_ k.fn hn h
def jeq {y:V}{Q:Unit->Shared->Prop} (I:Inv X pins σ H s) (e:H a=some (.ins C dx fs)) (c:Cls X.K C) (n:NoAttr X.K C f) (hl:fs.length<1000) (ry:RelV y u)
  (h:∀ s',Inv X pins σ (upd H a (.ins C dx (QI f y fs))) s'->Q () s'):wpAny (model X.prog X.w) A (setAttr (.ref a) f u) Q E s:=by
 obtain⟨mA,O,r,wi,_,ho⟩:=jbX I.hok e;have hz:(fs.map (·.1)).length<=sizeLine:=by rw[Xj,Xx]; omega
 refine jkg I.kIn O c.sa c.po n.taker c.hd wi hz fun h' O' sb=>h _ ?_;have hd:∃ o,h'.get? dx=some o:=let ⟨o,_,_,e',_⟩:=O'.ns; ⟨o,e'⟩;refine I.write (x:=a) (e:=dx) (by rw[e]; exact True.intro) (.inr ho) (fun b q hb z=>(sb.2 b hb).trans z) hd ?_;refine⟨by rw[km O.ne]; exact ho,?_,O.ne,O'.obj,_,O'.ns,fun g=>?_,fun g hg=>?_⟩
 ·have:=QY f y fs; omega
 ·show RelO ((QI f y fs).lookup g) (if g=f then some u else mA g);rw[jm];by_cases q:g=f
  ·rw[if_pos q,if_pos q]; exact ry
  ·rw[if_neg q,if_neg q]; exact r g
 ·by_cases q:g=f
  ·rw[q]; exact (VY f y fs).1
  ·refine(VY f y fs).2 g (wi g fun z=>hg ?_);show (if g=f then some u else mA g)=none;rw[if_neg q]; exact z
def Inv.made (I:Inv X pins σ H s):Inv X pins σ (upd (upd H s.heap.objs.size (.own (s.heap.objs.size+1))) (s.heap.objs.size+1) (.ins C s.heap.objs.size []))
  { s with heap:=(s.heap.push W.emptyDict).push (W.instObj C s.heap.objs.size) }:=by
 have e1:(s.heap.push W.emptyDict).get? s.heap.objs.size=some W.emptyDict:=Xi s.heap rfl;have e2:((s.heap.push W.emptyDict).push (W.instObj C s.heap.objs.size)).get? (s.heap.objs.size+1)=some (W.instObj C s.heap.objs.size):=by
  have:=Xi (s.heap.push W.emptyDict) (o:=W.instObj C s.heap.objs.size) rfl
  rwa [Heap.size_push] at this
 have e3:(s.heap.push W.emptyDict).Ns s.heap.objs.size (fun _=>none):=⟨W.emptyDict,#[],_,e1,rfl,(fun e he=>absurd he (by simp)),fun _=>rfl⟩;have I1:=I.laid (a:=s.heap.objs.size) (o:=.own (s.heap.objs.size+1)) (h':=s.heap.push W.emptyDict) (t':=s.toks) (fun b u q=>Xd _ q) (Xe _) ⟨_,e1⟩;refine I1.laid (a:=s.heap.objs.size+1) (o:=.ins C s.heap.objs.size []) (t':=s.toks) (fun b u q=>Xd _ q) (Nat.le_of_eq (Heap.size_push _ _)) ?_;have ne:s.heap.objs.size≠s.heap.objs.size+1:=XO (Nat.lt_succ_self _);refine⟨by rw[km ne,j_],wa _,ne,e2,fun _=>none,(Heap.Ns1.of_empty e3).at fun o q=>Xd _ q,fun _=>True.intro,fun y hy=>absurd rfl hy⟩
def jkh {f:Str} (hb:attributeBase e f env (eval e env)=eval e env)
  (h:wpAny (model prog w) A (eval e env) (fun o s₁=>wpAny (model prog w) A (getAttr o f true) Q E s₁) E s):wpAny (model prog w) A (eval (.Attribute e f pos) env) Q E s:=
 Attribute_any_ h (by rw[arm_eval_Attribute,hb])
end
def jfF (K:W.Frag) (ta:TE) (f:Str):TE:=fun σ H Q=>ta σ H fun x H1=>∃ a C dx fs v,x=.ref a/\H1 a=some (.ins C dx fs)/\Cls K C/\NoAttr K C f/\fs.lookup f=some v/\Q v H1
def jlK (K:W.Frag) (ta tv:TE) (f:Str):TS:=fun D σ H=>tv σ H fun y H1=>ta σ H1 fun x H2=>∃ a C dx fs,x=.ref a/\H2 a=some (.ins C dx fs)/\Cls K C/\NoAttr K C f/\fs.length<1000 /\
 D.nx σ (upd H2 a (.ins C dx (QI f y fs)))
section
variable {X:Cx}{o:Expr}{f:Str}{tpos:Pos}{ta tv:TE}
def j3 (he:PE X e ta) (hb:attributeBase e f X.env (eval e X.env)=eval e X.env):PE X (.Attribute e f pos) (jfF X.K ta f):=by
 intro pins s σ H Q I h;refine jkh hb (thn (he pins s σ H _ I h) fun u s1 ⟨x,H1,I1,rx,a,C,dx,fs,v,ex,ea,c,n,l,q⟩=>?_);subst ex;obtain rfl:u=Value.ref a:=rx;exact jep I1 ea c n l fun u' s2 I2 ru=>⟨v,H1,I2,ru,q⟩
def zz (ha:PE X o ta) (hv:PE X value tv) (hs:swapsWith value (some (.Attribute o f pos')) pos.line X.env=pure false):PS X (.Assign [.Attribute o f pos'] value pos) (jlK X.K ta tv f):=by
 intro pins s σ H D I h;refine plainObj_wpAny_Assign_Attribute (thn (hv pins s σ H _ I h) fun u s1 ⟨y,H1,I1,ry,q⟩=>thn (ha pins s1 σ H1 _ I1 q) fun ov s2 ⟨x,H2,I2,rx,a,C,dx,fs,ex,ea,c,n,l,q2⟩=>?_) hs;subst ex;obtain rfl:ov=Value.ref a:=rx;exact jeq I2 ea c n l ry fun s3 I3=>⟨σ,_,I3,q2⟩
end
structure Room (k:Nat) (A:Around):Prop where
 hd:A.handled=none
 dp:A.depth+3 * k+5<recursionLimit
 un:A.units+16 * k+200<cLine
 gd:A.guards=some []
def Room.mono {j k:Nat} (r:Room k A) (h:j<=k):Room j A:=⟨r.hd,by have:=r.dp; omega,by have:=r.un; omega,r.gd⟩
def Room.deeper {k:Nat} (r:Room (k+1) A) (env:Env):Room k (A.deeper env):=
 ⟨r.hd,by have:=r.dp; show A.depth+1+3 * k+5<_; omega,by have:=r.un; show A.units+3+16 * k+200<_; omega,r.gd⟩
def jer:(A.under (.builtin "type.__call__" ⟨.ref C::us,kw⟩)).depth=A.depth+1:=by
 first | rfl | simp[Around.under,Code.weight,Code.isCreation,Code.isGuard,Code.isCaller,Code.frames,Code.isFrame,guardIds]
def jes:(A.under (.builtin "type.__call__" ⟨.ref C::us,kw⟩)).units=A.units+1:=by
 first | rfl | simp[Around.under,Code.cUnits,Code.frames,Code.isFrame]
def jbY:(A.under (.builtin "type.__call__" ⟨.ref C::us,kw⟩)).guards=A.guards:=by
 cases A with
 | mk a b c d e=>cases d <;> rfl
def Room.make {k:Nat} (r:Room (k+1) A) (C:Addr) (us:List Value) (kw:List (Str×Value)):Room k (A.under (.builtin "type.__call__" ⟨.ref C::us,kw⟩)):=
 ⟨r.hd,by have:=r.dp; rw[jer]; omega,by have:=r.un; rw[jes]; omega,(jbY).trans r.gd⟩
def Room.depth {k:Nat} (r:Room k A):A.depth<recursionLimit:=by have:=r.dp; omega
def xq:TA:=fun _ H Q=>Q [] H
def jJ (ta:TE) (tr:TA):TA:=fun σ H Q=>ta σ H fun x H1=>tr σ H1 fun xs H2=>Q (x::xs) H2
section
variable {X:Cx}{te:TE}{t:TA} 
def je:PA X [] xq:=fun _ _ _ _ H Q I h=>Calls.spliced_nil ⟨[],H,I,.nil,h⟩
def jc (ha:PE X e te) (hr:PA X es t) (hs:starEach (e::es) X.env=(false,eval e X.env)::starEach es X.env:=by rfl):PA X (e::es) (jJ te t):=by
 intro pos pins s σ H Q I h;rw[hs];show wpAny _ _ (spliced ((false,eval e X.env)::backTo pos (starEach es X.env))) _ _ s;refine Calls.spliced_cons (thn (ha pins s σ H _ I h) fun u s1 ⟨x,H1,I1,r1,q1⟩=>?_);exact thn (hr pos pins s1 σ H1 _ I1 q1) fun us s2 ⟨xs,H2,I2,r2,q2⟩=>⟨x::xs,H2,I2,.cons r1 r2,q2⟩
def jl6 (t:TA):TE:=fun σ H Q=>t σ H fun xs H1=>xs.length<=sizeLine/\∀ p,H1 p=none->Q (.ref p) (upd H1 p (.tup xs))
def jok (t:TA):TE:=fun σ H Q=>t σ H fun xs H1=>xs.length<=sizeLine/\∀ p,H1 p=none->Q (.ref p) (upd H1 p (.lst xs))
def Gr {x1} (h:PA X es t):PE X (.Tuple es x1 pos) (jl6 t):=by
 intro pins s σ H Q I hq;refine wpAny_Tuple_spliced (thn (h pos pins s σ H _ I hq) fun us s1 ⟨xs,H1,I1,r,z,q⟩=>⟨by rw[<- r.length]; exact z,?_⟩);have hf:H1 s1.heap.objs.size=none:=I1.hok.fresh (Xe _);refine⟨.ref s1.heap.objs.size,upd H1 s1.heap.objs.size (.tup xs),I1.laid (t':=s1.toks) (fun b u e=>Xd _ e) (Xe _) ?_,rfl,q _ hf⟩;exact⟨z,us,r,TupO.new _ _⟩
def xM (h:PA X es t):PE X (.List es pos) (jok t):=by
 intro pins s σ H Q I hq;refine wpAny_List_spliced (thn (h pos pins s σ H _ I hq) fun us s1 ⟨xs,H1,I1,r,z,q⟩=>⟨by rw[<- r.length]; exact z,?_⟩);have hf:H1 s1.heap.objs.size=none:=I1.hok.fresh (Xe _);refine⟨.ref s1.heap.objs.size,upd H1 s1.heap.objs.size (.lst xs),I1.laid (t':=s1.toks) (fun b u e=>Xd _ e) (Xe _) ?_,rfl,q _ hf⟩;exact⟨z,us,0,r,Xi _ rfl⟩
end
abbrev Sp:=List V->Hp->VK->XK->Prop
abbrev CXT:=List Env->Hp->Shared->XK->Value->Shared->Prop
structure Env0 (P:Program) (w:World) (K:W.Frag) (mg:Str->Option Value) (base:Heap) (A:Around) (outer:List Env) (s:Shared) (H:Hp):Prop where
 frames:A.frames=some outer
 mod:Mod K mg base
 bs:∀ b o,base.get? b=some o->s.heap.get? b=some o/\H b=none
 bsz:base.objs.size<=s.heap.objs.size
 funs:s.heap.FunFrames base outer
 frf:∀ b∈frs outer,H b=none
 hok:HOk P w H s.heap
 bare:AllBare s.gens
def CE (outer:List Env) (P:Program) (w:World) (H:Hp) (s:Shared) (Q:VK) (u:Value) (s':Shared):Prop:=
 ∃ v H',s'.os=s.os/\AllBare s'.gens/\Un (frs outer) [] H H' s.heap s'.heap/\HOk P w H' s'.heap/\RelV v u/\Q v H'
def CR (CX:CXT) (outer:List Env) (P:Program) (w:World) (H:Hp) (s:Shared) (Q:VK) (E:XK) (r:Result) (s':Shared):Prop:=
 match r with
 | .ok (.ret u)=>CE outer P w H s Q u s'
 | .ok _=>False
 | .error e=>CX outer H s E e s'
structure FnOk (P:Program) (w:World) (K:W.Frag) (mg:Str->Option Value) (base:Heap) (CX:CXT) (k:Nat) (f:Addr) (fd:FuncData) (ps:List Str) (sp:Sp):Prop where
 len:∀ vs H Q E,sp vs H Q E->vs.length=ps.length
 run:∀ (A:Around) (outer:List Env) (s:Shared) (H:Hp) (args:Args) (us:List Value) (vs:List V) (Q:VK) (E:XK),Room k A->Env0 P w K mg base A outer s H->BindsTo s fd args (ps.zip us)->Vals vs us->sp vs H Q E ->
  codeAny (model P w) A (.call (.ref f) args) (CR CX outer P w H s Q E) s
def FnOk.mono {CX:CXT}{j k:Nat}{f:Addr}{sp:Sp} (F:FnOk P w K mg base CX j f fd ps sp) (h:j<=k) :
  FnOk P w K mg base CX k f fd ps sp:=⟨F.len,fun A outer s H args us vs Q E hr=>F.run A outer s H args us vs Q E (hr.mono h)⟩
def Env0.make {H:Hp} (e:Env0 P w K mg base A outer s H) (C:Addr) (us:List Value) (kw:List (Str×Value)) :
  Env0 P w K mg base (A.under (.builtin "type.__call__" ⟨.ref C::us,kw⟩)) outer s H:=⟨by first | exact e.frames | (simpa [Around.under,Code.envs,Code.isFrame,pushEnvs] using e.frames),e.mod,e.bs,e.bsz,e.funs,e.frf,e.hok,e.bare⟩
section
variable {X:Cx}{σ:St}{H:Hp} 
def Inv.env0 (I:Inv X pins σ H s):Env0 X.prog X.w X.K X.mg X.base X.A X.stack s H:=
 ⟨I.ok.frames,I.ok.mod,I.bs,XV I.ok.bsz I.sz,I.stack,I.stkFree,I.hok,I.bare⟩
def Inv.after {Q:VK} (I:Inv X pins σ H s) (h:CE X.stack X.prog X.w H s Q u s'):EP X pins σ Q u s':=by
 obtain⟨v,H',os,bare,un,hok,r,q⟩:=h;obtain⟨hh,g,d,t,os'⟩:=s';obtain rfl:os'=s.os:=os;exact⟨v,H',I.call (h':=hh) (g':=g) (d':=d) (t':=t) (ch:=[]) un hok bare (fun b z=>absurd z (by simp)),r,q⟩
end
def QZ (sp:Sp) (dvs:List V) (E:XK) (t:TA):TE:=fun σ H Q=>t σ H fun vs H1=>sp (vs++dvs) H1 Q E
def Q0 (C:Addr) (m:Str) (sp:Sp) (dvs:List V) (E:XK) (ta:TE) (t:TA):TE:=fun σ H Q=>ta σ H fun x H1=>∃ a dx fs,x=.ref a/\H1 a=some (.ins C dx fs)/\fs.lookup m=none /\
 t σ H1 fun vs H2=>sp (x::(vs++dvs)) H2 Q E
def jaH (C:Addr) (sp:Sp) (dvs:List V) (E:XK) (t:TA):TE:=fun σ H Q=>t σ H fun vs H1=>∀ x dx,H1 x=none->H1 dx=none->dx≠x ->
 sp (.ref x::(vs++dvs)) (upd (upd H1 dx (.own x)) x (.ins C dx [])) (fun v H2=>v=.non/\Q (.ref x) H2) E
def Binds (K:W.Frag) (fd:FuncData) (ps:List Str) (ds:List Value):Prop:=
 ∀ (s:Shared) (us:List Value),K.In s.heap->(us++ds).length=ps.length->BindsTo s fd ⟨us,[]⟩ (ps.zip (us++ds))
def Binds.all (h:∀ us:List Value,us.length=ps.length->bindArgs fd ⟨us,[]⟩=pure (ps.zip us)):Binds K fd ps []:=fun s us _ hl=>by
 rw[List.append_nil] at hl ⊢;exact .of_eq (h us hl)
def Vo (CX:CXT) (X:Cx) (E:XK):Prop:=∀ (pins:List (Addr×Obj)) (σ:St) (H:Hp) (s:Shared) (e:Value) (s':Shared),Inv X pins σ H s->CX X.stack H s E e s'->X.xe e s'
section
variable {X:Cx}{CX:CXT}{k:Nat}{f:Addr}{sp:Sp}{dvs:List V}{ds:List Value}{E:XK}{m:Str}{p:Pos}{o:Expr}{ta:TE}{t:TA}
def jdt {σ:St}{H:Hp}{Q:VK}{vs:List V} (F:FnOk X.prog X.w X.K X.mg X.base CX k f fd ps sp) (hr:Room k X.A) (hb:Binds X.K fd ps ds) (hd:Vals dvs ds) (hx:Vo CX X E)
  (I:Inv X pins σ H s) (r:Vals vs us) (h:sp (vs++dvs) H Q E):wpAny (model X.prog X.w) X.A (call (.ref f) us) (EP X pins σ Q) X.xe s:=by
 have r2:Vals (vs++dvs) (us++ds):=r.append hd;have hl:(us++ds).length=ps.length:=by rw[<- r2.length]; exact F.len _ _ _ _ h
 refine wpAny_call (codeAny_mono (F.run X.A X.stack s H ⟨us,[]⟩ (us++ds) (vs++dvs) Q E hr I.env0 (hb s us I.kIn hl) r2 h) fun r s' hq=>?_);cases r with
 | error e=>exact hx pins σ H s e s' I hq
 | ok fl=>
  cases fl with
  | ret u=>exact I.after hq
  | next=>exact False.elim hq
  | brk=>exact False.elim hq
  | cont=>exact False.elim hq
def jki (F:FnOk X.prog X.w X.K X.mg X.base CX k f fd ps sp) (hr:Room k X.A) (hg:Gl X x) (hm:X.mg x=some (.ref f)) (hk:W.keepIn X.K (.ref f)=true) (hb:Binds X.K fd ps ds) (hd:Vals dvs ds) (hx:Vo CX X E)
  (ha:PA X (e::es) t) (hdb:(x==("__debug__":Str))=false:=by decide) (he:starEach (e::es) X.env=(false,eval e X.env)::starEach es X.env:=by rfl) (hpl:(backTo pos (starEach es X.env)).any (·.1)=false:=by rfl) :
  PE X (.Call (.Name x p) (e::es) [] pos) (QZ sp dvs E t):=by
 intro pins s σ H Q I h;refine wpAny_Call_Name_kw (UQ I hg hm ?_ hdb);refine W.callWith_K (h₀:=X.base) I.ok.mod.kin hk (thn (ha pos pins s σ H _ I h) fun us s1 ⟨vs,H1,I1,r,q⟩=>⟨I1.kIn,?_⟩) he hpl;exact jdt F hr hb hd hx I1 r q
def jkj (he:PE X o ta) (c:Cls X.K C) (hm:Meth X.K C m f) (F:FnOk X.prog X.w X.K X.mg X.base CX k f fd ps sp) (hr:Room k X.A) (hb:Binds X.K fd ps ds) (hd:Vals dvs ds) (hx:Vo CX X E) (ha:PA X (e::es) t)
  (hst:starEach (e::es) X.env=(false,eval e X.env)::starEach es X.env:=by rfl) (hpl:(backTo pos (starEach es X.env)).any (·.1)=false:=by rfl)
  (ht:eval (.Call (.Attribute o m apos) (e::es) [] pos) X.env=(do
   let ov <- eval o X.env
   standAt apos.atName
   let (f,first) <- holding [ov] (getMethod ov m pl)
   callWith pos f first (backTo pos (starEach (e::es) X.env)) (backToKw pos (keywordEach [] X.env))):=by rfl) :
  PE X (.Call (.Attribute o m apos) (e::es) [] pos) (Q0 C m sp dvs E ta t):=by
 intro pins s σ H Q I h;refine W.methodCall_KW (pl:=pl) (thn (he pins s σ H _ I h) fun u s1 ⟨x,H1,I1,rx,a,dx,fs,ex,ea,l,q⟩=>?_) ht;subst ex;obtain rfl:u=Value.ref a:=rx;refine Ym I1 ea c hm l ?_;refine W.callWith_K (first:=[.ref a]) (h₀:=X.base) I.ok.mod.kin hm.kp (thn (ha pos pins s1 σ H1 _ I1 q) fun us s2 ⟨vs,H2,I2,r,q2⟩=>⟨I2.kIn,?_⟩) hst hpl;exact jdt (us:=.ref a::us) (vs:=.ref a::vs) F hr hb hd hx I2 (.cons rfl r) q2
def jhW (he:PE X o ta) (c:Cls X.K C) (hm:Meth X.K C m f) (F:FnOk X.prog X.w X.K X.mg X.base CX k f fd ps sp) (hr:Room k X.A) (hb:Binds X.K fd ps ds) (hd:Vals dvs ds) (hx:Vo CX X E)
  (ht:eval (.Call (.Attribute o m apos) [] [] pos) X.env=(do
   let ov <- eval o X.env
   standAt apos.atName
   let (f,first) <- holding [ov] (getMethod ov m pl)
   callWith pos f first (backTo pos (starEach [] X.env)) (backToKw pos (keywordEach [] X.env))):=by rfl) :
  PE X (.Call (.Attribute o m apos) [] [] pos) (Q0 C m sp dvs E ta xq):=by
 intro pins s σ H Q I h;refine W.methodCall_KW (pl:=pl) (thn (he pins s σ H _ I h) fun u s1 ⟨x,H1,I1,rx,a,dx,fs,ex,ea,l,q⟩=>?_) ht;subst ex;obtain rfl:u=Value.ref a:=rx;refine Ym I1 ea c hm l ?_;exact W.callWith_K0 (first:=[.ref a]) I1.kIn hm.kp (jdt (us:=[.ref a]) (vs:=[.ref a]) F hr hb hd hx I1 (.cons rfl .nil) q)
structure Mk (K:W.Frag) (C f:Addr):Prop where
 makes:W.makesIn K C=true
 init:W.findIn K (.ref C) "__init__"=some (some (.ref f))
 fn:W.isFn K (.ref f)=true
 kp:W.keepIn K (.ref C)=true
def jdu {σ:St}{H:Hp}{Q:VK}{vs:List V} (M:Mk X.K C f) (F:FnOk X.prog X.w X.K X.mg X.base CX k f fd ps sp) (hr:Room (k+1) X.A) (hb:Binds X.K fd ps ds) (hd:Vals dvs ds)
  (hx:Vo CX X E) (I:Inv X pins σ H s) (r:Vals vs us)
  (h:∀ x dx,H x=none->H dx=none->dx≠x->sp (.ref x::(vs++dvs)) (upd (upd H dx (.own x)) x (.ins C dx [])) (fun v H2=>v=.non/\Q (.ref x) H2) E) :
  wpAny (model X.prog X.w) X.A (call (.ref C) us) (EP X pins σ Q) X.xe s:=by
 have hq:=h (s.heap.objs.size+1) s.heap.objs.size (I.hok.fresh (Nat.le_succ _)) (I.hok.fresh (Xe _)) (XO (Nat.lt_succ_self _));have I2:=Inv.made (C:=C) I;have r2:Vals (V.ref (s.heap.objs.size+1)::(vs++dvs)) (Value.ref (s.heap.objs.size+1)::(us++ds)):=.cons rfl (r.append hd);have hl:(Value.ref (s.heap.objs.size+1)::us++ds).length=ps.length:=by
  have e:=r2.length;rw[F.len _ _ _ _ hq] at e;exact e.symm
 refine wpAny_call (jhV (f:=f) I.kIn M.makes M.init (beq_iff_eq.mp M.fn) (codeAny_mono (F.run _ X.stack _ _ ⟨Value.ref (s.heap.objs.size+1)::us,[]⟩ (Value.ref (s.heap.objs.size+1)::(us++ds)) _ _ E (hr.make C us [])
  (I2.env0.make C us []) (hb _ (Value.ref (s.heap.objs.size+1)::us) I2.kIn hl) r2 hq) fun r s' hq'=>?_))
 cases r with
 | error e=>exact hx pins σ _ _ e s' I2 hq'
 | ok fl=>
  cases fl with
  | ret u=>
   obtain⟨v,H',I3,rv,ev,q3⟩:=I2.after hq';subst ev;exact⟨rv,⟨V.ref (s.heap.objs.size+1),H',I3,rfl,q3⟩⟩
  | next=>exact False.elim hq'
  | brk=>exact False.elim hq'
  | cont=>exact False.elim hq'
def jkk (M:Mk X.K C f) (F:FnOk X.prog X.w X.K X.mg X.base CX k f fd ps sp) (hr:Room (k+1) X.A) (hg:Gl X x) (hm:X.mg x=some (.ref C)) (hb:Binds X.K fd ps ds) (hd:Vals dvs ds) (hx:Vo CX X E)
  (ha:PA X (e::es) t) (hdb:(x==("__debug__":Str))=false:=by decide) (he:starEach (e::es) X.env=(false,eval e X.env)::starEach es X.env:=by rfl) (hpl:(backTo pos (starEach es X.env)).any (·.1)=false:=by rfl) :
  PE X (.Call (.Name x p) (e::es) [] pos) (jaH C sp dvs E t):=by
 intro pins s σ H Q I h;refine wpAny_Call_Name_kw (UQ I hg hm ?_ hdb);refine W.callWith_K (h₀:=X.base) I.ok.mod.kin M.kp (thn (ha pos pins s σ H _ I h) fun us s1 ⟨vs,H1,I1,r,q⟩=>⟨I1.kIn,?_⟩) he hpl;exact jdu M F hr hb hd hx I1 r q
def jhX (M:Mk X.K C f) (F:FnOk X.prog X.w X.K X.mg X.base CX k f fd ps sp) (hr:Room (k+1) X.A) (hg:Gl X x) (hm:X.mg x=some (.ref C)) (hb:Binds X.K fd ps ds) (hd:Vals dvs ds) (hx:Vo CX X E)
  (hdb:(x==("__debug__":Str))=false:=by decide):PE X (.Call (.Name x p) [] [] pos) (jaH C sp dvs E xq):=by
 intro pins s σ H Q I h;refine wpAny_Call_Name_kw (UQ I hg hm ?_ hdb);exact W.callWith_K0 I.kIn M.kp (jdu (us:=[]) M F hr hb hd hx I .nil h)
end
structure FnScope (N P:List Str) (sc:Scope):Prop where
 kind:sc.kind=.function
 co:sc.isCoroutine=false
 gen:sc.isGenerator=false
 nd:N.Nodup
 pre:N.take P.length=P
 par:∀ x∈P,sc.names.lookup x=some .local \/ sc.names.lookup x=some .cell
 nofree:∀ y∈sc.names,y.2≠.free
def jaI:∀ {binds:List (Str×Value)}{m:Str->Option Value},(∀ v,(x,v)∉binds)->bindL kindOf binds m x=m x
 | [],_,_=>rfl
 | (n,v)::r,m,h=>by
  unfold bindL;rw[jaI fun w hw=>h w (Xn _ hw)];split
  ·have:x≠n:=by rintro rfl; exact h v Xo
   simp[this]
  ·rfl
def jaJ:∀ {binds:List (Str×Value)}{m:Str->Option Value},(∀ v,(x,v)∉binds)->bindC kindOf binds m x=m x
 | [],_,_=>rfl
 | (n,v)::r,m,h=>by
  unfold bindC;rw[jaJ fun w hw=>h w (Xn _ hw)];split
  ·rfl
  ·have:x≠n:=by rintro rfl; exact h v Xo
   simp[this]
def jaK {kindOf:Str->Option NameKind}{x:Str}{v:Value}:∀ {P:List Str}{vs:List Value}{i:Nat}{m:Str->Option Value},P.Nodup->P[i]?=some x->vs[i]?=some v->kindOf x=some .local ->
  bindL kindOf (P.zip vs) m x=some v
 | [],_,_,_,_,h,_,_=>by simp at h
 | _::_,[],_,_,_,_,h,_=>by simp at h
 | p::P,w::vs,0,m,nd,h1,h2,hk=>by
  simp at h1 h2; subst h1; subst h2;show bindL kindOf ((p,w)::P.zip vs) m p=_;unfold bindL;rw[jaI fun v hv=>(List.nodup_cons.mp nd).1 (List.of_mem_zip hv).1,if_pos hk];simp
 | p::P,w::vs,i+1,m,nd,h1,h2,hk=>by
  show bindL kindOf ((p,w)::P.zip vs) m x=_;unfold bindL;exact jaK (i:=i) (List.nodup_cons.mp nd).2 (by simpa using h1) (by simpa using h2) hk
def jaL {kindOf:Str->Option NameKind}{x:Str}{v:Value}:∀ {P:List Str}{vs:List Value}{i:Nat}{m:Str->Option Value},P.Nodup->P[i]?=some x->vs[i]?=some v->kindOf x≠some .local ->
  bindC kindOf (P.zip vs) m x=some v
 | [],_,_,_,_,h,_,_=>by simp at h
 | _::_,[],_,_,_,_,h,_=>by simp at h
 | p::P,w::vs,0,m,nd,h1,h2,hk=>by
  simp at h1 h2; subst h1; subst h2;show bindC kindOf ((p,w)::P.zip vs) m p=_;unfold bindC;rw[jaJ fun v hv=>(List.nodup_cons.mp nd).1 (List.of_mem_zip hv).1,if_neg hk];simp
 | p::P,w::vs,i+1,m,nd,h1,h2,hk=>by
  show bindC kindOf ((p,w)::P.zip vs) m x=_;unfold bindC;exact jaL (i:=i) (List.nodup_cons.mp nd).2 (by simpa using h1) (by simpa using h2) hk
def GV (N:List Str) (vs:List V):St:=vs.map some++List.replicate (N.length-vs.length) none
def jfG (CX:CXT) (P:Program) (w:World) (K:W.Frag) (mg:Str->Option Value) (base:Heap) (N:List Str) (qual:Str) (scope:Scope) (f:Addr) (cd:Value) (A:Around) (outer:List Env) (s:Shared) (H:Hp) (E:XK):Cx where
 prog:=P
 w:=w
 K:=K
 mg:=mg
 base:=base
 A:=A.deeper (envOfC qual scope s.heap.objs.size f cd)
 N:=N
 s₀:=s
 H₀:=H
 env:=envOfC qual scope s.heap.objs.size f cd
 outer:=outer
 stack:=envOfC qual scope s.heap.objs.size f cd::outer
 ex:=[]
 calm:=true
 fn:=fun _=>true
 pn:=[]
 xe:=fun e s'=>wpAny (model P w) (A.deeper (envOfC qual scope s.heap.objs.size f cd)) (leaving (envOfC qual scope s.heap.objs.size f cd) e) (fun _ s''=>CX outer H s E e s'') (fun e' s''=>CX outer H s E e' s'') s'
def jdv (h:sc.names.lookup x=some .cell):∃ c,(cellsFrom n sc.names []).lookup x=some c:=by
 have q:=W.cellsFrom_some sc.names n [] (.inl h);exact Option.isSome_iff_exists.mp q
def jfH {CX:CXT}{f:Addr}{cd:Value}{s1:Shared}{H:Hp}{E:XK}{vs:List V}
  (S:FnScope N ps scope) (hd:A.handled=none) (e0:Env0 P w K mg base A outer s H) (hl:vs.length=ps.length) (r:Vals vs us)
  (x:InCallC s s.heap.objs.size (bindL (envOfC qual scope s.heap.objs.size f cd).kindOf (ps.zip us) fun _=>none) (cellsFrom (s.heap.objs.size+1) scope.names []) (bindC (envOfC qual scope s.heap.objs.size f cd).kindOf (ps.zip us) fun _=>none) s1) :
  Inv (jfG CX P w K mg base N qual scope f cd A outer s H E) [] (GV N vs) H s1:=by
 have hpl:ps.length<=N.length:=by have:=congrArg List.length S.pre; rw[List.length_take] at this; omega
 obtain⟨h1,tk,rfl,hk⟩:=x.done;have noA:∀ b:Addr,b∉(jfG CX P w K mg base N qual scope f cd A outer s H E).ex:=fun b z=>absurd (show b∈([]:List Addr) from z) (by simp);refine⟨⟨e0.mod,S.kind,rfl,rfl,Xe _,fun y z c h1 h2=>?_,fun y hy=>?_,fun y c _ h=>?_,fun _=>hd,Around.frames_deeper e0.frames,.inr ⟨rfl,rfl⟩,fun b z=>absurd z (noA b),e0.bs,e0.bsz,fun b _ _=>noA b,fun b z=>absurd z (noA b),e0.funs,e0.frf⟩,
  rfl,e0.bare,Un.kept hk,⟨_,x.toInCall.ns,fun i y v h1 h2 h3=>?_⟩,fun y c h=>⟨_,x.cell y c h⟩,e0.hok.fresh (Xe _),fun y c h=>?_,fun p hp=>absurd (show p∈([]:List (Addr×Obj)) from hp) (by simp),e0.hok.kept hk,?_⟩
 ·exact name_of_addr x.apart (X0 h1) (X0 h2)
 ·have hy:scope.names.lookup y=some .cell \/ scope.names.lookup y=some .free:=hy;rcases hy with hy | hy
  ·exact jdv hy
  ·exact absurd rfl (S.nofree _ (X0 hy))
 ·exact Nat.le_of_lt (x.above y c (X0 h))
 ·have hi:i<vs.length:=by
   unfold GV at h2;by_cases hi:i<vs.length
   ·exact hi
   ·rw[List.getElem?_append_right (by simpa using hi)] at h2;rw[List.getElem?_replicate] at h2;split at h2 <;> cases h2
  have ha:vs[i]?=some v:=by
   unfold GV at h2;rw[List.getElem?_append_left (by simpa using hi),Xw] at h2;cases e:vs[i]? with
   | none=>rw[e] at h2; cases h2
   | some a=>rw[e] at h2; cases h2; rfl
  obtain⟨u,hu,rv⟩:=r.get ha;have hp:ps[i]?=some y:=by
   rw[<- S.pre,List.getElem?_take_of_lt (by omega)]; exact h1
  have ndP:ps.Nodup:=by rw[<- S.pre]; exact S.nd.sublist (List.take_sublist _ _)
  refine⟨u,rv,?_⟩;rcases S.par y (List.mem_of_getElem? hp) with k | k
  ·exact .inl ⟨k,jaK ndP hp hu k⟩
  ·obtain⟨c,e⟩:=jdv (n:=s.heap.objs.size+1) k;refine .inr ⟨.inl k,c,e,?_⟩;have q:=x.cell y c e;rw[jaL ndP hp hu (by show scope.names.lookup y≠_; rw[k]; decide)] at q;exact q
 ·exact e0.hok.fresh (Nat.le_of_lt (x.above y c (X0 h)))
 ·unfold GV;show _=N.length;rw[XE,Xj,List.length_replicate];omega
def jl7 {CX:CXT}{k:Nat}{f:Addr}{params:Arguments}{dV kV ct:Value} 
  {sp:Sp} (lk:K.lookup f=some ⟨oc,od,.func (W.fnOf name qual params body scope dV kV doc pm an cdv ct),osl⟩) (hcd:W.codeIn K cdv qual=true) (S:FnScope N ps scope)
  (len:∀ vs H Q E,sp vs H Q E->vs.length=ps.length)
  (hbody:∀ (A:Around) (outer:List Env) (s:Shared) (H:Hp) (vs:List V) (Q:VK) (E:XK),Room k (A.deeper (envOfC qual scope s.heap.objs.size f cdv))->sp vs H Q E ->
   ∃ t,PSs (jfG CX P w K mg base N qual scope f cdv A outer s H E) body t/\t { nx:=fun _ H'=>Q .non H',rt:=Q } (GV N vs) H) :
  FnOk P w K mg base CX (k+1) f (W.fnOf name qual params body scope dV kV doc pm an cdv ct) ps sp:=by
 refine⟨len,fun A outer s H args us vs Q E hr e0 hb r hsp=>?_⟩;have hl:=len _ _ _ _ hsp;have KX:K.In s.heap:=e0.mod.kin.keeps fun b o e=>(e0.bs b o e).1;have lim:s.heap.NoLimit:=e0.mod.nolimit.keeps fun b o e=>(e0.bs b o e).1;have hkind:∀ y∈ps.zip us,scope.names.lookup y.1=some .local \/ (scope.names.lookup y.1=some .cell/\((cellsFrom (s.heap.objs.size+1) scope.names []).lookup y.1).isSome=true):=fun⟨n,v⟩ hy=>by
  rcases S.par n (List.of_mem_zip hy).1 with q | q
  ·exact .inl q
  ·exact .inr ⟨q,W.cellsFrom_some _ _ _ (.inl q)⟩
 refine codeAny_call_function hr.depth (KX _ _ lk) rfl S.co S.gen rfl (W.codeRec_of KX hcd) (hb _ _ _ _ ?_);refine wpAny_newFunctionEnv_cells S.kind hkind fun env he s1 x=>?_;subst he;refine⟨lim.keeps x.toInCall.keep,codeAny_func ?_⟩;obtain⟨t,ht,hq⟩:=hbody A outer s H vs Q E (hr.deeper _) hsp;have I:Inv (jfG CX P w K mg base N qual scope f cdv A outer s H E) [] (GV N vs) H s1:=jfH S hr.hd e0 hl r x;refine wb (ht [] s1 (GV N vs) H _ I hq) (fun fl s' hs=>?_) fun e s' hs=>hs;have fin:∀ {σ':St}{H':Hp}{v:V}{u:Value},Inv (jfG CX P w K mg base N qual scope f cdv A outer s H E) [] σ' H' s'->RelV v u->Q v H'->CE outer P w H s Q u s':=
  fun {σ' H' v u} J rv q=>⟨v,H',J.os,J.bare,J.base,J.hok,rv,q⟩
 cases fl with
 | ret u=>
  obtain⟨v,σ',H',J,rv,q⟩:=hs;exact fin J rv q
 | next=>
  obtain⟨σ',H',J,q⟩:=hs;exact fin (v:=V.non) (u:=Value.none) J rfl q
 | brk=>
  obtain⟨_,_,_,q⟩:=hs;exact False.elim q
 | cont=>
  obtain⟨_,_,_,q⟩:=hs;exact False.elim q
section
variable {X:Cx}{p:Pos}{t:TA}{id:String}{r:List V->Hp->VK->Prop}
def tCB (r:List V->Hp->VK->Prop) (t:TA):TE:=fun σ H Q=>t σ H fun vs H1=>r vs H1 Q
def jhY (hc:GS X (.builtin id) r) (hg:Gl X x) (hm:X.mg x=none) (hv:bootBuiltins x=some (.builtin id)) (ha:PA X (e::es) t) (hn:x≠"__name__":=by decide) (hdb:(x==("__debug__":Str))=false:=by decide)
  (he:starEach (e::es) X.env=(false,eval e X.env)::starEach es X.env:=by rfl) (hpl:(backTo pos (starEach es X.env)).any (·.1)=false:=by rfl):PE X (.Call (.Name x p) (e::es) [] pos) (tCB r t):=by
 intro pins s σ H Q I h;refine wpAny_Call_Name_kw (JM I hg hm hv ?_ hn hdb);exact PyProof.Rows.callWith_builtin1 (thn (ha pos pins s σ H _ I h) fun us s1 ⟨vs,H1,I1,r1,q1⟩=>hc pins s1 σ H1 vs us Q I1 r1 q1) he hpl
def jfI (hc:GS X (.type T) r) (hg:Gl X x) (hm:X.mg x=none) (hv:bootBuiltins x=some (.type T)) (ha:PA X (e::es) t) (hn:x≠"__name__":=by decide) (hdb:(x==("__debug__":Str))=false:=by decide)
  (he:starEach (e::es) X.env=(false,eval e X.env)::starEach es X.env:=by rfl) (hpl:(backTo pos (starEach es X.env)).any (·.1)=false:=by rfl):PE X (.Call (.Name x p) (e::es) [] pos) (tCB r t):=by
 intro pins s σ H Q I h;refine wpAny_Call_Name_kw (JM I hg hm hv ?_ hn hdb);exact XA (thn (ha pos pins s σ H _ I h) fun us s1 ⟨vs,H1,I1,r1,q1⟩=>hc pins s1 σ H1 vs us Q I1 r1 q1) he hpl
end
end L2
variable {σ fr:L2.St}{xs ys:List L2.V}{H H' H1 F1 Fe He F':L2.Hp}{ks:List L2.Key}{X:L2.Cx}{v:L2.V}{ta tb te tc tv td t1 t2 t3 ty:L2.TE}{D:L2.Ends}{wi:L2.TI}{sp:L2.Sp}{J:L2.It}{tr:L2.TA}{G:L2.Hp->L2.Hp->Prop}{u':L2.TS}{kvs:List (List L2.Key×L2.V)}{L:List (PySem.Str×L2.Sp)}
namespace HT
open PySem PyProof.Rows
section
def cat_tup {t b:Addr}{ws:List Value} (ht:IsTup s.heap t vs.toArray) (hb:IsTup s.heap b ws.toArray) (hv:vs≠[])
  (h1:ws=[]->Q (.ref t) s) (h2:ws≠[]->Q (.ref s.heap.objs.size) { s with heap:=s.heap.push { cls:=.type "tuple",data:=.seq (vs++ws).toArray } })
  (hsz:vs.length+ws.length<=sizeLine):wpAny (model prog w) A (binaryOp .Add (.ref t) (.ref b)) Q E s:=by
 obtain⟨⟨cls,dd,data,sl⟩,ho,hc,n,hd⟩:=id ht;obtain⟨⟨cls2,dd2,data2,sl2⟩,ho2,hc2,n2,hd2⟩:=id hb;simp only at hc hd hc2 hd2;subst hc hd hc2 hd2;have e:vs.toArray++ws.toArray=(vs++ws).toArray:=by simp
 by_cases hw:ws=[]
 ·exact concat_meets ⟨_,ho,rfl⟩ ⟨_,ho2,rfl⟩ noFill_tuple_add seq_tuple_add PySem.F.slot_tuple_add PySem.F.entry_tuple_add (PySem.F.args_tuple_add_2 _ _)
   (tuple_addW1 t b vs.toArray ws.toArray n n2 dd dd2 sl sl2 (by simpa using hv) (by simp[hw])) ⟨ho,ho2,h1 hw⟩
 ·refine concat_meets ⟨_,ho,rfl⟩ ⟨_,ho2,rfl⟩ noFill_tuple_add seq_tuple_add PySem.F.slot_tuple_add PySem.F.entry_tuple_add (PySem.F.args_tuple_add_2 _ _)
   (tuple_addW2 t b vs.toArray ws.toArray n n2 dd dd2 sl sl2 (by simpa using hv) (by simpa using hw) (by rw[List.size_toArray,List.size_toArray]; exact hsz)) ⟨ho,ho2,?_⟩
  rw[e];exact h2 hw
def sIx (n d:Nat):Option Int->Nat
 | none=>d
 | some v=>if v<0 then (v+(n:Int)).toNat else min v.toNat n
def jl8 (n d:Nat) (hd:d<=n) (o:Option Int):sIx n d o<=n:=by
 cases o with
 | none=>exact hd
 | some v=>
  show (if v<0 then (v+(n:Int)).toNat else min v.toNat n)<=n;by_cases hv:v<0
  ·rw[if_pos hv]; omega
  ·rw[if_neg hv]; exact Nat.min_le_right _ _
def jfJ (v:Int) (n d:Nat):(if v<0 then max (v+(n:Int)) 0 else min v (n:Int))=((sIx n d (some v):Nat):Int):=by
 show (if v<0 then max (v+(n:Int)) 0 else min v (n:Int))=(((if v<0 then (v+(n:Int)).toNat else min v.toNat n):Nat):Int);by_cases hv:v<0
 ·simp only[if_pos hv]; omega
 ·simp only[if_neg hv]; omega
def jet (lo hi:Option Int) (n:Nat):Builtin.Slice.sliceAdjust lo hi 1 (n:Int)=(((sIx n 0 lo:Nat):Int),((sIx n n hi:Nat):Int)):=by
 have h1:¬ ((1:Int)<0):=by omega
 unfold Builtin.Slice.sliceAdjust;simp only[h1,if_false];refine Prod.ext ?_ ?_
 ·cases lo with
  | none=>rfl
  | some v=>exact jfJ v n 0
 ·cases hi with
  | none=>rfl
  | some v=>exact jfJ v n n
def jeu (i j:Nat):Builtin.Slice.slicePlaces (i:Int) (j:Int) 1=j-i:=by
 unfold Builtin.Slice.slicePlaces;have h1:(1:Int) > 0:=by omega
 simp only[h1,if_true,Int.ediv_one];split <;> omega
def Yn {v:Value}{o:Option Int}{Q:Option Int->Shared->Prop} (p:IsPart v o) (h:Q o s):wpAny (model prog w) A (Builtin.Slice.slicePartIndex v) Q E s:=by
 cases p with
 | none=>exact slicePart_none h
 | int i t=>exact slicePart_int h
def JE {Q:Int×Int×Nat->Shared->Prop} (hs:s.heap.IsSliceOf sl vl vu .none) (pl:IsPart vl lo) (pu:IsPart vu hi)
  (h:Q (((sIx n 0 lo:Nat):Int),1,sIx n n hi-sIx n 0 lo) s):wpAny (model prog w) A (Builtin.Slice.sliceApplied (.ref sl) (pure (n:Int))) Q E s:=by
 obtain⟨os,hos,hcs,hds⟩:=id hs;unfold Builtin.Slice.sliceApplied Builtin.Slice.sliceFields;refine wpAny_bind (wpAny_bind (wpAny_field hos hds (x:=vl) rfl (wpAny_bind (wpAny_field hos hds (x:=vu) rfl (wpAny_bind (wpAny_field hos hds (x:=.none) rfl (wpAny_pure ?_)))))));refine wpAny_bind (slicePart_none ?_);show wpAny _ _ (if ((1:Int)==0)=true then _ else _) _ _ s;rw[if_neg (by decide)];refine wpAny_bind (Yn pl (wpAny_bind (Yn pu (wpAny_bind (wpAny_pure ?_)))));show wpAny _ _ (match Builtin.Slice.sliceAdjust lo hi 1 (n:Int) with | (lo,hi)=>pure (lo,(1:Int),Builtin.Slice.slicePlaces lo hi 1)) _ _ s
 rw[jet lo hi n];show wpAny _ _ (pure (((sIx n 0 lo:Nat):Int),(1:Int),Builtin.Slice.slicePlaces ((sIx n 0 lo:Nat):Int) ((sIx n n hi:Nat):Int) 1)) _ _ s;rw[jeu];exact wpAny_pure h
def jhZ (xs:Array Value) (i k:Nat):((List.range k).filterMap fun (m:Nat)=>xs[((i:Int)+(m:Int) * 1).toNat]?).toArray=((xs.toList.drop i).take k).toArray:=by
 have e:(fun (m:Nat)=>xs[((i:Int)+(m:Int) * 1).toNat]?)=fun m=>xs[i+m]?:=by
  funext m
  have:((i:Int)+(m:Int) * 1).toNat=i+m:=by omega
  rw[this]
 rw[e];have:=pick_run xs i k;rw[List.filterMap_map] at this;have e2:((fun x=>xs[x]?) ∘ fun x=>i+x)=fun m=>xs[i+m]?:=rfl;rw[e2] at this;rw[this]
def getItem_tuple_cut {t:Addr} (ht:IsTup s.heap t items) (hs:s.heap.IsSliceOf sl vl vu .none) (pl:IsPart vl lo) (pu:IsPart vu hi)
  (hw:¬ (sIx items.size 0 lo=0/\sIx items.size items.size hi=items.size))
  (h:Q (.ref s.heap.objs.size) { s with heap:=s.heap.push { cls:=.type "tuple",data:=.seq ((items.toList.drop (sIx items.size 0 lo)).take (sIx items.size items.size hi-sIx items.size 0 lo)).toArray } })
  (hsz:items.size<=sizeLine):wpAny (model prog w) A (getItem (.ref t) (.ref sl)) Q E s:=by
 have htake:sizeOk (.seq ((items.toList.drop (sIx items.size 0 lo)).take (sIx items.size items.size hi-sIx items.size 0 lo)).toArray):=by
  show ((items.toList.drop (sIx items.size 0 lo)).take (sIx items.size items.size hi-sIx items.size 0 lo)).toArray.size<=sizeLine;rw[List.size_toArray,List.length_take,List.length_drop,Array.length_toList];omega
 have hj:sIx items.size items.size hi<=items.size:=jl8 _ _ (Nat.le_refl _) hi;obtain⟨os,hos,hcs,hds⟩:=id hs;have hTs:s.TypeIs (.ref sl) "slice":=⟨os,hos,hcs⟩;unfold getItem
 try with_reducible refine wpAny_holding ?_
 first | refine wpAny_bind (wpAny_pure ?_) | skip
 refine wpAny_bind (wpAny_sequenceKey ht.typeIs (by decide) ?_);refine wpAny_bind (wpAny_callSpecial?_slot (name:=Str.ofString "__getitem__") ht.typeIs PyProof.Rows.slot_tuple_getitem
  (wpAny_call_entry PyProof.Rows.slot_tuple_getitem ht.typeIs entry_tuple_getitem ?_ (args_tuple_getitem _ _)))
 show wpAny _ _ (Builtin.Tuple.tupleItemsOf (.ref t) >>= _) _ _ s;refine wpAny_bind (tupleItemsOf_ ht ?_);refine wpAny_bind (wpAny_typeOf hTs ?_);rw[if_pos (by decide)];refine wpAny_bind (JE hs pl pu ?_);have hno:¬ ((((sIx items.size 0 lo:Nat):Int)==0&&(1:Int)==1&&(sIx items.size items.size hi-sIx items.size 0 lo)==items.size)=true):=by
  intro q;rw[Bool.and_eq_true,Bool.and_eq_true] at q;have q1:((sIx items.size 0 lo:Nat):Int)=0:=eq_of_beq q.1.1;have q2:sIx items.size items.size hi-sIx items.size 0 lo=items.size:=eq_of_beq q.2;exact hw ⟨by omega,by omega⟩
 show wpAny _ _ (if (((sIx items.size 0 lo:Nat):Int)==0&&(1:Int)==1&&(sIx items.size items.size hi-sIx items.size 0 lo)==items.size)=true then _ else _) _ _ s;rw[if_neg hno,jhZ]
 first
  | exact wpAny_bind (m:=Builtin.Tuple.tupleExact _) (wpAny_newObj_type (wpAny_pure ⟨_,rfl,wpAny_pure h⟩) htake)
  | exact wpAny_bind (m:=Builtin.Tuple.tupleExact _) (wpAny_newObj_type (wpAny_bind (wpAny_pure (wpAny_pure ⟨_,rfl,wpAny_pure h⟩))) htake)
  | exact wpAny_bind (wpAny_bind (m:=Builtin.Tuple.tupleExact _) (wpAny_newObj_type (wpAny_pure (wpAny_pure ⟨_,rfl,wpAny_pure h⟩)) htake))
  | exact wpAny_bind (wpAny_bind (m:=Builtin.Tuple.tupleExact _) (wpAny_newObj_type (wpAny_pure ⟨_,rfl,wpAny_pure h⟩) htake))
end
end HT
namespace L2
open PySem PySem.Spec PyProof.Rows
abbrev TO:=St->Hp->(Option Int->Hp->Prop)->Prop
def PO (X:Cx) (e:Option Expr) (t:TO):Prop:=
 ∀ (pins:List (Addr×Obj)) (s:Shared) (σ:St) (H:Hp) (Q:Option Int->Hp->Prop),Inv X pins σ H s->t σ H Q ->
  wpAny (model X.prog X.w) X.A (evalPart e X.env) (fun u s'=>∃ o H',Inv X pins σ H' s'/\IsPart u o/\Q o H') X.xe s
def jfK:TO:=fun _ H Q=>Q none H
def jh0 (t:TE):TO:=fun σ H Q=>t σ H fun x H1=>∃ i,x=.int i/\Q (some i) H1
def Qt:∀ {us:List Value},Vals (ns.map V.int) us->IntsAre us ns:=by
 induction ns with
 | nil=>intro us r; rw[List.map_nil] at r; cases r; exact .nil
 | cons n ns ih=>
  intro us r;rw[Xp] at r;cases r with
  | cons r1 r2=>
   obtain⟨t,e⟩:=r1;subst e;exact .cons n t (ih r2)
section
variable {lo hi:Option Expr}{tl th:TO} 
def GE:PO X none jfK:=by
 intro pins s σ H Q I h;rw[evalPart_none];exact Xb ⟨none,H,I,.none,h⟩
def GF (h:PE X e te):PO X (some e) (jh0 te):=by
 intro pins s σ H Q I hw;rw[evalPart_some];refine thn (h pins s σ H _ I hw) fun u s1 ⟨x,H1,I1,r1,q1⟩=>?_;obtain⟨i,rfl,q⟩:=q1;obtain⟨t,rfl⟩:=r1;exact⟨some i,H1,I1,.int i t,q⟩
def SlR (X:Cx) (r:V->Option Int->Option Int->Hp->VK->Prop):Prop:=
 ∀ (pins:List (Addr×Obj)) (s:Shared) (σ:St) (H:Hp) (x:V) (v vl vu:Value) (lo hi:Option Int) (sl:Addr) (Q:VK),Inv X pins σ H s->RelV x v->s.heap.IsSliceOf sl vl vu .none->IsPart vl lo->IsPart vu hi->r x lo hi H Q ->
  ∃ T id,typeLookup (.type T) "__getitem__"=pure (some (.builtin id))/\s.TypeIs v T/\wpAny (model X.prog X.w) X.A (getItem v (.ref sl)) (EP X pins σ Q) X.xe s
def tSl (r:V->Option Int->Option Int->Hp->VK->Prop) (te:TE) (tl th:TO):TE:=fun σ H Q=>te σ H fun x H1=>tl σ H1 fun l H2=>th σ H2 fun u H3=>r x l u H3 Q
def zp {r:V->Option Int->Option Int->Hp->VK->Prop} (hr:SlR X r) (he:PE X e te) (hl:PO X lo tl) (hu:PO X hi th):PE X (.Subscript e (.Slice lo hi none p2) pos) (tSl r te tl th):=by
 intro pins s σ H Q I h;refine Subscript_ (thn (he pins s σ H _ I h) fun v s1 ⟨x,H1,I1,r1,q1⟩=>?_);refine wpAny_Slice (thn (hl pins s1 σ H1 _ I1 q1) fun vl s2 ⟨l,H2,I2,pl,q2⟩=>thn (hu pins s2 σ H2 _ I2 q2) fun vu s3 ⟨u,H3,I3,pu,q3⟩=>?_);rw[evalPart_none];refine Xb ?_;have I4:Inv X pins σ H3 { s3 with heap:=s3.heap.push { cls:=.type "slice",data:=.fields #[vl,vu,.none] } }:=I3.kept (t':=s3.toks) fun b ob q=>Xd _ q
 obtain⟨T,id,hT,ht,hg⟩:=hr pins { s3 with heap:=s3.heap.push { cls:=.type "slice",data:=.fields #[vl,vu,.none] } } σ H3 x v vl vu l u s3.heap.objs.size Q I4 r1 (Heap.IsSliceOf.new ..) pl pu q3
 show wpAny (model X.prog X.w) X.A (subscriptTail e (.Slice lo hi none p2) v (.ref s3.heap.objs.size)) (EP X pins σ Q) X.xe { s3 with heap:=s3.heap.push { cls:=.type "slice",data:=.fields #[vl,vu,.none] } }
 exact tail_any (ops:=[.ref s3.heap.objs.size,v]) ht hT hg (by with_unfolding_all rfl)
def jh1 (xs:List V) (lo hi:Option Int):List V:=(xs.drop (HT.sIx xs.length 0 lo)).take (HT.sIx xs.length xs.length hi-HT.sIx xs.length 0 lo)
def VZ (xs:List V) (lo hi:Option Int):(jh1 xs lo hi).length<=xs.length:=by
 unfold jh1;rw[List.length_take,List.length_drop];omega
def joF (K:W.Frag):V->Option Int->Option Int->Hp->VK->Prop:=fun x lo hi H Q=>∃ a xs,x=.ref a/\SqT K H a xs /\
 ¬ (HT.sIx xs.length 0 lo=0/\HT.sIx xs.length xs.length hi=xs.length)/\∀ p,H p=none->Q (.ref p) (upd H p (.tup (jh1 xs lo hi)))
def jl9:SlR X (joF X.K):=by
 intro pins s σ H x v vl vu lo hi sl Q I rx hs pl pu h;obtain⟨a,xs,rfl,hx,hw,q⟩:=h;cases rx;obtain⟨its,r,ht,hz⟩:=I.tuple hx;have hlen:its.toArray.size=xs.length:=by rw[Xg]; exact r.length.symm
 refine⟨"tuple",_,PyProof.Rows.slot_tuple_getitem.lookup,ht.typeIs,?_⟩;refine HT.getItem_tuple_cut ht hs pl pu (by rw[hlen]; exact hw) ?_ (by rw[hlen]; exact hz);rw[hlen];refine⟨.ref s.heap.objs.size,_,I.laid (t':=s.toks) (o:=.tup (jh1 xs lo hi)) (fun b ob q=>Xd _ q) (Xe _) ?_,rfl,q _ (I.hok.fresh (Xe _))⟩;exact⟨XV (VZ xs lo hi) hz,_,(r.drop (HT.sIx xs.length 0 lo)).take (HT.sIx xs.length xs.length hi-HT.sIx xs.length 0 lo),TupO.new _ _⟩
def jnG (K:W.Frag):R2:=fun x y H Q=>∃ a b xs ys,x=.ref a/\y=.ref b/\SqT K H a xs/\SqT K H b ys/\xs≠[]/\xs.length+ys.length<=sizeLine /\
 (ys=[]->Q (.ref a) H)/\(ys≠[]->∀ p,H p=none->Q (.ref p) (upd H p (.tup (xs++ys))))
def Vals.nil_iff (r:Vals xs us):us=[] ↔ xs=[]:=by
 cases r with
 | nil=>simp
 | cons _ _=>simp
def jkl:OpR X (binaryOp .Add) (jnG X.K):=by
 intro pins s σ H x y v u Q I rx ry h;obtain⟨a,b,xs,ys,rfl,rfl,ha,hb,hx,hz,q1,q2⟩:=h;cases rx;cases ry;obtain⟨its,r1,p1,_⟩:=I.tuple ha;obtain⟨its2,r2,p2,_⟩:=I.tuple hb;refine HT.cat_tup p1 p2 (fun z=>hx (r1.nil_iff.mp z)) (fun z=>⟨.ref a,H,I,rfl,q1 (r2.nil_iff.mp z)⟩) (fun z=>?_) (by rw[<- r1.length,<- r2.length]; exact hz);refine⟨.ref s.heap.objs.size,_,I.laid (t':=s.toks) (o:=.tup (xs++ys)) (fun b ob q=>Xd _ q) (Xe _) ?_,rfl,q2 (fun w=>z (r2.nil_iff.mpr w)) _ (I.hok.fresh (Xe _))⟩;exact⟨by rw[XE]; exact hz,_,r1.append r2,TupO.new _ _⟩
end
def ixN (n:Nat) (i:Int):Option Nat:=if 0<=i then (if i<n then some i.toNat else none) else if -(n:Int)<=i then some (i+n).toNat else none
def atI (xs:List α) (i:Int):Option α:=(ixN xs.length i).bind fun j=>xs[j]?
def jfL {i:Int}{j:Nat} (h:ixN n i=some j):seqIndex? i n=some j/\j<n/\-(n:Int)<=i/\i<n:=by
 unfold ixN at h;by_cases h0:0<=i
 ·rw[if_pos h0] at h;by_cases h1:i<n
  ·rw[if_pos h1] at h;have e:i.toNat=j:=Option.some.inj h;exact⟨by rw[seqIndex_of h0 h1,e],by omega,by omega,h1⟩
  ·rw[if_neg h1] at h; cases h
 ·rw[if_neg h0] at h;by_cases h1:-(n:Int)<=i
  ·rw[if_pos h1] at h;have e:(i+n).toNat=j:=Option.some.inj h;exact⟨by rw[seqIndex_neg (by omega) h1,e],by omega,h1,by omega⟩
  ·rw[if_neg h1] at h; cases h
def jbZ {xs:List α}{i:Int}{v:α} (h:atI xs i=some v):∃ j,seqIndex? i xs.length=some j/\xs[j]?=some v/\j<xs.length/\-(xs.length:Int)<=i/\i<xs.length:=by
 unfold atI at h;cases e:ixN xs.length i with
 | none=>rw[e] at h; cases h
 | some j=>
  rw[e] at h;obtain⟨h1,h2,h3,h4⟩:=jfL e;exact⟨j,h1,h,h2,h3,h4⟩
def jkm {xs:List α}{j:Nat}{v:α} (h:xs[j]?=some v):atI xs (j:Int)=some v:=by
 have hj:j<xs.length:=(List.getElem?_eq_some_iff.mp h).1;have e:ixN xs.length (j:Int)=some j:=by
  unfold ixN;rw[if_pos (by omega),if_pos (by omega)]; simp
 unfold atI; rw[e]; exact h
def jfM (b:Expr):Prop:=∀ o i,subscripted b false o i=operate [o,i] (getItem o i)
def IxR (X:Cx) (r:R2):Prop:=
 ∀ (value slice:Expr) (pins:List (Addr×Obj)) (s:Shared) (σ:St) (H:Hp) (x y:V) (v u:Value) (Q:VK),Inv X pins σ H s->RelV x v->RelV y u->r x y H Q ->
  subscripted slice false v u=operate [v,u] (getItem v u)->wpAny (model X.prog X.w) X.A (subscriptTail value slice v u) (EP X pins σ Q) X.xe s
def MtR (X:Cx) (id:String) (r:V->List V->Hp->VK->Prop):Prop:=
 ∀ (pins:List (Addr×Obj)) (s:Shared) (σ:St) (H:Hp) (x:V) (xs:List V) (v:Value) (us:List Value) (Q:VK),Inv X pins σ H s->RelV x v->Vals xs us->r x xs H Q ->
  wpAny (model X.prog X.w) X.A (call (.builtin id) (v::us)) (EP X pins σ Q) X.xe s
section
variable {a b:Expr} 
def jnH {r:R2} (hr:IxR X r) (ha:PE X a ta) (hb:PE X b tb) (hs:jfM b):PE X (.Subscript a b pos) (tOp r ta tb):=by
 intro pins s σ H Q I h;exact Subscript_ (jnE ha hb I h fun v u s2 x y H2 I2 rx ry q=>hr a b pins s2 σ H2 x y v u Q I2 rx ry q (hs _ _))
def jol (K:W.Frag):R2:=fun x y H Q=>∃ p xs i v,x=.ref p/\y=.int i/\SqL K H p xs/\atI xs i=some v/\Q v H
def jjs (K:W.Frag):R2:=fun x y H Q=>∃ p xs i v,x=.ref p/\y=.int i/\SqT K H p xs/\atI xs i=some v/\Q v H
def jom:R2:=fun x y H Q=>∃ z i c,x=.str z/\y=.int i/\z.length<=sizeLine/\atI z.cps.toList i=some c/\Q (.str ⟨#[c]⟩) H
def k8:IxR X (jol X.K):=by
 intro value slice pins s σ H x y v u Q I rx ry h hs;obtain⟨p,xs,i,z,rfl,rfl,hq,he,q⟩:=h;cases rx;obtain⟨t,rfl⟩:=ry;obtain⟨its,r,pl,hz⟩:=I.list hq;obtain⟨j,h1,h2,h3,h4,h5⟩:=jbZ he;obtain⟨w,ew,rw'⟩:=r.get h2;have hl:=r.length;have hn:=Yl;have fin:EP X pins σ Q w s:=⟨z,H,I,rw',q⟩;by_cases h0:0<=i
 ·have hj:i.toNat=j:=by
   rw[seqIndex_of h0 h5] at h1;exact Option.some.inj h1
  exact item_listR pl.isList h0 (by omega) (by rw[hj]; simpa using ew) fin hs
 ·have hj:(i+(its.toArray.size:Int)).toNat=j:=by
   rw[seqIndex_neg (by omega) h4] at h1;rw[Xg,<- hl];exact Option.some.inj h1
  exact subscriptTail_builtinR (x:=w) pl.isList.typeIs slot_list_getitem.lookup
   (wpAny_getItem_list_neg (Q:=fun r s'=>r=w/\EP X pins σ Q r s') pl.isList (by omega) (by rw[Xg] <;> omega) (by omega) (by rw[hj]; simpa using ew) ⟨rfl,fin⟩) hs
def zQ:IxR X (jjs X.K):=by
 intro value slice pins s σ H x y v u Q I rx ry h hs;obtain⟨p,xs,i,z,rfl,rfl,hq,he,q⟩:=h;cases rx;obtain⟨t,rfl⟩:=ry;obtain⟨its,r,pl,hz⟩:=I.tuple hq;obtain⟨j,h1,h2,h3,h4,h5⟩:=jbZ he;obtain⟨w,ew,rw'⟩:=r.get h2;have hl:=r.length;have hn:=Yl;have fin:EP X pins σ Q w s:=⟨z,H,I,rw',q⟩;exact subscriptTail_builtinR (x:=w) pl.typeIs slot_tuple_getitem.lookup
  (getItem_tuple (j:=j) (Q:=fun r s'=>r=w/\EP X pins σ Q r s') pl (by omega) (by omega) (by rw[Xg,<- hl]; exact h1) (by simpa using ew) ⟨rfl,fin⟩) hs
def jl_:IxR X jom:=by
 intro value slice pins s σ H x y v u Q I rx ry h hs;obtain⟨z,i,c,rfl,rfl,hz,he,q⟩:=h;obtain⟨t,rfl⟩:=rx;obtain⟨t',rfl⟩:=ry;obtain⟨j,h1,h2,h3,h4,h5⟩:=jbZ he;have hl:z.cps.toList.length=z.length:=by simp[Str.length]
 rw[hl] at h1 h4 h5;have hn:=Yl;exact tail_any (typeIs_str s z t) slot_str_getitem.lookup (getItem_str (c:=c) (by
  have e1:decide (i < -(2 ^ 63:Int))=false:=Xk (by omega);have e2:decide (i ≥ 2 ^ 63)=false:=Xk (by omega);rw[e1,e2,Bool.or_false]) (by rw[h1]; simpa using h2) ⟨.str ⟨#[c]⟩,H,I.tok _,⟨_,rfl⟩,q⟩) hs
def jev (its:List Value) (n j:Nat) (u:Value):Obj.mapSeq (·.setIfInBounds j u) { cls:=.type "list",data:=.seq its.toArray n }={ cls:=.type "list",data:=.seq (its.set j u).toArray n }:=by
 simp[Obj.mapSeq]
def Inv.lst {p:Addr} (I:Inv X pins σ H s) (h:H p=some (.lst xs)) :
  ∃ (its:List Value) (n:Nat),Vals xs its/\s.heap.get? p=some { cls:=.type "list",data:=.seq its.toArray n }/\xs.length<=sizeLine:=by
 obtain⟨z,its,n,r,e⟩:=I.hok p _ h;exact⟨its,n,r,e,z⟩
def Inv.lstUpd {p:Addr}{n':Nat}{f:Obj->Obj} (I:Inv X pins σ H s) (h:H p=some (.lst xs))
  (ho:s.heap.get? p=some { cls:=.type "list",data:=.seq its.toArray n }) (hf:f { cls:=.type "list",data:=.seq its.toArray n }={ cls:=.type "list",data:=.seq its'.toArray n' }) (r:Vals ys its') (hz:ys.length<=sizeLine) (t:Nat) :
  Inv X pins σ (upd H p (.lst ys)) { s with heap:=s.heap.update p f,toks:=t }:=by
 have e:(s.heap.update p f).get? p=some { cls:=.type "list",data:=.seq its'.toArray n' }:=by
  rw[Heap.get?_update_self f ho (by rw[hf] <;> rfl),hf]
 refine I.write (x:=p) (e:=p) (by rw[h]; trivial) (.inl rfl) (fun b u hb q=>(Heap.get?_update_other _ _ (Ne.symm hb)).trans q) ⟨_,e⟩ ?_;exact⟨hz,its',n',r,e⟩
def jh2:V->V->V->Hp->(Hp->Prop)->Prop:=fun o i v H Q=>∃ p xs k j,o=.ref p/\i=.int k/\H p=some (.lst xs)/\ixN xs.length k=some j/\Q (upd H p (.lst (xs.set j v)))
def YT:joi X jh2:=by
 intro pins s σ H o i v ov iv u Q I ro ri rv h;obtain⟨p,xs,k,j,rfl,rfl,hp,hj,q⟩:=h;cases ro;obtain⟨t,rfl⟩:=ri;obtain⟨its,n,r,ho,hz⟩:=I.lst hp;obtain⟨h1,h2,h3,h4⟩:=jfL hj;have hl:=r.length;have hn:=Yl;have I':Inv X pins σ (upd H p (.lst (xs.set j v))) { s with heap:=s.heap.update p (Obj.mapSeq (·.setIfInBounds j u)) }:=
  I.lstUpd hp ho (jev its n j u) (r.set rv j) (by rw[List.length_set]; exact hz) s.toks
 by_cases h0:0<=k
 ·have hk:k.toNat=j:=by
   rw[seqIndex_of h0 h4] at h1;exact Option.some.inj h1
  exact W.ki_setAt ho h0 (by omega) (by rw[Xg,<- hl]; exact h4) (by rw[hk]; exact ⟨_,I',q⟩)
 ·have hk:(k+(its.toArray.size:Int)).toNat=j:=by
   rw[seqIndex_neg (by omega) h3] at h1;rw[Xg,<- hl];exact Option.some.inj h1
  exact W.ki_setBack ho (by omega) (by rw[Xg,<- hl]; exact h3) (by omega) (by rw[hk]; exact ⟨_,I',q⟩)
def jaM (lo hi:Option Int) (n:Nat):(sliceBounds lo hi none n).1=((HT.sIx n 0 lo:Nat):Int)/\(sliceBounds lo hi none n).2.1=((HT.sIx n n hi:Nat):Int)/\(sliceBounds lo hi none n).2.2=1:=by
 refine⟨?_,?_,rfl⟩
 ·cases lo with
  | none=>simp[sliceBounds,HT.sIx]
  | some i=>
   simp only[sliceBounds,HT.sIx,Option.getD_none,show (1:Int) > 0 by decide,if_true];by_cases h:i<0
   ·simp only[h,if_true] <;> omega
   ·simp only[h,XY] <;> omega
 ·cases hi with
  | none=>simp[sliceBounds,HT.sIx]
  | some i=>
   simp only[sliceBounds,HT.sIx,Option.getD_none,show (1:Int) > 0 by decide,if_true];by_cases h:i<0
   ·simp only[h,if_true] <;> omega
   ·simp only[h,XY] <;> omega
def YU (its:List Value) (lo hi:Option Int):slicePick its.toArray lo hi none=((its.drop (HT.sIx its.length 0 lo)).take (HT.sIx its.length its.length hi-HT.sIx its.length 0 lo)).toArray:=by
 obtain⟨h1,h2,h3⟩:=jaM lo hi its.toArray.size;unfold slicePick;rw[h1,h2,h3];simp only[sliceRange_one,pick_run,Xg] <;> rfl
def jnv (K:W.Frag):V->Option Int->Option Int->Hp->VK->Prop:=fun x lo hi H Q=>∃ a xs,x=.ref a/\SqL K H a xs/\∀ p,H p=none->Q (.ref p) (upd H p (.lst (jh1 xs lo hi)))
def UT:SlR X (jnv X.K):=by
 intro pins s σ H x v vl vu lo hi sl Q I rx hs pl pu h;obtain⟨a,xs,rfl,hx,q⟩:=h;cases rx;obtain⟨its,r,ht,hz⟩:=I.list hx;have hlen:=r.length;refine⟨"list",_,slot_list_getitem.lookup,ht.isList.typeIs,?_⟩;refine wpAny_getItem_list_slice ht.isList hs pl pu .none (by simp) ?_ (by rw[Xg] <;> omega);rw[YU,<- hlen];refine⟨.ref s.heap.objs.size,_,I.laid (t':=s.toks) (o:=.lst (jh1 xs lo hi)) (fun b ob q=>Xd _ q) (Xe _) ?_,rfl,q _ (I.hok.fresh (Xe _))⟩;exact⟨XV (VZ xs lo hi) hz,_,0,(r.drop (HT.sIx xs.length 0 lo)).take (HT.sIx xs.length xs.length hi-HT.sIx xs.length 0 lo),Xi _ rfl⟩
def jaN:V->Bool
 | .non=>true
 | .bl _=>true
 | .int _=>true
 | .str _=>true
 | _=>false
def eqV:V->V->Bool
 | .non,.non=>true
 | .bl a,.bl b=>a==b
 | .bl a,.int b=>(if a then 1 else 0)==b
 | .int a,.bl b=>a==(if b then 1 else 0)
 | .int a,.int b=>a==b
 | .str a,.str b=>a==b
 | _,_=>false
def jma {y x:V}{v:Value} (ry:RelV y u) (rx:RelV x v) (fy:jaN y=true) (fx:jaN x=true):SeqAt.EqAt A s u v (eqV y x):=by
 cases y with
 | non=>
  cases ry;cases x with
  | non=>cases rx; exact SeqAt.EqAt.same _
  | bl b=>cases rx; exact SeqAt.EqAt.none_bool b
  | int b=>obtain⟨t,rfl⟩:=rx; exact SeqAt.EqAt.none_int b t
  | str b=>obtain⟨t,rfl⟩:=rx; exact SeqAt.EqAt.none_str b t
  | _=>exact absurd (show false=true from fx) Xh
 | bl a=>
  cases ry;cases x with
  | non=>cases rx; exact SeqAt.EqAt.bool_none a
  | bl b=>cases rx; exact SeqAt.EqAt.bool_bool a b
  | int b=>obtain⟨t,rfl⟩:=rx; exact SeqAt.EqAt.bool_int a b t
  | str b=>obtain⟨t,rfl⟩:=rx; exact SeqAt.EqAt.bool_str a b t
  | _=>exact absurd (show false=true from fx) Xh
 | int a=>
  obtain⟨t',rfl⟩:=ry;cases x with
  | non=>cases rx; exact SeqAt.EqAt.int_none a t'
  | bl b=>cases rx; exact SeqAt.EqAt.int_bool a t' b
  | int b=>obtain⟨t,rfl⟩:=rx; exact SeqAt.EqAt.int_int a t' b t
  | str b=>obtain⟨t,rfl⟩:=rx; exact SeqAt.EqAt.int_str a t' b t
  | _=>exact absurd (show false=true from fx) Xh
 | str a=>
  obtain⟨t',rfl⟩:=ry;cases x with
  | non=>cases rx; exact SeqAt.EqAt.str_none a t'
  | bl b=>cases rx; exact SeqAt.EqAt.str_bool a t' b
  | int b=>obtain⟨t,rfl⟩:=rx; exact SeqAt.EqAt.str_int a t' b t
  | str b=>obtain⟨t,rfl⟩:=rx; exact SeqAt.EqAt.str_str a t' b t
  | _=>exact absurd (show false=true from fx) Xh
 | _=>exact absurd (show false=true from fy) Xh
def jw:GS X (.builtin "len") (fun xs H Q=>∃ p ys,xs=[.ref p]/\(SqL X.K H p ys \/ SqT X.K H p ys)/\Q (.int ys.length) H):=by
 intro pins s σ H xs us Q I r h;obtain⟨p,ys,rfl,hq,q⟩:=h;obtain⟨u,rfl,rx⟩:=US r;cases rx;have hn:=Yl;rcases hq with hq | hq
 ·obtain⟨its,r',pl,hz⟩:=I.list hq;have hlen:=r'.length;exact Calls.call_len_list pl.isList (by simp only[Xg] <;> omega) ⟨.int ys.length,H,I.tok _,⟨s.toks+1,by rw[Xg,hlen]⟩,q⟩
 ·obtain⟨its,r',pl,hz⟩:=I.tuple hq;have hlen:=r'.length;exact len_tuple pl (by simp only[Xg] <;> omega) ⟨.int ys.length,H,I.tok _,⟨s.toks+1,by rw[Xg,hlen]⟩,q⟩
def jaO:GS X (.builtin "len") (fun xs H Q=>∃ z,xs=[.str z]/\z.length<=sizeLine/\Q (.int z.length) H):=by
 intro pins s σ H xs us Q I r h;obtain⟨z,rfl,hz,q⟩:=h;obtain⟨u,rfl,t,rfl⟩:=US r;have hn:=Yl;exact len_str (by omega) ⟨.int z.length,H,I.tok _,⟨_,rfl⟩,q⟩
def JO:GS X (.type "list") (fun xs H Q=>∃ p ys,xs=[.ref p]/\(SqL X.K H p ys \/ SqT X.K H p ys)/\∀ l,H l=none->Q (.ref l) (upd H l (.lst ys))):=by
 intro pins s σ H xs us Q I r h;obtain⟨p,ys,rfl,hq,q⟩:=h;obtain⟨u,rfl,rx⟩:=US r;cases rx;have fin:∀ (its:List Value),Vals ys its->ys.length<=sizeLine->∀ (h':Heap) (c':Nat),(∀ b o',s.heap.get? b=some o'->h'.get? b=some o') ->
   h'.get? s.heap.objs.size=some { cls:=.type "list",dict:=none,data:=.seq its.toArray c',slots:=#[] }->EP X pins σ Q (.ref s.heap.objs.size) { s with heap:=h' }:=fun its r' hz h' c' kp e=>
  ⟨.ref s.heap.objs.size,_,I.laid (t':=s.toks) kp (Xe _) (show ObjOk X.prog X.w _ h' _ (.lst ys) from ⟨hz,its,c',r',e⟩),rfl,q _ (I.hok.fresh (Xe _))⟩
 rcases hq with hq | hq
 ·obtain⟨its,r',pl,hz⟩:=I.list hq;have hlen:=r'.length;obtain⟨o,ho,hc,n,hd⟩:=pl.isList;exact call_list_seq p (.inl rfl) ho hc hd (fun h' c' kp e=>fin its r' hz h' c' kp e) (by simp only[Xg] <;> omega)
 ·obtain⟨its,r',pl,hz⟩:=I.tuple hq;have hlen:=r'.length;obtain⟨o,ho,hc,n,hd⟩:=pl;exact call_list_seq p (.inr rfl) ho hc hd (fun h' c' kp e=>fin its r' hz h' c' kp e) (by simp only[Xg] <;> omega)
def yL:GS X (.type "tuple") (fun xs H Q=>∃ p ys,xs=[.ref p]/\((SqL X.K H p ys/\∀ l,H l=none->Q (.ref l) (upd H l (.tup ys))) \/ (SqT X.K H p ys/\Q (.ref p) H))):=by
 intro pins s σ H xs us Q I r h;obtain⟨p,ys,rfl,h⟩:=h;obtain⟨u,rfl,rx⟩:=US r;cases rx;rcases h with⟨hq,q⟩ | ⟨hq,q⟩
 ·obtain⟨its,r',pl,hz⟩:=I.list hq;have hlen:=r'.length;refine call_tuple_list pl.isList (fun h' kp=>?_) (by simp only[Xg] <;> omega);have I1:Inv X pins σ H { s with heap:=h' }:=I.kept (t':=s.toks) kp
  have I2:Inv X pins σ (upd H h'.objs.size (.tup ys)) { s with heap:=h'.push { cls:=.type "tuple",data:=.seq its.toArray } }:=
   I1.laid (t':=s.toks) (fun b o e=>Xd _ e) (Xe _) (show ObjOk X.prog X.w _ _ _ (.tup ys) from ⟨hz,its,r',TupO.new _ _⟩)
  exact⟨.ref h'.objs.size,_,I2,rfl,q _ (I1.hok.fresh (Xe _))⟩
 ·obtain⟨its,r',pl,hz⟩:=I.tuple hq;exact call_tuple_same pl ⟨.ref p,H,I,rfl,q⟩
def tyV (K:W.Frag) (T:String) (x:V) (H:Hp):Prop:=match x with
 | .str _=>T="str"
 | .int _=>T="int"
 | .ref p=>(T="list"/\∃ xs,SqL K H p xs) \/ (T="tuple"/\∃ o,K.lookup p=some o/\o.cls=.type "tuple"/\o.dict=none) \/
   (T="dict"/\((∃ kvs,H p=some (.dK kvs)) \/ ∃ fl kvs,H p=some (.dT fl kvs))) \/ (T="set"/\∃ S n,H p=some (.set S n))
 | _=>False
def jjt {x:V}{v:Value} (I:Inv X pins σ H s) (r:RelV x v) (ty:tyV X.K T x H) :
  s.TypeIs v T/\∀ a,v=.ref a->∃ ob,s.heap.get? a=some ob/\ob.dict=none:=by
 cases x with
 | str z=>
  obtain⟨t,rfl⟩:=r;cases (show T="str" from ty);exact⟨typeIs_str s z t,fun _ e=>nomatch e⟩
 | int i=>
  obtain⟨t,rfl⟩:=r;cases (show T="int" from ty);exact⟨typeIs_int s i t,fun _ e=>nomatch e⟩
 | ref p=>
  cases r;rcases ty with⟨rfl,xs,hq⟩ | ⟨rfl,o,hk,hc,hd⟩ | ⟨rfl,hk⟩ | ⟨rfl,S,n,hk⟩
  ·obtain⟨its,_,pl,_⟩:=I.list hq;refine⟨pl.isList.typeIs,fun a e=>?_⟩;cases e;obtain⟨o,n,e,c,hd,_⟩:=pl;exact⟨o,e,hd⟩
  ·refine⟨⟨o,I.kIn p o hk,hc⟩,fun a e=>?_⟩;cases e;exact⟨o,I.kIn _ o hk,hd⟩
  ·have z:∃ o,s.heap.get? p=some o/\o.ExactDict:=by
    rcases hk with⟨kvs,hk⟩ | ⟨fl,kvs,hk⟩
    ·obtain⟨_,_,_,_,o,_,_,e,ex,_⟩:=I.hok p _ hk;exact⟨o,e,ex⟩
    ·obtain⟨_,_,_,_,o,_,_,e,ex,_⟩:=I.hok p _ hk;exact⟨o,e,ex⟩
   obtain⟨o,e,ex⟩:=z;refine⟨⟨o,e,ex.1⟩,fun a e2=>?_⟩;cases e2;exact⟨o,e,ex.2.1⟩
  ·obtain⟨o,_,_,_,e,ex,_⟩:=I.hok p _ hk;refine⟨⟨o,e,ex.1⟩,fun a e2=>?_⟩;cases e2;exact⟨o,e,ex.2.1⟩
 | _=>exact False.elim ty
def jmb (K:W.Frag) (T:String) (r:V->List V->Hp->VK->Prop) (to:TE):TE:=fun σ H Q=>to σ H fun x H1=>tyV K T x H1/\r x [] H1 Q
def tBM (K:W.Frag) (T:String) (r:V->List V->Hp->VK->Prop) (to:TE) (t:TA):TE:=fun σ H Q=>to σ H fun x H1=>tyV K T x H1/\t σ H1 fun xs H2=>r x xs H2 Q
variable {o:Expr}{to:TE}{t:TA}{id:String}{r:V->List V->Hp->VK->Prop}
def jju (pa:PlainAttrs T) (slot:Slot T name id) (hty:typeOf (.builtin id)=pure (.type "method_descriptor")) (hm:MtR X id r) (ho:PE X o to)
  (hbase:attributeBase o name X.env (eval o X.env)=eval o X.env:=by rfl) (hline:(apos.endLine==cpos.line)=true:=by rfl):PE X (.Call (.Attribute o name apos) [] [] cpos) (jmb X.K T r to):=by
 intro pins s σ H Q I h;refine wpAny_Call_method0_late hbase hline (thn (ho pins s σ H _ I h) fun v s1 ⟨x,H1,I1,r1,ty,q1⟩=>?_);obtain⟨h1,h2⟩:=jjt I1 r1 ty;exact⟨T,id,pa,slot,hty,h1,h2,Calls.callWith_builtin rfl (PySem.evalArgs_none (hm pins s1 σ H1 x [] v [] Q I1 r1 .nil q1))⟩
def Gd (pa:PlainAttrs T) (slot:Slot T name id) (hty:typeOf (.builtin id)=pure (.type "method_descriptor")) (hm:MtR X id r) (ho:PE X o to) (ha:PA X (e::es) t)
  (hbase:attributeBase o name X.env (eval o X.env)=eval o X.env:=by rfl)
  (hfew:((backTo cpos (starEach (e::es) X.env)).all (fun x=>!x.1)&&(backToKw cpos (keywordEach [] X.env)).all (fun x=>x.1.isSome)
  &&decide ((e::es).length+([]:List Keyword).length+(if ([]:List Keyword).isEmpty then 0 else 1)<30))=true:=by rfl)
  (hline:(apos.endLine==cpos.line)=true:=by rfl) (hs:starEach (e::es) X.env=(false,eval e X.env)::starEach es X.env:=by rfl) (hplain:(backTo cpos (starEach es X.env)).any (·.1)=false:=by rfl) :
  PE X (.Call (.Attribute o name apos) (e::es) [] cpos) (tBM X.K T r to t):=by
 intro pins s σ H Q I h;refine wpAny_Call_method_late hbase hfew hline rfl (thn (ho pins s σ H _ I h) fun v s1 ⟨x,H1,I1,r1,ty,q1⟩=>?_);obtain⟨h1,h2⟩:=jjt I1 r1 ty;refine⟨T,id,pa,slot,hty,h1,h2,?_⟩;have hA:=ha cpos pins s1 σ H1 _ I1 q1;rw[hs] at hA ⊢;refine Calls.callWith_builtin (by show (false||(backTo cpos (starEach es X.env)).any (·.1))=false; rw[hplain] <;> rfl) (Calls.evalArgs_plain ?_)
 exact thn hA fun us s2 ⟨vs,H2,I2,r2,q2⟩=>hm pins s2 σ H2 x vs v us Q I2 r1 r2 q2
end
def MtM (X:Cx) (id:String) (r:V->List V->Hp->VK->Prop):Prop:=
 ∀ (pins:List (Addr×Obj)) (s:Shared) (σ:St) (H:Hp) (x:V) (xs:List V) (v:Value) (us:List Value) (Q:VK),Inv X pins σ H s->RelV x v->Vals xs us->r x xs H Q ->
  wpAny (model X.prog X.w) X.A (call (.builtin id) (v::us)) (EP X pins σ Q) X.xe s
def Vals.one:∀ {x:V}{us:List Value},Vals [x] us->∃ u,us=[u]/\RelV x u
 | _,_,.cons r .nil=>⟨_,rfl,r⟩
def Vals.two:∀ {x y:V}{us:List Value},Vals [x,y] us->∃ u v,us=[u,v]/\RelV x u/\RelV y v
 | _,_,_,.cons r (.cons q .nil)=>⟨_,_,rfl,r,q⟩
def Vals.zero:∀ {us:List Value},Vals [] us->us=[]
 | _,.nil=>rfl
def Vals.dropLast (h:Vals xs us):Vals xs.dropLast us.dropLast:=by
 induction h with
 | nil=>exact .nil
 | cons r t ih=>
  cases t with
  | nil=>exact .nil
  | cons q t'=>exact .cons r ih
def Vals.rep (h:Vals xs us):∀ k:Nat,Vals (List.replicate k xs).flatten (List.replicate k us).flatten
 | 0=>.nil
 | k+1=>by
  rw[List.replicate_succ,List.replicate_succ,List.flatten_cons,List.flatten_cons];exact Vals.append h (Vals.rep h k)
def jew (l:List α):l.eraseIdx (l.length-1)=l.dropLast:=by
 induction l with
 | nil=>rfl
 | cons a r ih=>
  cases r with
  | nil=>rfl
  | cons b r=>
   have e:(a::b::r).length-1=((b::r).length-1)+1:=by
    have h1:(a::b::r).length=r.length+2:=rfl;have h2:(b::r).length=r.length+1:=rfl;omega
   rw[e,List.eraseIdx_cons_succ,ih]
   all_goals rfl
def jaP (its:List Value):∀ (k:Nat) (acc:List Value),
  List.foldl (fun x1 x2=>x1++x2) acc.toArray (List.replicate k its.toArray)=(acc++(List.replicate k its).flatten).toArray
 | 0,acc=>by simp
 | k+1,acc=>by
  have e:acc.toArray++its.toArray=(acc++its).toArray:=by simp
  have e2:(acc++its)++(List.replicate k its).flatten=acc++(List.replicate (k+1) its).flatten:=by
   rw[List.replicate_succ,List.flatten_cons,List.append_assoc]
  rw[<- e2,<- jaP its k (acc++its),<- e,List.replicate_succ,List.foldl_cons]
section
variable {l b:Addr}{zs:List V}
def Inv.lset {f:Array Value->Array Value} (I:Inv X pins σ H s) (hH:H l=some (.lst xs))
  (e:s.heap.get? l=some { cls:=.type "list",data:=.seq its.toArray n }) (hf:f its.toArray=its'.toArray) (hv:Vals ys its') (hz:ys.length<=sizeLine) :
  Inv X pins σ (upd H l (.lst ys)) { s with heap:=s.heap.update l (Obj.mapSeq f),toks:=t' }:=by
 have q:=PySem.IsL.update e f;rw[hf] at q;refine I.write (x:=l) (e:=l) (by rw[hH]; exact trivial) (.inl rfl) (fun b' u hb hu=>(Heap.get?_update_other s.heap (Obj.mapSeq f) (Ne.symm hb)).trans hu) ⟨_,q⟩ ?_;exact⟨hz,its',_,hv,q⟩
def Inv.lnew (I:Inv X pins σ H s) (hv:Vals ys its) (hz:ys.length<=sizeLine) :
  Inv X pins σ (upd H s.heap.objs.size (.lst ys)) { s with heap:=s.heap.push { cls:=.type "list",data:=.seq its.toArray },toks:=t' }:=
 I.laid (fun _ _ q=>Xd _ q) (Xe _) ⟨hz,its,0,hv,Xi _ rfl⟩
def Inv.fresh (I:Inv X pins σ H s):H s.heap.objs.size=none:=I.hok.fresh (Xe _)
def Inv.lstM (I:Inv X pins σ H s) (hH:H l=some (.lst xs)):xs.length<=sizeLine/\∃ (its:List Value) (n:Nat),Vals xs its/\xs.length=its.length/\s.heap.get? l=some { cls:=.type "list",data:=.seq its.toArray n }:=by
 obtain⟨z,its,n,r,e⟩:=I.hok l _ hH;exact⟨z,its,n,r,r.length,e⟩
def jdw (h:n<=sizeLine):Builtin.List.listTooLong n=false:=by
 unfold Builtin.List.listTooLong;exact Xk (by omega)
end
section
def UU:V->List V->Hp->VK->Prop:=fun x vs H Q=>∃ l xs y,x=.ref l/\vs=[y]/\H l=some (.lst xs)/\xs.length<sizeLine/\Q .non (upd H l (.lst (xs++[y])))
def yM:MtM X "list.append" UU:=by
 intro pins s σ H x vs v us Q I rx rv h;obtain⟨l,xs,y,rfl,rfl,hH,hz,q⟩:=h;cases rx;obtain⟨u,rfl,ru⟩:=rv.one;obtain⟨z,its,n,r,hl,e⟩:=I.lstM hH;refine call_meets F.slot_list_append ⟨_,e,rfl⟩ F.entry_list_append (F.args_list_append_2 _ _) (PySem.list_append l its.toArray n u (by rw[Xg]; omega)) ⟨e,?_⟩;refine⟨.non,_,I.lset (its':=its++[u]) hH e (by simp) (r.append (.cons ru .nil)) ?_,rfl,q⟩;rw[XE,List.length_singleton];omega
def jfN:V->List V->Hp->VK->Prop:=fun x vs H Q=>∃ l b xs zs,x=.ref l/\vs=[.ref b]/\H l=some (.lst xs)/\H b=some (.lst zs)/\xs.length+zs.length<=sizeLine/\Q .non (upd H l (.lst (xs++zs)))
def jaQ:MtM X "list.extend" jfN:=by
 intro pins s σ H x vs v us Q I rx rv h;obtain⟨l,b,xs,zs,rfl,rfl,hH,hB,hz,q⟩:=h;cases rx;obtain⟨u,rfl,ru⟩:=rv.one;cases ru;obtain⟨z,its,n,r,hl,e⟩:=I.lstM hH;obtain⟨z2,its2,n2,r2,hl2,e2⟩:=I.lstM hB;have hsz:its.toArray.size+its2.toArray.size<=sizeLine:=by rw[Xg,Xg]; omega
 have hlong:¬ (!its.toArray.isEmpty&&Builtin.List.listTooLong (its.toArray.size+its2.toArray.size))=true:=by
  rw[jdw hsz,Bool.and_false];exact Xh
 refine call_meets F.slot_list_extend ⟨_,e,rfl⟩ F.entry_list_extend (F.args_list_extend_2 _ _)
  (AutoSeq1.list_extend_list_list_0 l its.toArray n b its2.toArray n2 hlong (by rw[Xg]; omega) (by omega)) ⟨e,e2,?_⟩
 refine⟨.non,_,I.lset (its':=its++its2) hH e (by simp) (r.append r2) ?_,rfl,q⟩;rw[XE];omega
def jon:V->List V->Hp->VK->Prop:=fun x vs H Q=>∃ l xs y,x=.ref l/\vs=[]/\H l=some (.lst xs)/\xs[xs.length-1]?=some y/\Q y (upd H l (.lst xs.dropLast))
def jmc:MtM X "list.pop" jon:=by
 intro pins s σ H x vs v us Q I rx rv h;obtain⟨l,xs,y,rfl,rfl,hH,hy,q⟩:=h;cases rx;have hus:=rv.zero;subst hus;obtain⟨z,its,n,r,hl,e⟩:=I.lstM hH;obtain⟨u,hu,ru⟩:=r.get hy;have hy':its.toArray[its.toArray.size-1]?=some u:=by
  show its.toArray[its.length-1]?=some u;rw[<- Array.getElem?_toList,<- hl];exact hu
 refine call_meets F.slot_list_pop ⟨_,e,rfl⟩ F.entry_list_pop (F.args_list_pop_1 _) (MeetsSeq.list_pop_last l its.toArray n u hy' (by rw[Xg]; omega)) ⟨e,?_⟩;refine⟨y,_,I.lset (its':=its.dropLast) hH e ?_ r.dropLast ?_,ru,q⟩
 ·show its.toArray.eraseIdxIfInBounds (its.toArray.size-1)=its.dropLast.toArray;rw[Xg,List.eraseIdxIfInBounds_toArray,jew]
 ·rw[List.length_dropLast];omega
def joo:R2:=fun x y H Q=>∃ l b xs zs,x=.ref l/\y=.ref b/\H l=some (.lst xs)/\H b=some (.lst zs)/\xs.length+zs.length<=sizeLine/\∀ p,H p=none->Q (.ref p) (upd H p (.lst (xs++zs)))
def V0:OpR X (binaryOp .Add) joo:=by
 intro pins s σ H x y v u Q I rx ry h;obtain⟨l,b,xs,zs,rfl,rfl,hH,hB,hz,q⟩:=h;cases rx;cases ry;obtain⟨z,its,n,r,hl,e⟩:=I.lstM hH;obtain⟨z2,its2,n2,r2,hl2,e2⟩:=I.lstM hB;refine PySem.P.add_list e e2 ?_ (by rw[Xg,Xg]; omega);have ea:its.toArray++its2.toArray=(its++its2).toArray:=by simp
 rw[ea];exact⟨.ref _,_,I.lnew (t':=s.toks) (r.append r2) (by rw[XE]; omega),rfl,q _ I.fresh⟩
def jop:R2:=fun x y H Q=>∃ l k xs,x=.ref l/\y=.int k/\H l=some (.lst xs)/\-(2 ^ 63)<=k/\k<2 ^ 63/\xs.length * k.toNat<=sizeLine /\
 ∀ p,H p=none->Q (.ref p) (upd H p (.lst (List.replicate k.toNat xs).flatten))
def jkn (xs:List α) (k:Nat):(List.replicate k xs).flatten.length=k * xs.length:=by
 induction k with
 | zero=>simp
 | succ k ih=>rw[List.replicate_succ,List.flatten_cons,XE,ih,Nat.succ_mul,Nat.add_comm]
def jfO:OpR X (binaryOp .Mult) jop:=by
 intro pins s σ H x y v u Q I rx ry h;obtain⟨l,k,xs,rfl,rfl,hH,h1,h2,hz,q⟩:=h;cases rx;obtain⟨t,rfl⟩:=ry;obtain⟨z,its,n,r,hl,e⟩:=I.lstM hH;have hlen:its.toArray.size * k.toNat<=sizeLine:=by rw[Xg,<- hl]; exact hz
 have hcap:¬ its.toArray.size * k.toNat > (2 ^ 63-1) / 8:=by
  have:(sizeLine:Nat)<=(2 ^ 63-1) / 8:=by decide
  omega
 have hfit:¬ (!Builtin.List.listFitsIndex k)=true:=by
  rw[fitsIndex_both h1 h2];exact Xh
 have hlong:¬ Builtin.List.listTooLong (its.toArray.size * k.toNat)=true:=by
  rw[jdw hlen];exact Xh
 have hnew:List.foldl (fun x1 x2=>x1++x2) #[] (List.replicate (if its.toArray.isEmpty=true then 0 else k.toNat) its.toArray)=(List.replicate k.toNat its).flatten.toArray:=by
  have f0:∀ m:Nat,List.foldl (fun x1 x2=>x1++x2) #[] (List.replicate m its.toArray)=(List.replicate m its).flatten.toArray:=fun m=>by
   have:=jaP its m [];rw[List.nil_append] at this;exact this
  rw[f0];cases its with
  | nil=>simp
  | cons a r'=>rw[if_neg (by simp)]
 refine wpAny_binaryOp_repeat_ref (T:="list") (U:="int") (by decide) ⟨_,e,rfl⟩ (fun s'=>typeIs_int s' k t) noFill_list_mul F.fills_int_mul F.slot_int_rmul repeat_list F.slot_int_index.lookup
  (call_meets F.slot_int_rmul (typeIs_int s k t) F.entry_int_rmul (F.args_int_rmul_2 _ _) (int___rmul___int_list k t l its.toArray n)
   ⟨e,rfl,⟨_,e,rfl⟩,call_meets F.slot_list_mul ⟨_,e,rfl⟩ F.entry_list_mul (F.args_list_mul_2 _ _) (AutoListH.list___mul___list_int_3 l its.toArray n k t hfit hcap hlong) ⟨e,?_⟩⟩)
 rw[hnew];exact⟨.ref _,_,I.lnew (t':=s.toks) (r.rep k.toNat) (by rw[jkn,Nat.mul_comm]; exact hz),rfl,q _ I.fresh⟩
end
end L2
variable {tl th:L2.TO}
namespace Att
open PySem PySem.W PySem.Calls PyProof.Rows
def V1 {P:Params} :∀ (ns:List Int) (vs:List Value),WellAll P h vs (ns.map WData.int)->IntsAre vs ns:=by
 intro ns
 induction ns with
 | nil=>
  intro vs w;rw[List.map_nil] at w;cases w;exact .nil
 | cons n ns ih=>
  intro vs w;rw[List.map_cons] at w;cases w with
  | cons a b=>
   cases a;exact .cons _ _ (ih _ b)
def jfP {l:OpenLaw} (hn:l.most=some n) {P:Params}{args:List WData}{vals:List Value}
  (hpre:l.row.toRowW.claim.pre args=true) (hwl:WellAll P h vals args) :
  ∃ a vs ns,vals=[Value.ref a]/\args=[WData.list (ns.map WData.int)]/\h.get? a=some { cls:=.type "list",data:=.seq vs.toArray }/\IntsAre vs ns/\ns.length<=n:=by
 have hsh:WShape.hasAll [] args [.list .int]=true:=(pre_splitW hpre).1;have hc:l.pre.holds [] { args:=args }=true:=(pre_splitW hpre).2;obtain⟨d,r,rfl,h1,h2⟩:=hasAllW_cons hsh;obtain rfl:=hasAllW_nil h2;obtain⟨xs,rfl,h3⟩:=hasW_list h1;obtain⟨ns,rfl⟩:=items_int h3;have hlen:ns.length<=n:=by
  unfold OpenLaw.pre at hc;have h4:(WTm.not (.lt (.lit (.int (n:Int))) (.len (.arg 0)))).holds [] { args:=[.list (ns.map .int)] }=true:=by
   have h4:=(holds_andW hc).1;rw[hn] at h4;exact h4
  have h5:=condW_of h4 (w_not (w_lt w_lit (w_len_list (w_arg rfl))));rw[List.length_map] at h5;refine Nat.le_of_not_lt fun q=>?_;have q':(n:Int)<((ns.length:Nat):Int):=by omega
  first
   | (rw[decide_eq_true q'] at h5; exact absurd h5 (by decide))
   | (simp at h5; omega)
 cases hwl with
 | cons w1 w2=>
  cases w2;cases w1 with
  | list ho hall=>exact ⟨_,_,ns,rfl,rfl,ho,V1 ns _ hall,hlen⟩
def jfQ (l:OpenLaw) (args:List WData):l.row.toRowW.claim.post args (.bool true) args=true:=
 postW_of (r:=l.row.toRowW) (X:=(true==true))
  (show WShape.has [] (.bool true) .bool=true by first | rfl | decide | simp[WShape.has,WShape.arms,WShape.armsAll])
  (show (WTm.eq .res (.lit (.bool true))).value [] { args:=args,res:=some (.bool true),after:=args }=some (.bool (true==true)) from w_eq_bool (w_res rfl) w_lit) rfl
def attach_call {l:OpenLaw}{q:Program}{d:DefRec}
  (hn:l.most=some n) (hdf:d.params.defaults=[])
  (call:∀ (w:World) (s₀ s₁:Shared) (mg mb:Str->Option Value) (fa:Addr) (o:Obj) (pm cd doc:Value) (a:Addr) (vs:List Value) (ns:List Int),
   Ground q loose [] XP w s₀ mg mb s₁.heap->YP w s₁.heap ->
   s₁.heap.get? fa=some o->o.data=.func (docDef d.name d.params d.body d.scope pm cd doc)->s₁.heap.CodeRec cd d.name->mg d.name=some (.ref fa) ->
   s₁.heap.get? a=some { cls:=.type "list",data:=.seq vs.toArray }->IntsAre vs ns->ns.length<=n->s₁.gens=#[] ->
   codeAny (model l.prog w) callerA (.call (.ref fa) ⟨[.ref a],[]⟩) (fun r s'=>r=.ok (.ret (.bool true))/\OldK s₁.heap s'.heap/\s'.os=s₁.os/\AllBare s'.gens) s₁) :
  WalkO q loose XP YP l.row.toRowW d [] (fun f vs=>PySem.call f vs):=by
 intro w s₀ s₁ mg mb G Y fa o pm cd doc dV kV ho hd hcd hD hmg hg args vals as hpre hlay hrd hwl hlo;obtain rfl:dV=.none:=Dflts.none hD hdf;obtain rfl:kV=.none:=Dflts.noKw hD;obtain⟨a,vs,ns,rfl,rfl,hobj,hints,hlen⟩:=jfP hn hpre hwl;refine enter_call (codeAny_mono (call w s₀ s₁ mg mb fa o pm cd doc a vs ns G Y ho (fd_plain hd) hcd hmg hobj hints hlen hg) fun r s' hq=>?_);obtain⟨rfl,h2,h3,h4⟩:=hq;exact⟨.inl ⟨.bool true,.bool true,[],rfl,fun _=>rfl,.bool true,jfQ l _,fun _=>⟨List.Pairwise.nil,fun _ hm=>(nomatch hm)⟩⟩,h2,h3,h4⟩
end Att
namespace L2
open PySem PySem.Spec PyProof.Rows
def jaR:∀ {vs:List Value}{ns:List Int},IntsAre vs ns->Vals (ns.map V.int) vs
 | _,_,.nil=>.nil
 | _,_,.cons n t h=>.cons ⟨t,rfl⟩ (jaR h)
def jnI (H:Hp):Prop:=∀ b,H b=none \/ ∃ o xs,H b=some (.frz o (.lst xs))
def jh3 {mb:Str->Option Value}{CX:CXT}{k:Nat}{fa:Addr}{s₁:Shared} 
  (KX:K.In s₁.heap) (hns:s₁.heap.Ns mainGlobals mg) (hb:s₁.heap.Ns builtinsNs mb) (hbb:∀ x:Str,x≠"__name__"->mb x=bootBuiltins x) (hlim:s₁.heap.NoLimit) (hg:s₁.gens=#[])
  (ha:s₁.heap.get? a=some { cls:=.type "list",data:=.seq vs.toArray }) (hi:IntsAre vs ns) (hl:ns.length<=sizeLine) (hr:Room k callerA)
  (F:∀ base:Heap,K.In base->base.Ns mainGlobals mg->FnOk P w K mg base CX k fa fd [x] sp) (hbind:∀ (s:Shared) (u:Value),BindsTo s fd ⟨[u],[]⟩ [(x,u)])
  (hsp:∀ H:Hp,jnI H->SqL K H a (ns.map V.int)->sp [.ref a] H (fun v _=>v=.bl true) fun _ _ _=>False)
  (hCX:∀ H e s',CX [] H s₁ (fun _ _ _=>False) e s'->False) :
  codeAny (model P w) callerA (.call (.ref fa) ⟨[.ref a],[]⟩) (fun r s'=>r=.ok (.ret (.bool true))/\OldK s₁.heap s'.heap/\s'.os=s₁.os/\AllBare s'.gens) s₁:=by
 have rv:=jaR hi;have lenV:=hi.length;have core:∀ H:Hp,jnI H->SqL K H a (ns.map V.int)->HOk P w H s₁.heap->(∀ b,H b≠none->b=a)->(H a≠none->K.lookup a=none) ->
   codeAny (model P w) callerA (.call (.ref fa) ⟨[.ref a],[]⟩) (fun r s'=>r=.ok (.ret (.bool true))/\OldK s₁.heap s'.heap/\s'.os=s₁.os/\AllBare s'.gens) s₁:=by
  intro H hO hS hok hA hK;have base_of:∀ {b:Addr}{o:Obj},s₁.heap.get? b=some o->H b=none->(jhP s₁.heap H).get? b=some o:=fun e n=>jhQ e n;have noA:∀ {b:Addr}{o:Obj}{es:Array DictEntry}{ep:Nat},s₁.heap.get? b=some o->o.data=.dict es ep->H b=none:=fun {b o es ep} e d=>by
   cases q:H b with
   | none=>rfl
   | some u=>
    have e':b=a:=hA b (by rw[q]; simp);subst e';rw[ha] at e; cases e;have d':Data.seq vs.toArray _=Data.dict es ep:=d;cases d'
  have nsK:∀ {b:Addr}{m:Str->Option Value},s₁.heap.Ns b m->(jhP s₁.heap H).Ns b m:=fun {b m} ⟨o,es,ep,e,d,r⟩=>⟨o,es,ep,base_of e (noA e d),d,r⟩;have hKb:K.In (jhP s₁.heap H):=fun b o e=>base_of (KX b o e) (by
   cases q:H b with
   | none=>rfl
   | some u=>
    have e':b=a:=hA b (by rw[q]; simp);subst e';rw[hK (by rw[q]; simp)] at e; cases e)
  have hM:Mod K mg (jhP s₁.heap H):=⟨hKb,nsK hns,⟨mb,nsK hb,hbb⟩,let ⟨mc,h1,h2⟩:=hlim; ⟨mc,nsK h1,h2⟩⟩;have e0:Env0 P w K mg (jhP s₁.heap H) callerA [] s₁ H:=⟨rfl,hM,fun b o e=>jkc e,Nat.le_of_eq (jfr _ _),trivial,fun b hb=>absurd (show b∈([]:List Addr) from hb) (by simp),hok,.of_eq hg⟩;refine codeAny_mono ((F _ hKb (nsK hns)).run callerA [] s₁ H ⟨[.ref a],[]⟩ [.ref a] [.ref a] _ _ hr e0 (hbind s₁ (.ref a)) (.cons rfl .nil) (hsp H hO hS)) fun r s' h=>?_;cases r with
  | error e=>exact (hCX H e s' h).elim
  | ok fl=>
   cases fl with
   | next=>exact False.elim h
   | brk=>exact False.elim h
   | cont=>exact False.elim h
   | ret u=>
    obtain⟨v,H',os,bare,un,hok',r',q⟩:=h;have q':v=.bl true:=q;subst q';obtain rfl:u=Value.bool true:=r';refine⟨rfl,OldK.of_keep fun b o e=>?_,os,bare⟩;cases q:H b with
    | none=>exact un.keep b o e q (by intro z; exact absurd (show b∈([]:List Addr) from z) (by simp)) (by simp)
    | some u=>
     rcases hO b with z | ⟨ob,xs,z⟩
     ·rw[q] at z; cases z
     ·have z2:=un.frzs b ob _ z;obtain⟨e1,_⟩:=hok b _ z;obtain⟨e2,_⟩:=hok' b _ z2;rw[e] at e1; cases e1;exact e2
 cases hk:K.lookup a with
 | some o=>
  have e:=KX a o hk;rw[ha] at e;cases e;refine core (fun _=>none) (fun _=>.inl rfl) (.inr ⟨_,vs.toArray,_,hk,rfl,rfl,rfl,by rw[Xg,lenV]; exact hl,by simpa using rv⟩) (fun b u z=>by have z':(none:Option HO)=some u:=z; cases z') (fun b z=>absurd rfl z) fun z=>absurd rfl z
 | none=>
  refine core (fun b=>if b=a then some (.frz { cls:=.type "list",data:=.seq vs.toArray } (.lst (ns.map V.int))) else none) (fun b=>?_) (.inl (.inr ⟨{ cls:=.type "list",data:=.seq vs.toArray },if_pos rfl⟩)) (fun b u z=>?_) (fun b z=>?_) fun _=>hk
  ·by_cases hb:b=a
   ·exact .inr ⟨_,_,if_pos hb⟩
   ·exact .inl (if_neg hb)
  ·by_cases hb:b=a
   ·have z':=(if_pos hb).symm.trans z;cases z';subst hb;exact⟨ha,by rw[Xj]; exact hl,vs,_,rv,ha⟩
   ·have z':=(if_neg hb).symm.trans z;cases z'
  ·by_cases hb:b=a
   ·exact hb
   ·exact absurd (if_neg hb) z
def walk_of {l:W.OpenLaw}{k:Nat}{q:Program}{d:DefRec}{K:Params->W.Frag}{CX:World->CXT}{sp:World->Sp} 
  (hn:l.most=some n) (hn2:n<=sizeLine) (hdf:d.params.defaults=[]) (hr:Room k callerA)
  (hY:∀ (w:World) (h:Heap),YP w h->(K w.params).In h)
  (F:∀ (w:World) (mg:Str->Option Value) (fa:Addr) (h:Heap),(K w.params).In h->h.Ns mainGlobals mg->mg d.name=some (.ref fa) ->
   ∃ fd:FuncData,(∀ (s:Shared) (u:Value),BindsTo s fd ⟨[u],[]⟩ [(x,u)]) /\
    ∀ base:Heap,(K w.params).In base->base.Ns mainGlobals mg->FnOk l.prog w (K w.params) mg base (CX w) k fa fd [x] (sp w))
  (hsp:∀ (w:World) (H:Hp) (a:Addr) (ns:List Int),ns.length<=n->jnI H->SqL (K w.params) H a (ns.map V.int)->sp w [.ref a] H (fun v _=>v=.bl true) fun _ _ _=>False)
  (hCX:∀ (w:World) (H:Hp) (s:Shared) (e:Value) (s':Shared),CX w [] H s (fun _ _ _=>False) e s'->False) :
  W.WalkO q loose XP YP l.row.toRowW d [] (fun f vs=>PySem.call f vs):=by
 refine Att.attach_call hn hdf fun w s₀ s₁ mg mb fa o pm cd doc a vs ns G Y ho hd hcd hmg hobj hints hlen hg=>?_;have KX:=hY w _ Y;obtain⟨fd,hb,hF⟩:=F w mg fa _ KX G.T.g hmg;exact jh3 KX G.T.g G.T.b G.T.builtins G.T.nolimit hg hobj hints (XV hlen hn2) hr hF hb (fun H hO hS=>hsp w H a ns hlen hO hS) fun H e s'=>hCX w H s₁ e s'
def jx (s:Stmt) (j:Nat):Stmt:=match s with
 | .ClassDef _ _ _ body _ _ _ _ _ _ _=>body.getD j (.Pass ⟨0,0,0,0⟩)
 | _=>.Pass ⟨0,0,0,0⟩
def yl (s:Stmt):Arguments:=match s with
 | .FunctionDef _ a _ _ _ _ _ _ _ _=>a
 | _=>{ posonlyargs:=[],args:=[],vararg:=none,kwonlyargs:=[],kw_defaults:=[],kwarg:=none,defaults:=[] }
def xf (s:Stmt):List Stmt:=match s with
 | .FunctionDef _ _ b _ _ _ _ _ _ _=>b
 | _=>[]
def jh (s:Stmt):Scope:=match s with
 | .FunctionDef _ _ _ _ _ _ sc _ _ _=>sc
 | _=>{ kind:=.function,names:=[],isGenerator:=false,isCoroutine:=false }
abbrev CX0:CXT:=fun _ _ _ _ _ _=>False
abbrev E0:XK:=fun _ _ _=>False
def jex:Vo CX0 X E0:=fun _ _ _ _ _ _ _ h=>h.elim
structure Fun (K:W.Frag) (x qual:Str) (st:Stmt) (f:Addr) (fd:FuncData):Prop where
 ex:∃ (oc:Value) (od:Option Addr) (kV doc pm:Value) (an:Option Addr) (cdv ct:Value) (osl:Array (Option Value)),
  fd=W.fnOf x qual (yl st) (xf st) (jh st) .none kV doc pm an cdv ct/\K.lookup f=some ⟨oc,od,.func fd,osl⟩/\W.codeIn K cdv qual=true
 kp:W.keepIn K (.ref f)=true
section
def Fun.ok {f:Addr}{k:Nat} (F:Fun K x qual st f fd) (S:FnScope N ps (jh st)) (len:∀ vs H Q E,sp vs H Q E->vs.length=ps.length)
  (hbody:∀ (cdv:Value) (A:Around) (outer:List Env) (s:Shared) (H:Hp) (vs:List V) (Q:VK) (E:XK),Room k (A.deeper (envOfC qual (jh st) s.heap.objs.size f cdv))->sp vs H Q E ->
   ∃ t,PSs (jfG CX0 P w K mg base N qual (jh st) f cdv A outer s H E).nox (xf st) t/\t { nx:=fun _ H'=>Q .non H',rt:=Q } (GV N vs) H):FnOk P w K mg base CX0 (k+1) f fd ps sp:=by
 obtain⟨oc,od,kV,doc,pm,an,cdv,ct,osl,rfl,lk,hcd⟩:=F.ex;refine jl7 lk hcd S len fun A outer s H vs Q E hr hsp=>?_;obtain⟨t,h,q⟩:=hbody cdv A outer s H vs Q E hr hsp;exact⟨t,h.nox,q⟩
def Fun.binds {f:Addr} (F:Fun K x qual st f fd)
  (h:∀ (kV doc pm:Value) (an:Option Addr) (cdv ct:Value) (us:List Value),us.length=ps.length->bindArgs (W.fnOf x qual (yl st) (xf st) (jh st) .none kV doc pm an cdv ct) ⟨us,[]⟩=pure (ps.zip us)):Binds K fd ps []:=by
 obtain⟨oc,od,kV,doc,pm,an,cdv,ct,osl,rfl,lk,hcd⟩:=F.ex;exact .all (h kV doc pm an cdv ct)
def jdx {f:Addr}{kV ct:Value} (l:K.lookup f=some ⟨oc,od,.func (W.fnOf x qual (yl st) (xf st) (jh st) .none kV doc pm an cdv ct),osl⟩)
  (c:W.codeIn K cdv qual=true) (k:W.keepIn K (.ref f)=true):Fun K x qual st f (W.fnOf x qual (yl st) (xf st) (jh st) .none kV doc pm an cdv ct):=⟨⟨oc,od,kV,doc,pm,an,cdv,ct,osl,rfl,l,c⟩,k⟩
end
section
def pv (i:Nat) (hN:X.N[i]?=some x:=by rfl) (hv:Vis X.env.scope x:=by first | exact Or.inl rfl | exact Or.inr (Or.inl rfl) | exact Or.inr (Or.inr rfl)) (hd:(x==("__debug__":Str))=false:=by decide)
  (hcd:(x==("__classdict__":Str))=false:=by decide):PE X (.Name x pos) (JJ i):=jl1 hN hv hd hcd
end
def jdy {A B:Prop} (h:B):if false=true then A else B:=by
 rw[if_neg Xh];exact h
def jdz {A B:Prop} (h:A):if true=true then A else B:=by
 rw[if_pos rfl];exact h
def Same (H H':Hp):Prop:=∀ b o,H b=some o->H' b=some o
def Same.refl (H:Hp):Same H H:=fun _ _ h=>h
def Same.trans {H2:Hp} (a:Same H H1) (b:Same H1 H2):Same H H2:=fun c o h=>b c o (a c o h)
def Same.free (e:Same H H') {l:Addr} (h:H' l=Option.none):H l=Option.none:=by
 cases q:H l with
 | none=>rfl
 | some o=>
  rw[e l o q] at h;cases h
def Same.seq (e:Same H H') (h:SqL K H a xs):SqL K H' a xs:=by
 rcases h with (h | ⟨o,h⟩) | h
 ·exact .inl (.inl (e _ _ h))
 ·exact .inl (.inr ⟨o,e _ _ h⟩)
 ·exact .inr h
end L2
namespace MB
open PySem
def and_nat (a b:Nat):Builtin.bitAnd (a:Int) (b:Int)=((a &&& b:Nat):Int):=by
 unfold Builtin.bitAnd;have h1:decide (0<=(a:Int))=true:=by simp
 have h2:decide (0<=(b:Int))=true:=by simp
 rw[h1,h2];simp
def jey {b m:Nat} (hm:b<2 ^ m) (hmn:m<=n):(List.range m).filter (fun t=>b.testBit t)=(List.range n).filter (fun t=>b.testBit t):=by
 obtain⟨k,rfl⟩:=Nat.exists_eq_add_of_le hmn
 induction k with
 | zero=>rfl
 | succ k ih=>
  rw[show m+(k+1)=(m+k)+1 from rfl,List.range_succ,List.filter_append,<- ih (by omega)];have:b.testBit (m+k)=false:=Nat.testBit_lt_two_pow (Nat.lt_of_lt_of_le hm (Nat.pow_le_pow_right (by decide) (by omega)));simp[this]
def jko (b:Nat):b<2 ^ Builtin.Int.intBits (b:Int):=by
 have:=(PySem.intBits_le_iff (m:=Builtin.Int.intBits (b:Int)) (x:=(b:Int))).mp (Nat.le_refl _);simpa using this
def bits_le {b m:Nat} (h:b<2 ^ m):Builtin.Int.intBits (b:Int)<=m:=PySem.intBits_le_iff.mpr (by simpa using h)
def things_eq {b:Nat} (h:b<2 ^ n):(List.range (Builtin.Int.intBits (b:Int))).filter (fun t=>b.testBit t)=(List.range n).filter (fun t=>b.testBit t):=jey (jko b) (bits_le h)
end MB
namespace L2
open PySem PySem.Spec PyProof.Rows
def ane {a b:Nat} (h:a<b \/ b<a):@Ne Addr a b:=fun e=>by
 have e':(a:Nat)=b:=e;omega
def clo (env:Env):List (Str×NameKind)->List (Str×Addr)->List (Str×Addr)
 | [],acc=>acc
 | (n,k)::r,acc=>if k==.free then clo env r ((n,(env.cells.lookup n).getD 0)::acc) else clo env r acc
def Uo (h:∀ x∈scope.names,x.2=.free->∃ c,env.cells.lookup x.1=some c):closureFor scope env=pure (clo env scope.names []):=by
 unfold closureFor;have key:∀ (l:List (Str×NameKind)) (acc:List (Str×Addr)),(∀ x∈l,x.2=.free->∃ c,env.cells.lookup x.1=some c) ->
   ∀ (f:Str×NameKind->List (Str×Addr)->Sem (ForInStep (List (Str×Addr)))),(∀ n k cs,f (n,k) cs=if (k==NameKind.free)=true then (do let a <- cellOf env n; pure (ForInStep.yield ((n,a)::cs))) else pure (ForInStep.yield cs)) ->
   forIn l acc f=(pure (clo env l acc):Sem (List (Str×Addr))):=by
  intro l
  induction l with
  | nil=>intro acc _ f _; rfl
  | cons x r ih=>
   intro acc hl f hf;obtain⟨n,k⟩:=x;rw[List.forIn_cons,hf];have ih':=fun acc'=>ih acc' (fun y hy=>hl y (Xn _ hy)) f hf;show _=pure (if (k==NameKind.free)=true then _ else _);by_cases hk:(k==NameKind.free)=true
   ·obtain⟨c,hc⟩:=hl (n,k) Xo (by simpa using hk);have e:cellOf env n=pure c:=by unfold cellOf; rw[hc]
    rw[if_pos hk,if_pos hk,e,pure_bind,pure_bind,hc];exact ih' _
   ·rw[if_neg hk,if_neg hk,pure_bind];exact ih' _
 refine Eq.trans (congrArg (fun z=>z >>= fun cs=>pure cs) (key scope.names [] h _ fun n k cs=>?_)) (pure_bind _ _);by_cases hk:(k==NameKind.free)=true
 ·simp[hk]
 ·simp[hk]
def YV:∀ (l:List (Str×NameKind)) (acc:List (Str×Addr)),(∀ x∈l,x.2=.free->∃ c,env.cells.lookup x.1=some c)->(∀ y d,acc.lookup y=some d->env.cells.lookup y=some d) ->
  ∀ y d,(clo env l acc).lookup y=some d->env.cells.lookup y=some d
 | [],_,_,h,y,d,e=>h y d e
 | (n,k)::r,acc,hl,h,y,d,e=>by
  unfold clo at e;have hr:∀ x∈r,x.2=.free->∃ c,env.cells.lookup x.1=some c:=fun x hx=>hl x (Xn _ hx);by_cases hk:(k==NameKind.free)=true
  ·rw[if_pos hk] at e;obtain⟨c,hc⟩:=hl (n,k) Xo (by simpa using hk);refine YV r _ hr (fun z b hz=>?_) y d e;rw[XI] at hz;cases hb:z==n with
   | true=>rw[hb] at hz; rw[beq_iff_eq.mp hb,hc] ; rw[hc] at hz; exact hz
   | false=>rw[hb] at hz; exact h z b hz
  ·rw[if_neg hk] at e;exact YV r acc hr h y d e
def YW:∀ (l:List (Str×NameKind)) (acc:List (Str×Addr)),(l.lookup x=some .free \/ ∃ c,acc.lookup x=some c)->∃ c,(clo env l acc).lookup x=some c
 | [],_,h=>h.elim (fun e=>by cases e) id
 | (n,k)::r,acc,h=>by
  unfold clo;by_cases hk:(k==NameKind.free)=true
  ·rw[if_pos hk];refine YW r _ ?_;cases hb:x==n with
   | true=>exact .inr ⟨_,by rw[XI,hb]⟩
   | false=>
    rcases h with h | ⟨c,h⟩
    ·rw[XI,hb] at h; exact .inl h
    ·exact .inr ⟨c,by rw[XI,hb]; exact h⟩
  ·rw[if_neg hk];refine YW r _ ?_;rcases h with h | h
   ·cases hb:x==n with
    | true=>
     rw[XI,hb] at h;cases h;exact absurd rfl hk
    | false=>rw[XI,hb] at h; exact .inl h
   ·exact .inr h
def xY:∀ (l:List (Str×NameKind)) (n:Nat) (acc:List (Str×Addr)),cellsFrom n l acc=cellsFrom n l []++acc
 | [],_,_=>rfl
 | (x,k)::r,n,acc=>by
  unfold cellsFrom;by_cases hk:(k==NameKind.cell)=true
  ·rw[if_pos hk,if_pos hk,xY r (n+1) ((x,n)::acc),xY r (n+1) [(x,n)],List.append_assoc];rfl
  ·rw[if_neg hk,if_neg hk,xY r n acc]
def Je {c:Addr}:∀ {l:List (Str×NameKind)}{n:Nat}{acc:List (Str×Addr)},(x,c)∈cellsFrom n l acc->(x,NameKind.cell)∈l \/ (x,c)∈acc
 | [],_,_,h=>.inr h
 | (y,k)::r,n,acc,h=>by
  unfold cellsFrom at h;by_cases hk:(k==NameKind.cell)=true
  ·rw[if_pos hk] at h;have hk':k=.cell:=by simpa using hk
   rcases Je h with z | z
   ·exact .inl (Xn _ z)
   ·rcases List.mem_cons.mp z with e | z
    ·cases e;subst hk';exact .inl Xo
    ·exact .inr z
  ·rw[if_neg hk] at h;rcases Je h with z | z
   ·exact .inl (Xn _ z)
   ·exact .inr z
def jfR {globals:Addr}{cl:List (Str×Addr)}{outer:Env}{Q:Env->Shared->Prop}
  (hQ:Q (newEnv scope s.heap.objs.size globals (cellsFrom (s.heap.objs.size+1) scope.names cl) qual none .none (some outer) builtinsNs)
   { s with heap:=pushCells (s.heap.push { cls:=.type "dict",data:=.dict #[] }) scope.names }) :
  wpAny M A (newFunctionEnv scope globals cl [] qual none .none (some outer)) Q E s:=by
 simp only[newFunctionEnv,Option.isSome_some,if_true];refine Xa (wpAny_alloc ?_);refine Xa (wpAny_layCells _ (fun name kind cells=>by cases hkc:kind==NameKind.cell <;> simp[hkc]) _ _ _ _ ?_);rw[show ({ s with heap:=s.heap.push { cls:=.type "dict",data:=.dict #[] } }:Shared).heap.objs.size=s.heap.objs.size+1 from Heap.size_push ..]
 exact Xa (Xb (Xb hQ))
def zq {env:Env}{x:Str}:∀ {names:List (Str×NameKind)}{q:NameKind},
  (names.map fun (n,k)=>if (k==NameKind.free&&env.scope.kind==.function&&env.kindOf n==some .cell) then (n,NameKind.cell) else (n,k)).lookup x=some q ->
  names.lookup x=some q \/ (names.lookup x=some .free/\q=.cell)
 | [],_,h=>by cases h
 | (n,k)::r,q,h=>by
  have ih:=@zq env x r q;have h':((if (k==NameKind.free&&env.scope.kind==.function&&env.kindOf n==some .cell)=true then (n,NameKind.cell) else (n,k))::(r.map fun (n,k)=>if (k==NameKind.free&&env.scope.kind==.function&&env.kindOf n==some .cell) then (n,NameKind.cell) else (n,k))).lookup x=some q:=h;rw[XI];by_cases hc:(k==NameKind.free&&env.scope.kind==.function&&env.kindOf n==some .cell)=true
  ·rw[if_pos hc,XI] at h';have hkf:k=.free:=by
    cases k <;> first | rfl | (simp at hc)
   subst hkf;cases hb:x==n with
   | true=>
    rw[hb] at h';cases h';exact .inr ⟨rfl,rfl⟩
   | false=>
    rw[hb] at h';exact ih h'
  ·rw[if_neg hc,XI] at h';cases hb:x==n with
   | true=>
    rw[hb] at h';exact .inl h'
   | false=>
    rw[hb] at h';exact ih h'
def jaS {R:Result->Shared->Prop}{elt target:Expr}{ifs:List Expr}{it acc:Value} (I:Nat->Shared->Prop)
  (turn:∀ n s,I n s->wpAny (model prog w) A (pyNext it) (fun r s₁=>match r with
   | none=>R (.ok .next) s₁
   | some v=>wpAny (model prog w) A (letOwnedTupleGo target it v) (fun _ s₁'=>wpAny (model prog w) A (assign target env v) (fun _ s₂=>
     wpAny (model prog w) A (forIn ifs true fun c r=>if r=true then do let ok <- isTrue c env (eval c env); pure (ForInStep.yield ok) else pure (ForInStep.yield r)) (fun ok s₃=>
      if ok=true then wpAny (model prog w) A (eval elt env) (fun x s₄=>
       wpAny (model prog w) A (call (.builtin "list.append") [acc,x]) (fun _ s₅=>∃ m,m<n/\I m s₅) (fun _ _=>False) s₄) (fun _ _=>False) s₃
      else ∃ m,m<n/\I m s₃) (fun _ _=>False) s₂) (fun _ _=>False) s₁') (fun _ _=>False) s₁) (fun _ _=>False) s)
  (n:Nat) (h:I n s) :
  codeAny (model prog w) A (.compLoop (.ListComp elt [⟨target,iter,ifs,0⟩] scope pos) 0 it acc env) R s:=by
 refine codeAny_loop rfl I (fun n s hI=>?_) n h;show wpAny _ A ((compTurn (.ListComp elt [⟨target,iter,ifs,0⟩] scope pos) 0 it acc env).onRaise (fun x=>do noteFrame x env; theTreesLotGoes x)) _ _ s;refine wpAny_noted ?_;rw[compTurn_list];refine Xa (wpAny_standAt (Xa (wb (turn n s hI) (fun r s₁ h₁=>?_) fun _ _ h'=>h'.elim)));cases r with
 | none=>exact Xb h₁
 | some v=>
  refine Xa (wb h₁ (fun _ s₁' h₁'=>?_) fun _ _ h'=>h'.elim);refine Xa (wb h₁' (fun _ s₂ h₂=>Xa (wb h₂ (fun ok s₃ h₃=>?_) fun _ _ h'=>h'.elim)) fun _ _ h'=>h'.elim);cases ok with
  | false=>exact Xb ⟨rfl,h₃⟩
  | true=>
   exact Xa (Xa (wb h₃ (fun x s₄ h₄=>Xa (wb h₄ (fun _ s₅ h₅=>Xb (Xb ⟨rfl,h₅⟩)) fun _ _ h'=>h'.elim)) fun _ _ h'=>h'.elim))
structure Blk where
 C:Addr
 s:Shared
 H:Hp
 ex:List Addr
def blk (X:Cx) (sc:Scope) (N:List Str) (b:Blk):Cx:=
 { X with N:=N,s₀:=b.s,H₀:=b.H,env:=compEnvC sc (cellsFrom (b.C+1) sc.names (clo X.env sc.names [])) b.C X.env,outer:=X.stack,stack:=X.stack,ex:=b.ex,fn:=fun x=>sc.names.lookup x==some .cell,pn:=[],xe:=fun _ _=>False }
def jaT (own:Nat) (ix:List Nat) (σ:St):St:=List.replicate own none++ix.map fun i=>(σ[i]?).join
structure BlkOk (X:Cx) (sc:Scope) (own:List Str) (ix:List Nat) (N:List Str):Prop where
 kind:sc.kind=.function
 nm:∀ x∈sc.names,sc.names.lookup x.1=some x.2
 fr:∀ x∈sc.names,x.2=.free->X.env.kindOf x.1=some .cell \/ X.env.kindOf x.1=some .free
 eq:N=own++ix.map fun i=>(X.N[i]?).getD Str.empty
 lt:∀ i∈ix,i<X.N.length
 isf:∀ i∈ix,sc.names.lookup ((X.N[i]?).getD Str.empty)=some .free
def jmd (B:BlkOk X sc own ix N) (I:Inv X pins σ H s) (hf:∀ b∈fp,jfv X pins H b)
  (hlt:∀ b:Nat,b∈fp->b<s.heap.objs.size) :
  Inv (blk X sc N ⟨s.heap.objs.size+1,s,H,fp⟩) [] (jaT own.length ix σ) (upd H s.heap.objs.size (.lst []))
   { s with heap:=pushCells ((s.heap.push { cls:=.type "list",data:=.seq ([]:List Value).toArray }).push { cls:=.type "dict",data:=.dict #[] }) sc.names }:=by
 have hfr:∀ x∈sc.names,x.2=.free->∃ c,X.env.cells.lookup x.1=some c:=fun x hx e=>I.ok.has x.1 (B.fr x hx e);have h0:H s.heap.objs.size=none:=I.fresh;have k1:∀ b o,s.heap.get? b=some o->(pushCells ((s.heap.push { cls:=.type "list",data:=.seq ([]:List Value).toArray }).push { cls:=.type "dict",data:=.dict #[] }) sc.names).get? b=some o:=
  fun b o e=>pushCells_keeps _ _ b o (Xd _ (Xd _ e))
 have sz1:(s.heap.push { cls:=.type "list",data:=.seq ([]:List Value).toArray }).objs.size=s.heap.objs.size+1:=Heap.size_push ..;have sz2:((s.heap.push { cls:=.type "list",data:=.seq ([]:List Value).toArray }).push { cls:=.type "dict",data:=.dict #[] }).objs.size=s.heap.objs.size+2:=by rw[Heap.size_push,sz1]
 have hD:(pushCells ((s.heap.push { cls:=.type "list",data:=.seq ([]:List Value).toArray }).push { cls:=.type "dict",data:=.dict #[] }) sc.names).get? s.heap.objs.size=some { cls:=.type "list",data:=.seq ([]:List Value).toArray }:=
  pushCells_keeps _ _ _ _ (Xd _ (Xi _ rfl))
 have okc:=cellsFrom_ok sc.names ((s.heap.push { cls:=.type "list",data:=.seq ([]:List Value).toArray }).push { cls:=.type "dict",data:=.dict #[] }) (s.heap.objs.size+2) [] ⟨fun _ _ hm=>(nomatch hm),List.Pairwise.nil⟩ (by rw[sz2]; exact Xe _);rw[sz2] at okc;have nsC:(pushCells ((s.heap.push { cls:=.type "list",data:=.seq ([]:List Value).toArray }).push { cls:=.type "dict",data:=.dict #[] }) sc.names).Ns (s.heap.objs.size+1) (fun _=>none):=by
  have q:=(Heap.Ns.new (s.heap.push { cls:=.type "list",data:=.seq ([]:List Value).toArray }) (.type "dict")).keeps (pushCells_keeps sc.names _);rw[sz1] at q;exact q
 have cells:∀ x c,(cellsFrom (s.heap.objs.size+1+1) sc.names (clo X.env sc.names [])).lookup x=some c ->
   ((x,c)∈cellsFrom (s.heap.objs.size+2) sc.names []) \/ X.env.cells.lookup x=some c:=fun x c e=>by
  rw[xY,List.lookup_append] at e;cases q:(cellsFrom (s.heap.objs.size+1+1) sc.names []).lookup x with
  | some d=>
   rw[q] at e;have e':d=c:=Option.some.inj e;subst e';exact .inl (X0 q)
  | none=>
   rw[q] at e;exact .inr (YV sc.names [] hfr (fun _ _ z=>nomatch z) x c e)
 have oldc:∀ (x:Str) (c:Nat),X.env.cells.lookup x=some c->c<s.heap.objs.size:=fun x c e=>(I.cell x c e).choose_spec.lt;have newc:∀ (x:Str) (c:Nat),(x,c)∈cellsFrom (s.heap.objs.size+2) sc.names []->s.heap.objs.size+2<=c:=fun x c e=>(okc.empty x c e).2;have ok:(blk X sc N ⟨s.heap.objs.size+1,s,H,fp⟩).Ok:=by
  refine⟨I.ok.mod,B.kind,I.ok.glob,I.ok.blt,Nat.le_succ _,fun x y c e1 e2=>?_,fun x hx=>?_,fun x c h1 e=>?_,I.ok.hd,I.ok.frames,.inl rfl,fun b hb=>⟨?_,fun x c e=>?_⟩,I.bs,XV I.ok.bsz I.sz,fun b o e hb=>?_,fun b hb z=>?_,I.stack,I.stkFree⟩
  ·rcases cells x c e1 with a1 | a1
   ·rcases cells y c e2 with a2 | a2
    ·exact name_of_addr okc.apart a1 a2
    ·have:=newc x c a1; have:=oldc y c a2; omega
   ·rcases cells y c e2 with a2 | a2
    ·have:=newc y c a2; have:=oldc x c a1; omega
    ·exact I.ok.inj x y c a1 a2
  ·show ∃ c,(cellsFrom (s.heap.objs.size+1+1) sc.names (clo X.env sc.names [])).lookup x=some c;have hx':(relabel sc X.env).names.lookup x=some .cell \/ (relabel sc X.env).names.lookup x=some .free:=hx;have hk:sc.names.lookup x=some .cell \/ sc.names.lookup x=some .free:=by
    rcases hx' with z | z
    ·rcases zq z with q | q
     ·exact .inl q
     ·exact .inr q.1
    ·rcases zq z with q | q
     ·exact .inr q
     ·cases q.2
   refine Option.isSome_iff_exists.mp (W.cellsFrom_some sc.names _ _ ?_);rcases hk with z | z
   ·exact .inl z
   ·obtain⟨c,q⟩:=YW (env:=X.env) sc.names [] (.inl z);exact .inr (by rw[q]; rfl)
  ·have h1':sc.names.lookup x=some .cell:=by
    have:(sc.names.lookup x==some NameKind.cell)=true:=h1;simpa using this
   have e':(cellsFrom (s.heap.objs.size+1+1) sc.names (clo X.env sc.names [])).lookup x=some c:=e;rw[xY,List.lookup_append] at e';obtain⟨d,q⟩:=Option.isSome_iff_exists.mp (W.cellsFrom_some sc.names (s.heap.objs.size+1+1) [] (.inl h1'));rw[q] at e';have e2:d=c:=Option.some.inj e';subst e2;have:=newc x d (X0 q);exact XV (Nat.le_add_right _ 2) this
  ·exact ane (.inl (Nat.lt_succ_of_lt (hlt b hb)))
  ·rcases cells x c e with a | a
   ·exact ane (.inr (Xr (hlt b hb) (XV (Nat.le_add_right _ 2) (newc x c a))))
   ·exact(hf b hb).2.2.2.2.1 x c a
  ·have z:=(hf b hb).2.2.2.1;rcases z with z | z
   ·exact I.ok.noex b o e z
   ·exact absurd (Xr (Xr (Xl e) I.ok.bsz) z) (XU _)
  ·have z':b∈frs X.stack:=z;rcases List.mem_cons.mp (I.stkSub b z') with q | q
   ·exact(hf b hb).2.1 q
   ·exact(hf b hb).2.2.1 q
 have un1:Un (frs X.stack) fp H (upd H s.heap.objs.size (.lst [])) s.heap (pushCells ((s.heap.push { cls:=.type "list",data:=.seq ([]:List Value).toArray }).push { cls:=.type "dict",data:=.dict #[] }) sc.names):=Un.laid k1 (Xe _) h0;refine⟨ok,rfl,I.bare,un1,⟨_,nsC,fun i x v e1 e2 e3=>?_⟩,fun x c e=>?_,?_,fun x c e=>?_,fun p hp=>absurd (show p∈([]:List (Addr×Obj)) from hp) (by simp),?_,?_⟩
 ·-- the names
  have e1':N[i]?=some x:=e1;have e2':(jaT own.length ix σ)[i]?=some (some v):=e2;unfold jaT at e2';by_cases hi:i<own.length
  ·rw[List.getElem?_append_left (by simpa using hi),List.getElem?_replicate] at e2';split at e2' <;> cases e2'
  ·rw[List.getElem?_append_right (by simpa using hi),List.length_replicate,Xw] at e2';rw[B.eq,List.getElem?_append_right (by omega),Xw] at e1';cases q:ix[i-own.length]? with
   | none=>rw[q] at e2'; cases e2'
   | some j=>
    rw[q] at e1' e2';have hj:j∈ix:=List.mem_of_getElem? q;have hjl:=B.lt j hj;have e1'':(X.N[j]?).getD Str.empty=x:=Option.some.inj e1';have ej:X.N[j]?=some x:=by
     cases q2:X.N[j]? with
     | none=>exact absurd (List.getElem?_eq_none_iff.mp q2) (by omega)
     | some y=>rw[q2] at e1''; rw[<- e1'']; rfl
    have hfree:sc.names.lookup x=some .free:=by rw[<- e1'']; exact B.isf j hj
    have e2'':(σ[j]?).join=some v:=Option.some.inj e2';have es:σ[j]?=some (some v):=by
     cases q3:σ[j]? with
     | none=>rw[q3] at e2''; cases e2''
     | some o=>rw[q3] at e2''; exact congrArg some e2''
    have hk:=B.fr (x,.free) (X0 hfree) rfl;obtain⟨m,hn,hl⟩:=I.loc;have vis:Vis X.env.scope x:=by
     rcases hk with z | z
     ·exact .inr (.inl z)
     ·exact .inr (.inr z)
    obtain⟨u,r,l⟩:=hl j x v ej es vis;refine⟨u,r,?_⟩;have lc:∃ c,X.env.cells.lookup x=some c/\s.heap.IsCell c (some u):=by
     rcases l with⟨z,_⟩ | ⟨_,c,e,z⟩
     ·have z':X.env.kindOf x=some .local:=z;rcases hk with y | y <;> (rw[z'] at y; cases y)
     ·exact⟨c,e,z⟩
    obtain⟨c,ec,hc⟩:=lc;obtain⟨d,ed⟩:=YW (env:=X.env) sc.names [] (.inl hfree);have edc:d=c:=by
     have:=YV sc.names [] hfr (fun _ _ z=>nomatch z) x d ed;rw[ec] at this;exact(Option.some.inj this).symm
    subst edc;have lk:(cellsFrom (s.heap.objs.size+1+1) sc.names (clo X.env sc.names [])).lookup x=some d:=by
     rw[xY,List.lookup_append];cases q4:(cellsFrom (s.heap.objs.size+1+1) sc.names []).lookup x with
     | none=>exact ed
     | some d'=>
      rcases Je (X0 q4) with z | z
      ·have:=B.nm _ z;rw[hfree] at this;cases this
      ·cases z
    refine .inr ⟨?_,d,lk,hc.keeps k1⟩;have vis2:Vis (relabel sc X.env) x:=e3;rcases vis2 with z | z | z
    ·have z':(relabel sc X.env).names.lookup x=some .local:=z;rcases zq z' with q5 | q5
     ·rw[hfree] at q5; cases q5
     ·cases q5.2
    ·exact .inl z
    ·exact .inr z
 ·rcases cells x c e with a | a
  ·exact⟨none,(okc.empty x c a).1⟩
  ·obtain⟨v,z⟩:=I.cell x c a;exact⟨v,z.keeps k1⟩
 ·show upd H s.heap.objs.size (.lst []) (s.heap.objs.size+1)=none;rw[km (ane (.inr (Nat.lt_succ_self _)))];exact I.hok.fresh (Nat.le_succ _)
 ·rcases cells x c e with a | a
  ·have h2:=newc x c a;rw[km (ane (.inr (Xr (Nat.lt_add_of_pos_right (by decide)) h2)))];exact I.hok.fresh (XV (Nat.le_add_right _ 2) h2)
  ·have h2:=oldc x c a;rw[km (ane (.inl h2))];exact I.freeC x c a
 ·exact I.hok.laid k1 (Xe _) ⟨wa _,[],0,.nil,hD⟩
 ·show (jaT own.length ix σ).length=N.length;rw[B.eq];unfold jaT;simp
def PIf (Y:Cx) (ifs:List Expr) (t:TT):Prop:=∀ (pins:List (Addr×Obj)) (s:Shared) (σ:St) (H:Hp) (Q:Bool->Hp->Prop),Inv Y pins σ H s->t σ H Q ->
 wpAny (model Y.prog Y.w) Y.A (forIn ifs true fun c r=>if r=true then do let ok <- isTrue c Y.env (eval c Y.env); pure (ForInStep.yield ok) else pure (ForInStep.yield r)) (TP Y pins σ Q) Y.xe s
def joq:TT:=fun _ H Q=>Q true H
def xg {Y:Cx}:PIf Y [] joq:=fun _ _ σ H _ I h=>wpAny_tests_nil ⟨H,I,h⟩
def GG {Y:Cx}{c:Expr}{t:TT} (h:PT Y c t):PIf Y [c] t:=fun pins s σ H Q I q=>wpAny_tests_one (h pins s σ H Q I q)
def jjv (D:Addr) (J:It) (g:TG) (tc:TT) (te:TE) (σ0:St) (H1:Hp) (Q:VK):Prop:=
 ∃ W:Nat->Nat->List V->St->Hp->Prop,(∃ m,W 0 m [] σ0 (upd H1 D (.lst [])))/\∀ i m ys σ H,W i m ys σ H ->
  (J.stop i H/\Q (.ref D) H) \/ (J.go i H/\∃ N:List V->St->Hp->Prop,(∀ ys' σ' H',N ys' σ' H'->∃ m',m'<m/\W (i+1) m' ys' σ' H')/\∀ x H',J.yld i H x H'->g x σ H' fun σ2 H2=>tc σ2 H2 fun b H3=>
   if b=true then te σ2 H3 fun y H4=>H4 D=some (.lst ys)/\ys.length<sizeLine/\N (ys++[y]) σ2 (upd H4 D (.lst (ys++[y]))) else N ys σ2 H3)
section
variable {elt:Expr}{ifs:List Expr}{g:Blk->TG}{tc:Blk->TT}{te:Blk->TE} 
def jaU {Q:VK}{RR:Value->Addr->Result->Shared->Prop}{tn:Nat->Heap->Prop}{ok:Cx->Prop} (B:BlkOk X sc own ix N) (hc:∀ b:Blk,ok (blk X sc N b))
  (I:Inv X pins σ H s) (T:Turn X.prog X.w X.K tg J fp it tn ok) (t0:tn 0 s.heap) (hf:∀ b∈fp,jfv X pins H b)
  (hg:∀ b:Blk,PG (blk X sc N b) tg (g b)) (hi:∀ b:Blk,PIf (blk X sc N b) ifs (tc b)) (he:∀ b:Blk,PE (blk X sc N b) elt (te b))
  (hr:∀ (b:Blk) (D:Addr),H D=none->jjv D J (g b) (tc b) (te b) (jaT own.length ix σ) H Q)
  (hRR:∀ D C s' H' m,Inv X pins σ H' s'->jfv X pins H' C->s'.heap.Ns C m->Q (.ref D) H'->RR (.ref D) C (.ok .next) s') :
  wpAny (model X.prog X.w) X.A (newList []) (fun acc s₃=>wpAny (model X.prog X.w) X.A (newFunctionEnv sc X.env.globals (clo X.env sc.names []) [] X.env.qual none .none (some X.env)) (fun cenv s₄=>
   codeAny (model X.prog X.w) X.A (.compStart (.ListComp elt [⟨tg,iter,ifs,0⟩] sc pos) 0 (.ref it) acc { cenv with scope:=relabel sc X.env }) (RR acc cenv.locals) s₄) E s₃) E s:=by
 refine XN (jfR ?_);have sz1:(s.heap.push { cls:=.type "list",data:=.seq ([]:List Value).toArray }).objs.size=s.heap.objs.size+1:=Heap.size_push ..;have hlt:∀ b:Nat,b∈fp->b<s.heap.objs.size:=fun b hb=>by
  obtain⟨o,e,_⟩:=T.obj 0 _ t0 b hb;exact Xl e
 have IY:=jmd B I hf hlt;have k1:∀ b o,s.heap.get? b=some o->(pushCells ((s.heap.push { cls:=.type "list",data:=.seq ([]:List Value).toArray }).push { cls:=.type "dict",data:=.dict #[] }) sc.names).get? b=some o:=
  fun b o e=>pushCells_keeps _ _ b o (Xd _ (Xd _ e))
 dsimp only;rw[sz1];generalize hY:blk X sc N ⟨s.heap.objs.size+1,s,H,fp⟩=Y at IY;have hg':PG Y tg (g ⟨s.heap.objs.size+1,s,H,fp⟩):=hY ▸ hg _;have hi':PIf Y ifs (tc ⟨s.heap.objs.size+1,s,H,fp⟩):=hY ▸ hi _;have he':PE Y elt (te ⟨s.heap.objs.size+1,s,H,fp⟩):=hY ▸ he _;obtain⟨W,⟨m0,w0⟩,turn⟩:=hr ⟨s.heap.objs.size+1,s,H,fp⟩ s.heap.objs.size I.fresh;have eP:Y.prog=X.prog:=by rw[<- hY]; rfl
 have eW:Y.w=X.w:=by rw[<- hY]; rfl
 have eK:Y.K=X.K:=by rw[<- hY]; rfl
 have eA:Y.A=X.A:=by rw[<- hY]; rfl
 have eX:Y.xe=fun _ _=>False:=by rw[<- hY]; rfl
 have eC:ok Y:=by rw[<- hY]; exact hc _
 have eL:Y.env.locals=s.heap.objs.size+1:=by rw[<- hY]; rfl
 have eF:Y.fs=frs X.stack:=by rw[<- hY]; rfl
 have eE:Y.ex=fp:=by rw[<- hY]; rfl
 have eN:Y.pn=[]:=by rw[<- hY]; rfl
 have eS:Y.s₀=s:=by rw[<- hY]; rfl
 have eH:Y.H₀=H:=by rw[<- hY]; rfl
 have eEnv:compEnvC sc (cellsFrom (s.heap.objs.size+1+1) sc.names (clo X.env sc.names [])) (s.heap.objs.size+1) X.env=Y.env:=by rw[<- hY]; rfl
 have fpY:∀ {H':Hp},(∀ b∈fp,H' b=none)->∀ b∈fp,jfv Y [] H' b:=fun hn b hb=>by
  refine⟨hn b hb,?_,?_,.inl (by rw[eE]; exact hb),fun x c e=>?_,fun p hp=>?_⟩
  ·rw[eL];exact ane (.inl (Nat.lt_succ_of_lt (hlt b hb)))
  ·rw[eF];intro z;rcases List.mem_cons.mp (I.stkSub b z) with q | q
   ·exact(hf b hb).2.1 q
   ·exact(hf b hb).2.2.1 q
  ·exact(IY.ok.exf b (by rw[eE]; exact hb)).2 x c e
  ·rw[eN] at hp;exact absurd (show p∈([]:List (Addr×Obj)) from hp) (by simp)
 have fpC:∀ {σ':St}{H':Hp}{s':Shared},Inv Y [] σ' H' s'->jfv X pins H' (s.heap.objs.size+1):=fun {σ' H' s'} J'=>by
  refine⟨by have:=J'.free; rw[eL] at this; exact this,?_,I.nofs (Nat.le_succ _),.inr (XV I.sz (Nat.le_succ _)),fun x c e z=>?_,fun p hp z=>?_⟩
  ·exact ane (.inr (Nat.lt_succ_of_lt I.lt))
  ·obtain⟨v,q⟩:=I.cell x c e;exact ane (.inl (Nat.lt_succ_of_lt q.lt)) z
  ·exact ane (.inl (Nat.lt_succ_of_lt (Xl (I.pin p hp).1))) z
 have back:∀ {σ':St}{H':Hp}{s':Shared},Inv Y [] σ' H' s'->Inv X pins σ H' s':=fun {σ' H' s'} J'=>by
  refine I.call' (ch:=fp) ?_ ?_ ?_ J'.bare fun b hb=>?_
  ·have:=J'.os;rw[eS] at this;exact this
  ·have:=J'.base;rw[eS,eH,eF,eE] at this;exact this
  ·have:=J'.hok;rw[eP,eW] at this;exact this
  ·obtain⟨f0,f1,f2,f3,f4,f5⟩:=hf b hb;exact⟨f3,f1,f4,f5⟩
 have tests:=hi';have loop:codeAny (model X.prog X.w) X.A (.compLoop (.ListComp elt [⟨tg,iter,ifs,0⟩] sc pos) 0 (.ref it) (.ref s.heap.objs.size) Y.env) (RR (.ref s.heap.objs.size) (s.heap.objs.size+1))
   { s with heap:=pushCells ((s.heap.push { cls:=.type "list",data:=.seq ([]:List Value).toArray }).push { cls:=.type "dict",data:=.dict #[] }) sc.names }:=by
  refine jaS (fun n s'=>∃ i ys σ' H',Inv Y [] σ' H' s'/\tn i s'.heap/\(∀ b∈fp,H' b=none)/\W i n ys σ' H') ?_ m0
   ⟨0,[],_,_,IY,T.keep _ _ _ t0 fun b _ o e=>k1 b o e,fun b hb=>?_,w0⟩
  ·rintro n s3 ⟨i,ys,σ3,H3,I3,st3,fr3,w3⟩;rcases turn i n ys σ3 H3 w3 with⟨stop,qn⟩ | ⟨go,NN,hN,step⟩
   ·have td:=T.done Y eP eW eK eC i [] s3 σ3 H3 (fun _ _=>False) I3 (fpY fr3) st3 stop;rw[eA] at td;refine thn td fun r s4 ⟨hr',I4⟩=>?_;subst hr';obtain⟨m,hn,_⟩:=I4.loc;rw[eL] at hn;exact hRR _ _ s4 H3 m (back I4) (fpC I4) hn qn
   ·have ti:=T.item Y eP eW eK eC i [] s3 σ3 H3 (fun _ _=>False) I3 (fpY fr3) st3 go;rw[eA] at ti;refine thn ti fun r s4 ⟨u,hr',h4⟩=>?_;subst hr';refine thn h4 fun _ s5 ⟨x,H5,I5,r5,y5,st5,fr5⟩=>?_;have I5':=I5.pinned (fpY fr5) (T.obj _ _ st5);have hgx:=hg' _ s5 σ3 H5 x u _ I5' r5 (step x H5 y5);rw[eP,eW,eA,eX] at hgx;refine thn hgx fun _ s6 ⟨σ6,H6,I6,q6⟩=>?_;have hix:=hi' _ s6 σ6 H6 _ I6 q6;rw[eP,eW,eA,eX] at hix;refine thn hix fun ok s7 ⟨H7,I7,q7⟩=>?_;have again:∀ {σ8:St}{H8:Hp}{s8:Shared}{ys':List V},Inv Y ([]++jaF fp s5.heap) σ8 H8 s8->NN ys' σ8 H8->∃ m,m<n/\∃ i ys σ' H',Inv Y [] σ' H' s8/\tn i s8.heap/\(∀ b∈fp,H' b=none)/\W i m ys σ' H':=fun {σ8 H8 s8 ys'} I8 n8=>by
     obtain⟨m',hm,w8⟩:=hN ys' σ8 H8 n8;refine⟨m',hm,i+1,ys',σ8,H8,I8.unpinned,T.keep _ _ _ st5 fun b hb o e=>(I8.pin (b,o) (XL _ (XL _ (Qr hb e)))).1,fun b hb=>?_,w8⟩;obtain⟨o,e,d⟩:=T.obj _ _ st5 b hb;exact(I8.pin (b,o) (XL _ (XL _ (Qr hb e)))).2.1
    cases ok with
    | false=>
     rw[if_neg Xh] at q7 ⊢;exact again I7 q7
    | true=>
     rw[if_pos rfl] at q7 ⊢;have hex:=he' _ s7 σ6 H7 _ I7 q7;rw[eP,eW,eA,eX] at hex;refine thn hex fun y s8 ⟨yv,H8,I8,r8,hD8,hz8,n8⟩=>?_;have ap:=yM (X:=Y) _ s8 σ6 H8 (.ref s.heap.objs.size) [yv] (.ref s.heap.objs.size) [y] (fun v H9=>H9=upd H8 s.heap.objs.size (.lst (ys++[yv]))) I8 rfl (.cons r8 .nil) ⟨_,ys,yv,rfl,rfl,hD8,hz8,rfl⟩;rw[eP,eW,eA,eX] at ap;refine thn ap fun _ s9 ⟨_,H9,I9,_,e9⟩=>?_;subst e9;exact again I9 n8
  ·rw[km (ane (.inl (hlt b hb)))];exact(hf b hb).1
 have st:tn 0 (pushCells ((s.heap.push { cls:=.type "list",data:=.seq ([]:List Value).toArray }).push { cls:=.type "dict",data:=.dict #[] }) sc.names):=T.keep _ _ _ t0 fun b _ o e=>k1 b o e;have fin:=codeAny_compStart_list (elt:=elt) (target:=tg) (iter:=iter) (ifs:=ifs) (rest:=[]) (scope:=sc) (pos:=pos) loop (T.self _ 0 _ _ _ st loop);rw[<- eEnv] at fin;exact fin
def QJ (wi:TI) (n:Nat) (ix:List Nat) (g:Blk->TG) (tc:Blk->TT) (te:Blk->TE):TE:=fun σ H Q=>wi σ H fun J H1=>∀ (b:Blk) (D:Addr),H1 D=none->jjv D J (g b) (tc b) (te b) (jaT n ix σ) H1 Q
def k9 (B:BlkOk X sc own ix N) (hc:X.calm=true) (hiter:PI X tg iter wi) (hg:∀ b:Blk,PG (blk X sc N b) tg (g b)) (hi:∀ b:Blk,PIf (blk X sc N b) ifs (tc b)) (he:∀ b:Blk,PE (blk X sc N b) elt (te b))
  (hs:∀ x,foldedSetIterable iter X.env x=pure x:=by intro _; rfl):PE X (.ListComp elt [⟨tg,iter,ifs,0⟩] sc pos) (QJ wi own.length ix g tc te):=by
 intro pins s σ H Q I h;have hfr:∀ x∈sc.names,x.2=.free->∃ c,X.env.cells.lookup x.1=some c:=fun x hx e=>I.ok.has x.1 (B.fr x hx e);rw[eval_ListComp];refine wpAny_comprehension_free (use:=none) (g:=⟨tg,iter,ifs,0⟩) (gs:=[]) rfl hs (Uo hfr) B.kind (fun x hx e=>by rw[B.nm x hx,e]) ?_;refine thn (hiter pins s σ H _ I h) fun v s1 h1=>thn h1 fun itv s2 h2=>?_;obtain⟨it,fp,tn,J,H2,e,I2,T,st2,f2,q⟩:=h2;subst e;refine jaU (Q:=Q) B (fun _=>hc) I2 T st2 f2 hg hi he q fun D C s' H' m I' fC hn qq=>?_;exact⟨m,hn,fun h' hs'=>⟨.ref D,H',(I'.turned (t':=s'.toks) (fun b o hb e=>(hs'.2 b hb).trans e) fC.1 fC.2.1 fC.2.2.2.1 fC.2.2.2.2.1 fC.2.2.2.2.2),rfl,qq⟩⟩
def Qu {y:Str}{py spos:Pos} (B:BlkOk X sc own ix N) (hc:X.calm=true) (hiter:PI X tg iter wi) (hg:∀ b:Blk,PG (blk X sc N b) tg (g b)) (hi:∀ b:Blk,PIf (blk X sc N b) ifs (tc b)) (he:∀ b:Blk,PE (blk X sc N b) elt (te b))
  (hN:X.N.Nodup) (hy:X.N[i]?=some y) (hl:X.env.scope.names.lookup y=some .local)
  (hsw:swapsWith (.ListComp elt [⟨tg,iter,ifs,0⟩] sc pos) (some (.Name y py)) spos.line X.env=pure true:=by rfl)
  (hs:∀ x,foldedSetIterable iter X.env x=pure x:=by intro _; rfl):PS X (.Assign [.Name y py] (.ListComp elt [⟨tg,iter,ifs,0⟩] sc pos) spos) (VQ (QJ wi own.length ix g tc te) (ql i)):=by
 intro pins s σ H D0 I h;have hfr:∀ x∈sc.names,x.2=.free->∃ c,X.env.cells.lookup x.1=some c:=fun x hx e=>I.ok.has x.1 (B.fr x hx e);rw[exec_Assign_Name_used _ _ _ _ hsw];refine Xa (wpAny_standAt (Xa ?_));show wpAny _ _ (do let _ <- comprehension (.ListComp elt [⟨tg,iter,ifs,0⟩] sc pos) sc X.env _ (newList []) false (eval iter X.env) (some (assign (.Name y py) X.env))) _ _ s;refine Xa (wb (wpAny_comprehension_free (use:=some (assign (.Name y py) X.env)) (Q:=fun _ s'=>SP X pins D0 .next s') (g:=⟨tg,iter,ifs,0⟩) (gs:=[]) rfl hs (Uo hfr) B.kind (fun x hx e=>by rw[B.nm x hx,e]) ?_)
  (fun _ s' hq=>Xb (Xb hq)) fun _ _ e=>e)
 refine thn (hiter pins s σ H _ I h) fun v s1 h1=>thn h1 fun itv s2 h2=>?_;obtain⟨it,fp,tn,J,H2,e,I2,T,st2,f2,q⟩:=h2;subst e;refine jaU (Q:=fun x H1=>ql i x σ H1 D0.nx) B (fun _=>hc) I2 T st2 f2 hg hi he q fun D C s' H' m I' fC hn qq=>?_;show wpAny _ _ (assign (.Name y py) X.env (.ref D)) _ _ _;refine wpAny_assign_Name (jaC (v:=.ref D) I' hN hy (.inl hl) rfl (fun s'' I'' sb=>?_) (.inr hl));obtain⟨a,sb,ha⟩:=sb;have hCa:C≠a:=by
  rcases ha with z | z
  ·rw[z]; exact fC.2.1
  ·exact fun q=>fC.2.2.2.2.1 y a z q.symm
 refine⟨m,hn.sameBut sb hCa,fun h' hs'=>⟨_,H',I''.turned (t':=s''.toks) (fun b o hb e=>(hs'.2 b hb).trans e) fC.1 fC.2.1 fC.2.2.2.1 fC.2.2.2.2.1 fC.2.2.2.2.2,qq⟩⟩
end
inductive EqR (K:W.Frag) (H:Hp):Nat->V->V->Bool->Prop where
 | flat {n:Nat}{x y:V}:jaN x=true->jaN y=true->EqR K H n x y (eqV x y)
 | lst {n:Nat}{a b:Addr}{xs ys:List V}{e:Nat->Bool}:SqL K H a xs->SqL K H b ys->xs.length=ys.length->(∀ (j:Nat) x y,xs[j]?=some x->ys[j]?=some y->EqR K H n x y (e j)) ->
   EqR K H (n+1) (.ref a) (.ref b) ((List.range xs.length).all e)
 | lstL {n:Nat}{a b:Addr}{xs ys:List V}:SqL K H a xs->SqL K H b ys->xs.length≠ys.length->EqR K H (n+1) (.ref a) (.ref b) false
 | tup {n:Nat}{a b:Addr}{xs ys:List V}{e:Nat->Bool}:SqT K H a xs->SqT K H b ys->(∀ (j:Nat) x y,xs[j]?=some x->ys[j]?=some y->EqR K H n x y (e j)) ->
   EqR K H (n+1) (.ref a) (.ref b) ((List.range (min xs.length ys.length)).all e&&xs.length==ys.length)
def jh4:∀ {x:V},jaN x=true->eqV x x=true
 | .non,_=>rfl
 | .bl b,_=>by simp[eqV]
 | .int b,_=>by simp[eqV]
 | .str b,_=>by simp[eqV]
 | .byt _,h=>by cases h
 | .flt _,h=>by cases h
 | .ref _,h=>by cases h
 | .ty _,h=>by cases h
def EqR.refl_true (I:Inv X pins σ H s):∀ {n:Nat}{x y:V}{b:Bool},EqR X.K H n x y b->x=y->b=true:=by
 intro n x y b h
 induction h with
 | flat f1 f2=>intro e; subst e; exact jh4 f1
 | lst h1 h2 hl h3 ih=>
  intro e;cases e;have:=I.list_inj h1 h2;subst this;rw[List.all_eq_true];intro j hj;have hj':=List.mem_range.mp hj;exact ih j _ _ (Xc hj') (Xc hj') rfl
 | lstL h1 h2 hl=>
  intro e;cases e;exact absurd (by rw[I.list_inj h1 h2]) hl
 | tup h1 h2 h3 ih=>
  intro e;cases e;have:=I.tuple_inj h1 h2;subst this;rw[XB];refine⟨?_,by simp⟩;rw[List.all_eq_true];intro j hj;have hj':=List.mem_range.mp hj;rw[Nat.min_self] at hj';exact ih j _ _ (Xc hj') (Xc hj') rfl
def V2 (A:Around):A.in1.units=A.units+1:=rfl
def EqR.at (I:Inv X pins σ H s):∀ {n:Nat}{x y:V}{b:Bool},EqR X.K H n x y b->∀ {u v:Value}{A:Around},RelV x u->RelV y v->A.units+n<cLine ->
  SeqAt.EqAt A s u v b/\(jaN x=false->SeqAt.RcAt A s u v b/\SeqAt.RcNeAt A s u v (!b)):=by
 intro n x y b h
 induction h with
 | flat f1 f2=>intro u v A r1 r2 hu; exact ⟨jma r1 r2 f1 f2,fun z=>by rw[f1] at z; cases z⟩
 | @lst n a c xs ys e h1 h2 hl h3 ih=>
  intro u v A r1 r2 hu;cases r1;cases r2;obtain⟨its,q1,p1,_⟩:=I.list h1;obtain⟨its',q2,p2,_⟩:=I.list h2;have l1:=q1.length;have l2:=q2.length;have key:∀ j (g1:j<its.toArray.size) (g2:j<its'.toArray.size),SeqAt.EqAt A.in1 s its.toArray[j] its'.toArray[j] (e j):=fun j g1 g2=>by
   have g1':j<its.length:=by simpa using g1
   have g2':j<its'.length:=by simpa using g2
   obtain⟨x,hx,rx⟩:∃ x,xs[j]?=some x/\RelV x its[j]:=by
    obtain⟨u',hu',ru'⟩:=q1.get (Xc (by omega:j<xs.length));rw[Xc g1'] at hu';cases hu';exact⟨_,Xc (by omega),ru'⟩
   obtain⟨y,hy,ry⟩:∃ y,ys[j]?=some y/\RelV y its'[j]:=by
    obtain⟨u',hu',ru'⟩:=q2.get (Xc (by omega:j<ys.length));rw[Xc g2'] at hu';cases hu';exact⟨_,Xc (by omega),ru'⟩
   exact(ih j x y hx hy rx ry (by rw[V2]; omega)).1
  have hz:its.toArray.size=its'.toArray.size:=by simp; omega
  have hu':A.units<cLine:=by omega
  have e1:(List.range its.toArray.size).all e=(List.range xs.length).all e:=by rw[Xg,<- l1]
  have rc:SeqAt.RcAt A s (.ref a) (.ref c) ((List.range xs.length).all e):=by rw[<- e1]; exact SeqAt.RcAt.lists p1.isList p2.isList hz hu' key
  have rn:SeqAt.RcNeAt A s (.ref a) (.ref c) (!(List.range xs.length).all e):=by rw[<- e1]; exact SeqAt.RcNeAt.lists p1.isList p2.isList hz hu' key
  refine⟨?_,fun _=>⟨rc,rn⟩⟩;by_cases hac:a=c
  ·subst hac;have:(List.range xs.length).all e=true:=EqR.refl_true I (EqR.lst h1 h2 hl h3) rfl;rw[this];exact SeqAt.EqAt.same _
  ·exact SeqAt.EqAt.of_refs hac rc
 | @lstL n a c xs ys h1 h2 hl=>
  intro u v A r1 r2 hu;cases r1;cases r2;obtain⟨its,q1,p1,_⟩:=I.list h1;obtain⟨its',q2,p2,_⟩:=I.list h2;have l1:=q1.length;have l2:=q2.length;have hz:(its.toArray.size != its'.toArray.size)=true:=by simp; omega
  have hu':A.units<cLine:=by omega
  have rc:SeqAt.RcAt A s (.ref a) (.ref c) false:=SeqAt.RcAt.lists_lengths p1.isList p2.isList hz hu';refine⟨SeqAt.EqAt.of_refs (fun z=>?_) rc,fun _=>⟨rc,SeqAt.RcNeAt.lists_lengths p1.isList p2.isList hz hu'⟩⟩;subst z;exact hl (by rw[I.list_inj h1 h2])
 | @tup n a c xs ys e h1 h2 h3 ih=>
  intro u v A r1 r2 hu;cases r1;cases r2;obtain⟨its,q1,p1,_⟩:=I.tuple h1;obtain⟨its',q2,p2,_⟩:=I.tuple h2;have l1:=q1.length;have l2:=q2.length;have key:∀ j (g1:j<its.toArray.size) (g2:j<its'.toArray.size),SeqAt.EqAt A.in1 s its.toArray[j] its'.toArray[j] (e j):=fun j g1 g2=>by
   have g1':j<its.length:=by simpa using g1
   have g2':j<its'.length:=by simpa using g2
   obtain⟨x,hx,rx⟩:∃ x,xs[j]?=some x/\RelV x its[j]:=by
    obtain⟨u',hu',ru'⟩:=q1.get (Xc (by omega:j<xs.length));rw[Xc g1'] at hu';cases hu';exact⟨_,Xc (by omega),ru'⟩
   obtain⟨y,hy,ry⟩:∃ y,ys[j]?=some y/\RelV y its'[j]:=by
    obtain⟨u',hu',ru'⟩:=q2.get (Xc (by omega:j<ys.length));rw[Xc g2'] at hu';cases hu';exact⟨_,Xc (by omega),ru'⟩
   exact(ih j x y hx hy rx ry (by rw[V2]; omega)).1
  have hu':A.units<cLine:=by omega
  have e1:((List.range (min its.toArray.size its'.toArray.size)).all e&&its.toArray.size==its'.toArray.size)=((List.range (min xs.length ys.length)).all e&&xs.length==ys.length):=by rw[Xg,Xg,<- l1,<- l2]
  have rc:SeqAt.RcAt A s (.ref a) (.ref c) ((List.range (min xs.length ys.length)).all e&&xs.length==ys.length):=by rw[<- e1]; exact SeqAt.RcAt.tuples p1 p2 hu' key
  have rn:SeqAt.RcNeAt A s (.ref a) (.ref c) (!((List.range (min xs.length ys.length)).all e&&xs.length==ys.length)):=by rw[<- e1]; exact SeqAt.RcNeAt.tuples p1 p2 hu' key
  refine⟨?_,fun _=>⟨rc,rn⟩⟩;by_cases hac:a=c
  ·subst hac;have:((List.range (min xs.length ys.length)).all e&&xs.length==ys.length)=true:=EqR.refl_true I (EqR.tup h1 h2 h3) rfl;rw[this];exact SeqAt.EqAt.same _
  ·exact SeqAt.EqAt.of_refs hac rc
noncomputable def bq {α:Type} (a b:α):Bool:=@decide (a=b) (Classical.propDecidable (a=b))
def bq_iff {a b:α}:bq a b=true ↔ a=b:=by unfold bq; simp
def jh5 {a b:α} (h:¬ a=b):bq a b=false:=by
 cases e:bq a b with
 | false=>rfl
 | true=>exact absurd (bq_iff.mp e) h
def jjw [DecidableEq α] {a b:α}:bq a b=decide (a=b):=by
 rw[XJ,bq_iff,Xu]
structure Cod (α:Type) where
 dp:Nat
 rep:W.Frag->Hp->α->V->Prop
 mono:∀ {K H H' a x},Same H H'->rep K H a x->rep K H' a x
 eqr:∀ {K H a b x y},rep K H a x->rep K H b y->EqR K H dp x y (bq a b)
def Same.tupq (e:Same H H') (h:SqT K H a xs):SqT K H' a xs:=by
 rcases h with (h | ⟨o,h⟩) | h
 ·exact .inl (.inl (e _ _ h))
 ·exact .inl (.inr ⟨o,e _ _ h⟩)
 ·exact .inr h
def cInt:Cod Int where
 dp:=0
 rep:=fun _ _ i x=>x=.int i
 mono:=fun _ h=>h
 eqr:=fun {K H a b x y} h1 h2=>by
  subst h1; subst h2;have:bq a b=eqV (.int a) (.int b):=by rw[jjw,eqV,Bool.beq_eq_decide_eq]
  rw[this];exact EqR.flat rfl rfl
def Paired.getP {F:α->β->Prop}:∀ {l:List α}{m:List β}{j:Nat}{x:α}{y:β},Paired F l m->l[j]?=some x->m[j]?=some y->F x y
 | _,_,_,_,_,.nil,h,_=>by simp at h
 | _,_,0,_,_,.cons r _,h,h'=>by simp at h h'; subst h; subst h'; exact r
 | _,_,j+1,_,_,.cons _ t,h,h'=>Paired.getP (j:=j) t (by simpa using h) (by simpa using h')
def jme (l m:List α) (hl:l.length=m.length):(List.range l.length).all (fun j=>bq (l[j]?) (m[j]?))=bq l m:=by
 rw[XJ,List.all_eq_true,bq_iff];simp only[bq_iff,List.mem_range];constructor
 ·intro h;refine List.ext_getElem? fun j=>?_;by_cases hj:j<l.length
  ·exact h j hj
  ·rw[List.getElem?_eq_none (by omega),List.getElem?_eq_none (by omega)]
 ·intro h j _;rw[h]
def jfS (c:Cod α) {m:List α} (p:Paired (c.rep K H) l xs) (q:Paired (c.rep K H) m ys) (j:Nat) (x y:V) (hx:xs[j]?=some x) (hy:ys[j]?=some y) :
  EqR K H c.dp x y (bq (l[j]?) (m[j]?)):=by
 have h1:j<l.length:=by rw[p.length]; exact (List.getElem?_eq_some_iff.mp hx).1
 have h2:j<m.length:=by rw[q.length]; exact (List.getElem?_eq_some_iff.mp hy).1
 have e1:l[j]?=some l[j]:=Xc h1;have e2:m[j]?=some m[j]:=Xc h2;have r:=c.eqr (Paired.getP p e1 hx) (Paired.getP q e2 hy);have:bq (l[j]?) (m[j]?)=bq l[j] m[j]:=by
  rw[XJ,bq_iff,bq_iff,e1,e2,Option.some.injEq]
 rw[this];exact r
def joG (c:Cod α):Cod (List α) where
 dp:=c.dp+1
 rep:=fun K H l x=>∃ a xs,x=.ref a/\SqL K H a xs/\Paired (c.rep K H) l xs
 mono:=fun e ⟨a,xs,e1,h,p⟩=>⟨a,xs,e1,e.seq h,Paired.mapP p fun _ _=>c.mono e⟩
 eqr:=fun {K H l m x y} ⟨a,xs,e1,h1,p1⟩ ⟨b,ys,e2,h2,p2⟩=>by
  subst e1; subst e2;have g1:=p1.length;have g2:=p2.length;by_cases hl:l.length=m.length
  ·have r:=EqR.lst (n:=c.dp) h1 h2 (by omega) (jfS c p1 p2);rw[<- g1,jme l m hl] at r;exact r
  ·rw[jh5 (fun e=>hl (by rw[e]))];exact EqR.lstL h1 h2 (by omega)
def cPr (c:Cod α) (d:Cod β) (hd:c.dp=d.dp:=by rfl):Cod (α×β) where
 dp:=c.dp+1
 rep:=fun K H l x=>∃ a u v,x=.ref a/\SqT K H a [u,v]/\c.rep K H l.1 u/\d.rep K H l.2 v
 mono:=fun e ⟨a,u,v,e1,h,p,q⟩=>⟨a,u,v,e1,e.tupq h,c.mono e p,d.mono e q⟩
 eqr:=fun {K H l m x y} ⟨a,u,v,e1,h1,p1,q1⟩ ⟨b,u',v',e2,h2,p2,q2⟩=>by
  subst e1; subst e2;have r:=EqR.tup (n:=c.dp) (e:=fun j=>if j=0 then bq l.1 m.1 else bq l.2 m.2) h1 h2 (fun j x y hx hy=>by
   match j with
   | 0=>
    simp at hx hy;subst hx; subst hy;exact c.eqr p1 p2
   | 1=>
    simp at hx hy;subst hx; subst hy;have:=d.eqr q1 q2;rw[<- hd] at this;exact this
   | j+2=>simp at hx)
  have e:((List.range (min [u,v].length [u',v'].length)).all (fun j=>if j=0 then bq l.1 m.1 else bq l.2 m.2)&&[u,v].length==[u',v'].length)=bq l m:=by
   rw[XJ,bq_iff];have er:List.range (min [u,v].length [u',v'].length)=[0,1]:=rfl;rw[er];simp only[List.all_cons,List.all_nil,if_true,Bool.and_true,XB,bq_iff];obtain⟨l1,l2⟩:=l;obtain⟨m1,m2⟩:=m;simp[bq_iff]
  rw[<- e];exact r
def jor (K:W.Frag) (neg:Bool):R2:=fun x y H Q=>∃ n b,EqR K H n x y b/\n<=100/\jaN x=false/\Q (.bl (if neg then !b else b)) H
section
def jjx (hu:X.A.units+200<cLine):OpR X (compareOp .NotEq) (jor X.K true):=by
 intro pins s σ H x y v u Q I rx ry h;obtain⟨n,b,e,hn,hf,q⟩:=h;obtain⟨_,h2⟩:=EqR.at I e (A:=X.A) rx ry (by omega);exact(h2 hf).2 X.prog X.w X.xe _ ⟨.bl (!b),H,I,rfl,q⟩
def Cod.inj (c:Cod α) (I:Inv X pins σ H s) {a b:α}{x:V} (h1:c.rep X.K H a x) (h2:c.rep X.K H b x):a=b:=
 bq_iff.mp (EqR.refl_true I (c.eqr h1 h2) rfl)
def YX {F:α->V->Prop}:∀ {l:List α}{xs:List V}{us:List Value},Paired F l xs->Vals xs us->∀ u∈us,∃ a∈l,∃ x,F a x/\RelV x u
 | _,_,_,.nil,.nil,u,hu=>by cases hu
 | _,_,_,.cons r t,.cons r' t',u,hu=>by
  rcases List.mem_cons.mp hu with rfl | hu
  ·exact⟨_,Xo,_,r,r'⟩
  ·obtain⟨a,ha,x,h⟩:=YX t t' u hu;exact⟨a,Xn _ ha,x,h⟩
def jdA {F:α->V->Prop}:∀ {l:List α}{xs:List V}{us:List Value},Paired F l xs->Vals xs us->∀ a∈l,∃ u∈us,∃ x,F a x/\RelV x u
 | _,_,_,.nil,.nil,u,hu=>by cases hu
 | _,_,_,.cons r t,.cons r' t',a,ha=>by
  rcases List.mem_cons.mp ha with rfl | ha
  ·exact⟨_,Xo,_,r,r'⟩
  ·obtain⟨u,hu,x,h⟩:=jdA t t' a ha;exact⟨u,Xn _ hu,x,h⟩
def jnJ (K:W.Frag) (neg:Bool):R2:=fun x y H Q=>∃ (α:Type) (c:Cod α) (a:α) (l:List α) (p:Addr) (xs:List V) (k:Bool),c.dp<=100/\c.rep K H a x/\y=.ref p/\(SqL K H p xs \/ SqT K H p xs)/\Paired (c.rep K H) l xs /\
 (k=true ↔ a∈l)/\Q (.bl (if neg then !k else k)) H
open Classical in
def jb0 {c:Cod α}{x:V}{v:Value}{a:α}{k:Bool} (hu:X.A.units+200<cLine) (I:Inv X pins σ H s) (hn:c.dp<=100) (ra:c.rep X.K H a x) (rx:RelV x v)
  (p:Paired (c.rep X.K H) l xs) (r:Vals xs us) (hk:k=true ↔ a∈l) :
  (∀ y,y∈us.toArray->SeqAt.EqAt X.A.in1 s y v (decide (∃ z,RelV z y/\c.rep X.K H a z)))/\(us.toArray.any fun y=>decide (∃ z,RelV z y/\c.rep X.K H a z))=k:=by
 constructor
 ·intro y hy;obtain⟨b,hb,z,hz,rz⟩:=YX p r y (by simpa using hy);have q:=(EqR.at I (c.eqr hz ra) (A:=X.A.in1) rz rx (by rw[V2]; omega)).1;have e:bq b a=decide (∃ z,RelV z y/\c.rep X.K H a z):=by
   rw[XJ,bq_iff,Xu];constructor
   ·intro e; subst e; exact ⟨z,rz,hz⟩
   ·rintro⟨z',rz',hz'⟩;have:z'=z:=rz'.inj rz;subst this;exact c.inj I hz hz'
  rw[<- e];exact q
 ·rw[XJ,hk,Array.any_eq_true'];simp only[Xu];constructor
  ·rintro⟨y,hy,z,rz,hz⟩;obtain⟨b,hb,z',hz',rz'⟩:=YX p r y (by simpa using hy);have:z'=z:=rz'.inj rz;subst this;rw[c.inj I hz hz'];exact hb
  ·intro ha;obtain⟨u,hu',z,hz,rz⟩:=jdA p r a ha;exact⟨u,by simpa using hu',z,rz,hz⟩
open Classical in
def jjy (hu:X.A.units+200<cLine):OpR X (compareOp .In) (jnJ X.K false):=by
 intro pins s σ H x y v u Q I rx ry h;obtain⟨α,c,a,l,p,xs,k,hn,ra,e,hq,pr,hk,q⟩:=h;subst e;cases ry;rcases hq with hq | hq
 ·obtain⟨its,r,pl,hz⟩:=I.list hq;obtain⟨h1,h2⟩:=jb0 hu I hn ra rx pr r hk;exact SeqAt.in_listAt _ pl.isList h1 ⟨.bl k,H,I,by rw[h2]; rfl,q⟩
 ·obtain⟨its,r,pl,hz⟩:=I.tuple hq;obtain⟨h1,h2⟩:=jb0 hu I hn ra rx pr r hk;exact SeqAt.in_tupleAt _ pl h1 ⟨.bl k,H,I,by rw[h2]; rfl,q⟩
def jb1 {d:α} (h:i<l.length):l.getD i d=l[i]:=by
 rw[XZ,Xc h];rfl
def YY (bs:List Bool):(List.range bs.length).all (fun i=>bs.getD i false)=bs.all id:=by
 rw[XJ,List.all_eq_true,List.all_eq_true];constructor
 ·intro h b hb;obtain⟨j,hj,e⟩:=List.mem_iff_getElem.mp hb;have:=h j (List.mem_range.mpr hj);rw[jb1 hj,e] at this;exact this
 ·intro h j hj;have hj':=List.mem_range.mp hj;rw[jb1 hj'];exact h _ (List.getElem_mem hj')
def YZ (bs:List Bool):(List.range bs.length).any (fun i=>bs.getD i false)=bs.any id:=by
 rw[XJ,List.any_eq_true,List.any_eq_true];constructor
 ·rintro⟨j,hj,h⟩;have hj':=List.mem_range.mp hj;rw[jb1 hj'] at h;exact⟨_,List.getElem_mem hj',h⟩
 ·rintro⟨b,hb,h⟩;obtain⟨j,hj,e⟩:=List.mem_iff_getElem.mp hb;exact⟨j,List.mem_range.mpr hj,by rw[jb1 hj,e]; exact h⟩
def V3 {bs:List Bool} (r:Vals (bs.map V.bl) us):TruthOf P w A (fun i v=>us.toArray[i]?=some v) (fun i=>bs.getD i false):=by
 intro i v s Q E hv hq;have hi:i<us.length:=by
  have:=(Array.getElem?_eq_some_iff.mp hv).1;simpa using this
 have hl:=r.length;rw[Xj] at hl;have hb:i<bs.length:=by omega
 obtain⟨u,hu,ru⟩:=r.get (i:=i) (x:=.bl bs[i]) (by rw[Xw,Xc hb]; rfl);have:u=v:=by
  have hv':us[i]?=some v:=by simpa using hv
  rw[hu] at hv';exact Option.some.inj hv'
 subst this;cases ru;refine XM ?_;have e:bs.getD i false=bs[i]:=jb1 hb;rw[<- e];exact hq
def jdB (hc:X.calm=true):GS X (.builtin "all") (fun xs H Q=>∃ (p:Addr) (bs:List Bool),xs=[.ref p]/\SqL X.K H p (bs.map V.bl)/\Q (.bl (bs.all id)) H):=by
 intro pins s σ H xs us Q I r h;obtain⟨p,bs,e,hq,q⟩:=h;subst e;obtain⟨u,rfl,rx⟩:=r.one;cases rx;obtain⟨its,rv,pl,hz⟩:=I.list hq;have hl:=rv.length;rw[Xj] at hl;have hp:p<s.heap.objs.size:=by
  obtain⟨o,e,_⟩:=pl.isList;exact Xl e
 refine call_all_walk (wpAny_pyIter_list pl.isList ?_);refine⟨_,_,_,_,_,_,_,rfl,Walks.list (A:=X.A.in1) (I.ok.hd hc) s.heap.objs.size p (XO hp) its.toArray,⟨⟨_,Xi _ rfl,rfl,rfl⟩,pl.isList.at fun o e=>Xd _ e⟩,V3 rv,fun h' tk hk=>?_⟩;refine⟨.bl (bs.all id),H,I.kept (t':=tk) fun b o e=>hk b o ?_ (Xd _ e),?_,q⟩
 ·intro z;rcases List.mem_cons.mp z with z | z
  ·exact absurd (z ▸ Xl e) (XU _)
  ·cases z
 ·show Value.bool _=Value.bool _;rw[Xg,<- hl,YY]
def jh6 (hc:X.calm=true):GS X (.builtin "any") (fun xs H Q=>∃ (p:Addr) (bs:List Bool),xs=[.ref p]/\SqL X.K H p (bs.map V.bl)/\Q (.bl (bs.any id)) H):=by
 intro pins s σ H xs us Q I r h;obtain⟨p,bs,e,hq,q⟩:=h;subst e;obtain⟨u,rfl,rx⟩:=r.one;cases rx;obtain⟨its,rv,pl,hz⟩:=I.list hq;have hl:=rv.length;rw[Xj] at hl;have hp:p<s.heap.objs.size:=by
  obtain⟨o,e,_⟩:=pl.isList;exact Xl e
 refine call_any_walk (wpAny_pyIter_list pl.isList ?_);refine⟨_,_,_,_,_,_,_,rfl,Walks.list (A:=X.A.in1) (I.ok.hd hc) s.heap.objs.size p (XO hp) its.toArray,⟨⟨_,Xi _ rfl,rfl,rfl⟩,pl.isList.at fun o e=>Xd _ e⟩,V3 rv,fun h' tk hk=>?_⟩;refine⟨.bl (bs.any id),H,I.kept (t':=tk) fun b o e=>hk b o ?_ (Xd _ e),?_,q⟩
 ·intro z;rcases List.mem_cons.mp z with z | z
  ·exact absurd (z ▸ Xl e) (XU _)
  ·cases z
 ·show Value.bool _=Value.bool _;rw[Xg,<- hl,YZ]
def V4 (ns:List Int):∀ k,k<=ns.length->preSum (fun i=>ns.getD i 0) k=(ns.take k).sum
 | 0,_=>by simp[preSum]
 | k+1,h=>by
  rw[preSum,V4 ns k (by omega),List.take_succ_eq_append_getElem (by omega),List.sum_append,jb1 (by omega)];simp
def Up (hc:X.calm=true):GS X (.builtin "sum") (fun xs H Q=>∃ (p:Addr) (ns:List Int),xs=[.ref p]/\SqL X.K H p (ns.map V.int)/\Q (.int ns.sum) H):=by
 intro pins s σ H xs us Q I r h;obtain⟨p,ns,e,hq,q⟩:=h;subst e;obtain⟨u,rfl,rx⟩:=r.one;cases rx;obtain⟨its,rv,pl,hz⟩:=I.list hq;have hl:=rv.length;rw[Xj] at hl;have hp:p<s.heap.objs.size:=by
  obtain⟨o,e,_⟩:=pl.isList;exact Xl e
 refine call_sum_walkAnyS (wpAny_pyIter_list pl.isList ?_);refine⟨_,_,_,_,_,_,_,fun i=>ns.getD i 0,rfl,(Walks.list (A:=X.A.in1) (I.ok.hd hc) s.heap.objs.size p (XO hp) its.toArray).toS,⟨⟨_,Xi _ rfl,rfl,rfl⟩,pl.isList.at fun o e=>Xd _ e⟩,fun b hb=>?_,fun i v hv=>?_,fun s' t' hm=>?_⟩
 ·show b<(s.heap.push _).objs.size;rw[Heap.size_push];rcases List.mem_cons.mp hb with z | z
  ·exact z ▸ Nat.lt_succ_self _
  ·have z':b=p:=by simpa using z
   exact z' ▸ Nat.lt_succ_of_lt hp
 ·have hi:i<its.length:=by
   have:=(Array.getElem?_eq_some_iff.mp hv).1;simpa using this
  have hb:i<ns.length:=by omega
  obtain⟨u,hu,t,ru⟩:=rv.get (i:=i) (x:=.int ns[i]) (by rw[Xw,Xc hb]; rfl);have:u=v:=by
   have hv':its[i]?=some v:=by simpa using hv
   rw[hu] at hv';exact Option.some.inj hv'
  subst this;have e:ns.getD i 0=ns[i]:=jb1 hb;exact⟨t,by rw[ru,<- e]⟩
 ·obtain⟨hh,hg,hd,ho,_⟩:=hm;refine⟨.int ns.sum,H,?_,⟨t',?_⟩,q⟩
  ·obtain⟨h',g',d',tk',o'⟩:=s';have hg':g'=s.gens:=by first | exact hg | exact hg.symm
   have hd':d'=s.drawn:=by first | exact hd | exact hd.symm
   have ho':o'=s.os:=by first | exact ho | exact ho.symm
   subst hg'; subst hd'; subst ho';refine I.kept (t':=tk') fun b o e=>hh b o ?_ (Xd _ e);intro z;rcases List.mem_cons.mp z with z | z
   ·exact absurd (z ▸ Xl e) (XU _)
   ·cases z
  ·rw[Xg,<- hl,V4 ns _ (Xe _),List.take_length]
def jfT:MtR X "int.bit_length" (fun x vs H Q=>∃ i,x=.int i/\vs=[]/\Q (.int (Builtin.Int.intBits i)) H):=by
 intro pins s σ H x xs v us Q I rx rv h;obtain⟨i,e1,e2,q⟩:=h;subst e1; subst e2;obtain⟨t,rfl⟩:=rx;have:=rv.zero;subst this;exact call_gives F.slot_int_bit_length (typeIs_int s i t) F.entry_int_bit_length (F.args_int_bit_length_1 _) (AutoIntG2.int_bit_length_int_0 i t) ⟨.int _,H,I.tok _,⟨_,rfl⟩,q⟩
def jfU (i j:Int):Prop:=0<j/\j<2 ^ 1000
def Gs:OpR X (binaryOp .FloorDiv) (rI jfU fun i j=>.int (i / j)):=opI fun i j t u s Q E hc q=>by
 refine floordiv_int (by have:=hc.1; omega) ?_ (.inl (PyProof.noPylong_of_log2 ?_))
 ·rw[Int.fdiv_eq_ediv_of_nonneg _ (by have:=hc.1; omega)];exact q
 ·have h1:=hc.1;have h2:=hc.2;have:j.natAbs<2 ^ 1000:=by omega
  have h3:j.natAbs≠0:=by omega
  have:=(Nat.log2_lt h3).mpr this;omega
end
def jos (X:Cx) (sc:Scope) (ix:List Nat):Bool:=
 (sc.kind==.function)&&sc.names.all (fun x=>sc.names.lookup x.1==some x.2)&&sc.names.all (fun x=>x.2 != .free||(X.env.kindOf x.1==some .cell||X.env.kindOf x.1==some .free)) &&
  ix.all (fun i=>decide (i<X.N.length))&&ix.all (fun i=>sc.names.lookup ((X.N[i]?).getD Str.empty)==some .free)
def qD (h:jos X sc ix=true):BlkOk X sc own ix (own++ix.map fun i=>(X.N[i]?).getD Str.empty):=by
 unfold jos at h;simp only[XB,List.all_eq_true,beq_iff_eq,Xu,Bool.or_eq_true,bne_iff_ne] at h;obtain⟨⟨⟨⟨h1,h2⟩,h3⟩,h4⟩,h5⟩:=h;exact⟨h1,h2,fun x hx e=>(h3 x hx).resolve_left (fun z=>z e),rfl,h4,h5⟩
structure Def (P:Program) (w:World) (K:W.Frag) (mg:Str->Option Value) (base:Heap) (x:Str) (k:Nat) (ps:List Str) (sp:Sp):Prop where
 ex:∃ f fd,FnOk P w K mg base CX0 k f fd ps sp/\mg x=some (.ref f)/\W.keepIn K (.ref f)=true/\Binds K fd ps []
structure Mth (P:Program) (w:World) (K:W.Frag) (mg:Str->Option Value) (base:Heap) (C:Addr) (m:Str) (k:Nat) (ps:List Str) (sp:Sp):Prop where
 ex:∃ f fd,FnOk P w K mg base CX0 k f fd ps sp/\Meth K C m f/\Binds K fd ps []
 cl:Cls K C
structure Kls (P:Program) (w:World) (K:W.Frag) (mg:Str->Option Value) (base:Heap) (x:Str) (C:Addr) (k:Nat) (ps:List Str) (sp:Sp):Prop where
 ex:∃ f fd,Mk K C f/\FnOk P w K mg base CX0 k f fd ps sp/\mg x=some (.ref C)/\Binds K fd ps []
section
variable {k:Nat}{m:Str}{p:Pos}{o:Expr}{t:TA}
def jmf (D:Def X.prog X.w X.K X.mg X.base x k ps sp) (hr:Room k X.A) (hg:Gl X x) (ha:PA X (e::es) t) (hdb:(x==("__debug__":Str))=false:=by decide) (he:starEach (e::es) X.env=(false,eval e X.env)::starEach es X.env:=by rfl)
  (hpl:(backTo pos (starEach es X.env)).any (·.1)=false:=by rfl):PE X (.Call (.Name x p) (e::es) [] pos) (QZ sp [] E0 t):=by
 obtain⟨f,fd,F,hm,hk,hb⟩:=D.ex;exact jki F hr hg hm hk hb .nil jex ha hdb he hpl
def qE (D:Mth X.prog X.w X.K X.mg X.base C m k ps sp) (hr:Room k X.A) (ho:PE X o ta) (ha:PA X (e::es) t)
  (hst:starEach (e::es) X.env=(false,eval e X.env)::starEach es X.env:=by rfl) (hpl:(backTo pos (starEach es X.env)).any (·.1)=false:=by rfl)
  (ht:eval (.Call (.Attribute o m apos) (e::es) [] pos) X.env=(do
   let ov <- eval o X.env
   standAt apos.atName
   let (f,first) <- holding [ov] (getMethod ov m pl)
   callWith pos f first (backTo pos (starEach (e::es) X.env)) (backToKw pos (keywordEach [] X.env))):=by rfl) :
  PE X (.Call (.Attribute o m apos) (e::es) [] pos) (Q0 C m sp [] E0 ta t):=by
 obtain⟨f,fd,F,hm,hb⟩:=D.ex;exact jkj (pl:=pl) ho D.cl hm F hr hb .nil jex ha hst hpl ht
def yN (D:Mth X.prog X.w X.K X.mg X.base C m k ps sp) (hr:Room k X.A) (ho:PE X o ta)
  (ht:eval (.Call (.Attribute o m apos) [] [] pos) X.env=(do
   let ov <- eval o X.env
   standAt apos.atName
   let (f,first) <- holding [ov] (getMethod ov m pl)
   callWith pos f first (backTo pos (starEach [] X.env)) (backToKw pos (keywordEach [] X.env))):=by rfl) :
  PE X (.Call (.Attribute o m apos) [] [] pos) (Q0 C m sp [] E0 ta xq):=by
 obtain⟨f,fd,F,hm,hb⟩:=D.ex;exact jhW (pl:=pl) ho D.cl hm F hr hb .nil jex ht
def JF (D:Kls X.prog X.w X.K X.mg X.base x C k ps sp) (hr:Room (k+1) X.A) (hg:Gl X x) (ha:PA X (e::es) t) (hdb:(x==("__debug__":Str))=false:=by decide) (he:starEach (e::es) X.env=(false,eval e X.env)::starEach es X.env:=by rfl)
  (hpl:(backTo pos (starEach es X.env)).any (·.1)=false:=by rfl):PE X (.Call (.Name x p) (e::es) [] pos) (jaH C sp [] E0 t):=by
 obtain⟨f,fd,M,F,hm,hb⟩:=D.ex;exact jkk M F hr hg hm hb .nil jex ha hdb he hpl
end
def jb2 (r r' r'':R2) (ta tb tc td:TE):TE:=fun σ H Q=>ta σ H fun x H1=>tb σ H1 fun y H2=>r x y H2 fun z H3=>∃ k,z=.bl k /\
 (if k=true then tc σ H3 fun w' H4=>r' y w' H4 fun z' H5=>∃ k',z'=.bl k'/\(if k'=true then td σ H5 fun v' H6=>r'' w' v' H6 Q else Q (.bl false) H5) else Q (.bl false) H3)
section
variable {a b c d:Expr} 
def jfV {op op' op'':CmpOp}{r r' r'':R2} (ho:OpR X (compareOp op) r) (ho':OpR X (compareOp op') r') (ho'':OpR X (compareOp op'') r'') (ha:PE X a ta) (hb:PE X b tb) (hc:PE X c tc) (hd:PE X d td)
  (hm:lastMarks [op,op',op''] [b,c,d]=false:=by with_unfolding_all rfl):PT X (.Compare a [op,op',op''] [b,c,d] pos) (jfC (jb2 r r' r'' ta tb tc td)):=by
 intro pins s σ H Q I h;refine isTrue_chain (thn (ha pins s σ H _ I h) fun v s1 ⟨x,H1,I1,r1,q1⟩=>test_link (thn (hb pins s1 σ H1 _ I1 q1) fun u s2 ⟨y,H2,I2,r2,q2⟩=>
  thn (ho pins s2 σ H2 x y v u _ I2 r1 r2 q2) fun d s3 ⟨z,H3,I3,r3,k,e,q3⟩=>?_)) hm
 subst e;cases r3;refine XM ?_;cases k with
 | false=>
  obtain⟨k',e',q'⟩:=q3;cases e';exact ite_ff ⟨H3,I3,q'⟩
 | true=>
  refine ite_tt (test_link (thn (hc pins s3 σ H3 _ I3 q3) fun w' s4 ⟨z',H4,I4,r4,q4⟩=>thn (ho' pins s4 σ H4 y z' u w' _ I4 r2 r4 q4) fun d' s5 ⟨z2,H5,I5,r5,k2,e2,q5⟩=>?_));subst e2;cases r5;refine XM ?_;cases k2 with
  | false=>
   obtain⟨k',e',q'⟩:=q5;cases e';exact ite_ff ⟨H5,I5,q'⟩
  | true=>
   refine ite_tt (test_last (thn (hd pins s5 σ H5 _ I5 q5) fun w2 s6 ⟨z3,H6,I6,r6,q6⟩=>thn (ho'' pins s6 σ H6 z' z3 w' w2 _ I6 r4 r6 q6) fun d2 s7 ⟨z4,H7,I7,r7,k3,e3,q7⟩=>?_));subst e3;cases r7;exact XM ⟨H7,I7,q7⟩
end
structure Bi (mg:Str->Option Value):Prop where
 len_:mg "len"=none
 range_:mg "range"=none
 isinstance_:mg "isinstance"=none
 any_:mg "any"=none
 all_:mg "all"=none
 sum_:mg "sum"=none
 list_:mg "list"=none
 tuple_:mg "tuple"=none
 int_:mg "int"=none
 bool_:mg "bool"=none
 str_:mg "str"=none
 enumerate_:mg "enumerate"=none
 reversed_:mg "reversed"=none
 sorted_:mg "sorted"=none
 set_:mg "set"=none
 max_:mg "max"=none
 min_:mg "min"=none
 abs_:mg "abs"=none
 zip_:mg "zip"=none
def paired_ints:∀ l:List Int,Paired (cInt.rep K H) l (l.map V.int)
 | []=>.nil
 | _::r=>.cons rfl (paired_ints r)
def jnw (t:TS):TS:=fun D σ H=>∃ J:St->Hp->Prop,t { D with nx:=J } σ H/\∀ σ' H',J σ' H'->D.nx σ' H'
def jaV {t:TS} (h:PS X st t):PS X st (jnw t):=by
 intro pins s σ H D I q;obtain⟨J,q,hJ⟩:=q;refine thn (h pins s σ H { D with nx:=J } I q) fun f s1 r=>?_
 cases f with
 | next=>obtain⟨σ',H',I',j⟩:=r; exact ⟨σ',H',I',hJ σ' H' j⟩
 | ret v=>exact r
 | brk=>exact r
 | cont=>exact r
end L2
namespace L2
open PySem
def QK {k:Nat} (hr:Room k A):A.units+200<cLine:=by have:=hr.un; omega
end L2
namespace L2
open PySem PySem.Spec PyProof.Rows
section
def VR:∀ {l:List α}{xs:List β},l.length=xs.length->(∀ (i:Nat) a x,l[i]?=some a->xs[i]?=some x->R a x)->Paired R l xs
 | [],[],_,_=>.nil
 | [],_::_,h,_=>by simp at h
 | _::_,[],h,_=>by simp at h
 | a::l,x::xs,h,k=>.cons (k 0 a x rfl rfl) (VR (by simpa using h) fun i a' x' h1 h2=>k (i+1) a' x' (by simpa using h1) (by simpa using h2))
def jkp {a:Expr}{ta:TA}{p:Pos} (hg:Gl X "range") (hm:X.mg "range"=none) (ha:PA X [a] ta) (hs:starEach [a] X.env=[(false,eval a X.env)]:=by rfl) :
  PE X (.Call (.Name "range" p) [a] [] pos) (fun σ H Q=>ta σ H fun vs H1=>∃ j:Int,vs=[.int j]/\∀ x,H1 x=none->Q (.ref x) (upd H1 x (.rng 0 j))):=by
 intro pins s σ H Q I h;refine Call_ (JM I hg hm boot_range (XA (thn (ha pos pins s σ H _ I h) fun us s1 ⟨vs,H1,I1,r1,q1⟩=>?_) hs rfl));obtain⟨j,e,q⟩:=q1;subst e;cases r1 with
 | cons r rr=>
  cases rr;obtain⟨t,rfl⟩:=r;refine call_range_1 ?_;exact⟨.ref s1.heap.objs.size,_,I1.laid (o:=.rng 0 j) (fun b ob q=>Xd _ q) (Xe _) ⟨_,_,_,Xi _ rfl⟩,rfl,q _ (I1.hok.fresh (Xe _))⟩
def Yo (lo hi:Int):List Int:=(List.range (hi-lo).toNat).map fun k=>lo+((k:Nat):Int)
def Y0 (hc:X.calm=true):GS X (.type "list") (fun xs H Q=>∃ p lo hi,xs=[.ref p]/\H p=some (.rng lo hi)/\(-(2 ^ 62)<=lo/\lo<2 ^ 62/\-(2 ^ 62)<=hi/\hi<2 ^ 62)/\(hi-lo).toNat<=2 ^ 24/\∀ l,H l=none->Q (.ref l) (upd H l (.lst ((Yo lo hi).map V.int)))):=by
 intro pins s σ H xs us Q I r h;obtain⟨p,lo,hi,rfl,hp,⟨b1,b2,b3,b4⟩,hn,q⟩:=h;obtain⟨u,rfl,rx⟩:=US r;cases rx;obtain⟨t,u,v,e⟩:=I.hok p _ hp;refine call_list_range (n:=(hi-lo).toNat) (I.ok.hd hc) e ?_ ?_ hn fun h' tk acc' c' kp e' hacc=>?_
 ·exact small_one b1 b2 b3 b4
 ·unfold Builtin.Range.rangeSize;simp;split <;> omega
 ·refine⟨.ref s.heap.objs.size,_,I.laid (o:=.lst ((Yo lo hi).map V.int)) (t':=tk) kp (Xe _) ⟨?_,acc'.toList,c',?_,by simpa using e'⟩,rfl,q _ (I.hok.fresh (Xe _))⟩
  ·rw[Xj,Yo,Xj,List.length_range,Xx];exact hn
  ·refine VR (by rw[Xj,Yo,Xj,List.length_range,Xt,hacc.1]) fun i x v hx hv=>?_;rw[Xw] at hx;unfold Yo at hx;rw[Xw] at hx;cases hr:(List.range (hi-lo).toNat)[i]? with
   | none=>rw[hr] at hx; cases hx
   | some k=>
    rw[hr] at hx;have hk:k=i:=by
     obtain⟨h1,h2⟩:=List.getElem?_eq_some_iff.mp hr;simpa using h2.symm
    subst hk;cases hx;obtain⟨tk',e2⟩:=hacc.2 k v (by simpa using hv);exact⟨tk',by rw[e2,Int.mul_one]⟩
end
end L2
namespace L3
open PySem PySem.Spec L2
section
def bind_some {m:Option α}{f:α->Option β}{b:β} (h:m.bind f=some b):∃ a,m=some a/\f a=some b:=by
 cases m with
 | none=>cases h
 | some a=>exact ⟨a,rfl,h⟩
structure Cd (α:Type) where
 rep:W.Frag->Hp->α->V->Prop
 mono:∀ {K:W.Frag}{H H':Hp}{a:α}{x:V},Same H H'->rep K H a x->rep K H' a x
def cI:Cd Int:=⟨fun _ _ i v=>v=.int i,fun _ h=>h⟩
def cB:Cd Bool:=⟨fun _ _ i v=>v=.bl i,fun _ h=>h⟩
def cS:Cd Str:=⟨fun _ _ i v=>v=.str i,fun _ h=>h⟩
def cU:Cd Unit:=⟨fun _ _ _ v=>v=.non,fun _ h=>h⟩
def cL (c:Cd α):Cd (List α):=⟨fun K H l v=>∃ a xs,v=.ref a/\H a=some (.lst xs)/\Paired (c.rep K H) l xs,
 fun e ⟨a,xs,h1,h2,h3⟩=>⟨a,xs,h1,e _ _ h2,Paired.mapP h3 fun _ _=>c.mono e⟩⟩
def cT (c:Cd α):Cd (List α):=⟨fun K H l v=>∃ a xs,v=.ref a/\H a=some (.tup xs)/\Paired (c.rep K H) l xs,
 fun e ⟨a,xs,h1,h2,h3⟩=>⟨a,xs,h1,e _ _ h2,Paired.mapP h3 fun _ _=>c.mono e⟩⟩
def cP (c:Cd α) (d:Cd β):Cd (α×β):=⟨fun K H l w=>∃ a u v,w=.ref a/\H a=some (.tup [u,v])/\c.rep K H l.1 u/\d.rep K H l.2 v,
 fun e ⟨a,u,v,h1,h2,h3,h4⟩=>⟨a,u,v,h1,e _ _ h2,c.mono e h3,d.mono e h4⟩⟩
def cScr:Cd (List Int):=⟨fun K H l v=>∃ a,v=.ref a/\SqL K H a (l.map V.int),fun e ⟨a,h1,h2⟩=>⟨a,h1,e.seq h2⟩⟩
def EqR.up:∀ {n:Nat}{x y:V}{b:Bool},EqR K H n x y b->∀ {m},n<=m->EqR K H m x y b:=by
 intro n x y b h
 induction h with
 | flat f1 f2=>intro m _; exact .flat f1 f2
 | lst h1 h2 hl _ ih=>
  intro m hm;cases m with
  | zero=>omega
  | succ m=>exact .lst h1 h2 hl fun j x y hx hy=>ih j x y hx hy (by omega)
 | lstL h1 h2 hl=>
  intro m hm;cases m with
  | zero=>omega
  | succ m=>exact .lstL h1 h2 hl
 | tup h1 h2 _ ih=>
  intro m hm;cases m with
  | zero=>omega
  | succ m=>exact .tup h1 h2 fun j x y hx hy=>ih j x y hx hy (by omega)
def EqC (n:Nat) (c:Cd α):Prop:=∀ {K:W.Frag}{H:Hp}{a b:α}{x y:V},c.rep K H a x->c.rep K H b y->EqR K H n x y (bq a b)
def Cd.cod (c:Cd α) (h:EqC n c):Cod α:=⟨n,c.rep,c.mono,h⟩
def eqI:EqC 0 cI:=fun h1 h2=>cInt.eqr h1 h2
def eqL {c:Cd α} (h:EqC n c):EqC (n+1) (cL c):=fun {K H a b x y} ⟨p,xs,e1,e2,e3⟩ ⟨q,ys,f1,f2,f3⟩=>
 (joG (c.cod h)).eqr (K:=K) (H:=H) (a:=a) (b:=b) ⟨p,xs,e1,SqL.of e2,e3⟩ ⟨q,ys,f1,SqL.of f2,f3⟩
def EqC.up {m:Nat}{c:Cd α} (h:EqC n c) (hm:n<=m):EqC m c:=fun h1 h2=>EqR.up (h h1 h2) hm
def eqP {m:Nat}{c:Cd α}{d:Cd β} (h:EqC n c) (h':EqC m d):EqC (max n m+1) (cP c d):=fun {K H a b x y} ⟨p,u,v,e1,e2,e3,e4⟩ ⟨q,u',v',f1,f2,f3,f4⟩=>
 (cPr (c.cod (h.up (Nat.le_max_left n m))) (d.cod (h'.up (Nat.le_max_right n m)))).eqr (K:=K) (H:=H) (a:=a) (b:=b) ⟨p,u,v,e1,SqT.of e2,e3,e4⟩ ⟨q,u',v',f1,SqT.of f2,f3,f4⟩
def Fr:Option HO->Prop
 | none=>True
 | some (.tup _)=>True
 | _=>False
def Y1 (h:H a=none):Fr (H a):=by rw[h]; trivial
def jmg (h:H a=some (.tup xs)):Fr (H a):=by rw[h]; trivial
def jkq (s:Same H H') (h:Fr (H' a)):Fr (H a):=by
 cases q:H a with
 | none=>trivial
 | some o=>rw[s a o q] at h; exact h
structure Ext (F H F' H':Hp):Prop where
 f:Same F F'
 h:Same H H'
 new:∀ a o,F' a=some o->F a=some o \/ Fr (H a)
 sub:Same F' H'
def Ext.refl {F:Hp} (s:Same F H):Ext F H F H:=⟨Same.refl _,Same.refl _,fun _ _ h=>.inl h,s⟩
def Ext.trans {F F2 H2:Hp} (e:Ext F H F1 H1) (e':Ext F1 H1 F2 H2):Ext F H F2 H2:=
 ⟨e.f.trans e'.f,e.h.trans e'.h,fun a o h=>(e'.new a o h).elim (fun z=>e.new a o z) (fun z=>.inr (jkq e.h z)),e'.sub⟩
def qM {o:HO} (h:H a=none):Same H (upd H a o):=fun b u hb=>by
 rw[km (yp hb h)]; exact hb
def Same.upd2 {F:Hp}{o:HO} (s:Same F H) (h:F a=none):Same F (upd H a o):=fun b u hb=>by
 rw[km (yp hb h)]; exact s b u hb
def Same.updB {F:Hp}{o:HO} (s:Same F H):Same (upd F a o) (upd H a o):=fun b u hb=>by
 unfold upd at hb ⊢;by_cases e:b=a
 ·rw[if_pos e] at hb ⊢; exact hb
 ·rw[if_neg e] at hb ⊢; exact s b u hb
def Ext.newF {F:Hp}{o:HO} (s:Same F H) (h:H a=none):Ext F H (upd F a o) (upd H a o):=
 ⟨qM (s.free h),qM h,fun b u hb=>by
  by_cases e:b=a
  ·subst e; exact .inr (Y1 h)
  ·rw[km e] at hb; exact .inl hb,Same.updB s⟩
def Ext.newO {F:Hp}{o:HO} (s:Same F H) (h:H a=none):Ext F H F (upd H a o):=
 ⟨Same.refl _,qM h,fun _ _ hb=>.inl hb,Same.upd2 s (s.free h)⟩
def Ext.upd {F:Hp}{o:HO} (X:Ext Fe He F H) (h:He a=none) (hf:F a=none):Ext Fe He F (L2.upd H a o):=
 ⟨X.f,Same.upd2 X.h h,X.new,Same.upd2 X.sub hf⟩
def Ext.frz {F:Hp}{o:HO} (X:Ext Fe He F H) (h:He a=none) (hf:F a=none) (ho:H a=some o):Ext Fe He (L2.upd F a o) H:=
 ⟨X.f.trans (qM hf),X.h,fun b u hb=>by
  by_cases e:b=a
  ·subst e; exact .inr (Y1 h)
  ·rw[km e] at hb; exact X.new b u hb,fun b u hb=>by
  by_cases e:b=a
  ·subst e; rw[j_] at hb; cases hb; exact ho
  ·rw[km e] at hb; exact X.sub b u hb⟩
structure Pm (α:Type) where
 rel:W.Frag->Hp->Hp->α->V->Prop
 mono:∀ {K:W.Frag}{F H F' H':Hp}{a:α}{x:V},Ext F H F' H'->rel K F H a x->rel K F' H' a x
structure Rs (γ:Type) where
 rel:W.Frag->Hp->Hp->Hp->γ->V->Prop
 back:∀ {K:W.Frag}{H0 H F2 H2:Hp}{c:γ}{v:V},Same H0 H->rel K H F2 H2 c v->rel K H0 F2 H2 c v
def Pm.rs (p:Pm α):Rs α:=⟨fun K _ F H a v=>p.rel K F H a v,fun _ h=>h⟩
def pF (c:Cd α):Pm α:=⟨fun K F _ a v=>c.rep K F a v,fun e h=>c.mono e.f h⟩
def pB (c:Cd α):Pm (List α):=⟨fun K F H l v=>∃ a xs,v=.ref a/\H a=some (.lst xs)/\Paired (c.rep K F) l xs,
 fun e ⟨a,xs,h1,h2,h3⟩=>⟨a,xs,h1,e.h _ _ h2,Paired.mapP h3 fun _ _=>c.mono e.f⟩⟩
def pR (c:Cd α):Pm (List α):=⟨fun K F H l v=>∃ a xs,v=.ref a/\SqL K H a xs/\Paired (c.rep K F) l xs,
 fun e ⟨a,xs,h1,h2,h3⟩=>⟨a,xs,h1,e.h.seq h2,Paired.mapP h3 fun _ _=>c.mono e.f⟩⟩
def pT (c:Cd α):Pm α:=⟨fun K _ H a v=>c.rep K H a v,fun e h=>c.mono e.h h⟩
def rO (c:Cd α):Rs (List α):=⟨fun K H F2 H2 l v=>∃ a xs,v=.ref a/\H a=none/\F2 a=none/\H2 a=some (.lst xs)/\Paired (c.rep K F2) l xs,
 fun s ⟨a,xs,h1,h2,h⟩=>⟨a,xs,h1,s.free h2,h⟩⟩
abbrev rF (c:Cd α):Rs α:=(pF c).rs
def Ev (K:W.Frag) (σ:St) (F H:Hp) (t:TE) (r:Rs α) (m:Option α):Prop:=
 ∀ F1 H1,Ext F H F1 H1->∀ a,m=some a->∀ Q:VK,(∀ v F2 H2,Ext F1 H1 F2 H2->r.rel K H1 F2 H2 a v->Q v H2)->t σ H1 Q
def Et (K:W.Frag) (σ:St) (F H:Hp) (t:TT) (m:Option Bool):Prop:=
 ∀ F1 H1,Ext F H F1 H1->∀ b,m=some b->∀ Q:Bool->Hp->Prop,(∀ F2 H2,Ext F1 H1 F2 H2->Q b H2)->t σ H1 Q
def El (K:W.Frag) (σ:St) (F H:Hp) (t:TA) (c:Cd α) (n:Nat) (m:Option (List α)):Prop:=
 ∀ F1 H1,Ext F H F1 H1->∀ l,m=some l->∀ Q:List V->Hp->Prop,(∀ vs F2 H2,Ext F1 H1 F2 H2->Paired (c.rep K F2) l vs->vs.length=n->Q vs H2)->t σ H1 Q
variable {F:Hp}{t:TE}{c:Cd α}{d:Cd β}{p:Pm α}{q:Pm β}{q':Pm γ}{rs:Rs γ} 
def Ev.cast {r:Rs α}{m m':Option α} (h:Ev K σ F H t r m) (e:m'=m):Ev K σ F H t r m':=e ▸ h
def jZ {a:α} (hi:σ[i]?=some (some v)) (h:p.rel K F H a v):Ev K σ F H (JJ i) p.rs (some a):=by
 intro F1 H1 E b e Q k;cases e;exact⟨v,hi,k v F1 H1 (Ext.refl E.sub) (p.mono E h)⟩
def jp (i:Int):Ev K σ F H (tC (.int i)) (rF cI) (some i):=fun F1 H1 E b e Q k=>by cases e; exact k _ F1 H1 (Ext.refl E.sub) rfl
def Uq (i:Bool):Ev K σ F H (tC (.bl i)) (rF cB) (some i):=fun F1 H1 E b e Q k=>by cases e; exact k _ F1 H1 (Ext.refl E.sub) rfl
def ko (i:Str):Ev K σ F H (tC (.str i)) (rF cS) (some i):=fun F1 H1 E b e Q k=>by cases e; exact k _ F1 H1 (Ext.refl E.sub) rfl
def jbQ {a:Int} (hi:σ[i]?=some (some (.int a))):Ev K σ F H (JJ i) (rF cI) (some a):=jZ (p:=pF cI) hi rfl
def Qv {a:Str} (hi:σ[i]?=some (some (.str a))):Ev K σ F H (JJ i) (rF cS) (some a):=jZ (p:=pF cS) hi rfl
def V5 {r r':Rs α}{m:Option α} (h:Ev K σ F H t r m) (hi:∀ {H1 F2 H2 a v},Same F2 H2->r.rel K H1 F2 H2 a v->r'.rel K H1 F2 H2 a v):Ev K σ F H t r' m:=
 fun F1 H1 E a e Q k=>h F1 H1 E a e Q fun v F2 H2 E2 hr=>k v F2 H2 E2 (hi E2.sub hr)
def xh (h:Ev K σ F H t (rO c) m):Ev K σ F H t (rF (cL c)) m:=by
 intro F1 H1 E l e Q k;refine h F1 H1 E l e Q ?_;rintro v F2 H2 E2 ⟨a,xs,rfl,h1,h2,h3,h4⟩;exact k _ (upd F2 a (.lst xs)) H2 (E2.frz h1 h2 h3) ⟨a,xs,rfl,j_,Paired.mapP h4 fun _ _=>c.mono (qM h2)⟩
def kJ (h:Ev K σ F H t (rO c) m):Ev K σ F H t (pB c).rs m:=V5 h (fun _ ⟨a,xs,h0,_,_,h3,h4⟩=>⟨a,xs,h0,h3,h4⟩)
def qx (h:Ev K σ F H t (rF (cL c)) m):Ev K σ F H t (pB c).rs m:=V5 h (fun s ⟨a,xs,h0,h3,h4⟩=>⟨a,xs,h0,s _ _ h3,h4⟩)
def jS (h:Ev K σ F H t (pB c).rs m):Ev K σ F H t (pR c).rs m:=V5 h (fun _ ⟨a,xs,h0,h3,h4⟩=>⟨a,xs,h0,SqL.of h3,h4⟩)
def GW:∀ l:List Int,Paired (cI.rep K H) l (l.map V.int)
 | []=>.nil
 | _::r=>.cons rfl (GW r)
def jkr {m:Option (List Int)} (h:Ev K σ F H t (rF cScr) m):Ev K σ F H t (pR cI).rs m:=V5 h (fun s ⟨a,h0,h3⟩=>⟨a,_,h0,s.seq h3,GW _⟩)
def jh7 {m:Option α} (h:Ev K σ F H t (rF c) m):Ev K σ F H t (pT c).rs m:=V5 h (fun s h=>c.mono s h)
def jh8 (h:Ev K σ F H t (pB c).rs m):Ev K σ F H t (pT (cL c)).rs m:=V5 h (fun s ⟨a,xs,h0,h3,h4⟩=>⟨a,xs,h0,h3,Paired.mapP h4 fun _ _=>c.mono s⟩)
def Op2 (K:W.Frag) (r:R2) (p:Pm α) (q:Pm β) (rs:Rs γ) (op:α->β->Option γ):Prop:=
 ∀ F H a b x y,Same F H->p.rel K F H a x->q.rel K F H b y->∀ c,op a b=some c->∀ Q:VK,(∀ v F2 H2,Ext F H F2 H2->rs.rel K H F2 H2 c v->Q v H2)->r x y H Q
def jb3 {r:R2}{op:α->β->Option γ} (ho:Op2 K r p q rs op) (ha:Ev K σ F H ta p.rs ma) (hb:Ev K σ F H tb q.rs mb):Ev K σ F H (tOp r ta tb) rs (ma.bind fun a=>mb.bind fun b=>op a b):=by
 intro F1 H1 E z hz Q k;obtain⟨a,ea,hz⟩:=bind_some hz;obtain⟨b,eb,hz⟩:=bind_some hz;refine ha F1 H1 E a ea _ fun x F2 H2 E2 hx=>hb F2 H2 (E.trans E2) b eb _ fun y F3 H3 E3 hy=>?_;exact ho F3 H3 a b x y E3.sub (p.mono E3 hx) hy z hz _ fun v F4 H4 E4 hv=>k v F4 H4 (E2.trans (E3.trans E4)) (rs.back (E2.h.trans E3.h) hv)
def Op1 (K:W.Frag) (r:V->Hp->VK->Prop) (p:Pm α) (rs:Rs γ) (op:α->Option γ):Prop:=
 ∀ F H a x,Same F H->p.rel K F H a x->∀ c,op a=some c->∀ Q:VK,(∀ v F2 H2,Ext F H F2 H2->rs.rel K H F2 H2 c v->Q v H2)->r x H Q
def jmh {r:V->Hp->VK->Prop} (ho:Op1 K r p rs op) (ha:Ev K σ F H ta p.rs ma):Ev K σ F H (tUn r ta) rs (ma.bind op):=by
 intro F1 H1 E z hz Q k;obtain⟨a,ea,hz⟩:=bind_some hz;refine ha F1 H1 E a ea _ fun x F2 H2 E2 hx=>?_;exact ho F2 H2 a x E2.sub hx z hz _ fun v F4 H4 E4 hv=>k v F4 H4 (E2.trans E4) (rs.back E2.h hv)
def jjz {r:List V->Hp->VK->Prop} (ho:Op1 K (fun x=>r [x]) p rs op) (ha:Ev K σ F H ta p.rs ma):Ev K σ F H (tCB r (jJ ta xq)) rs (ma.bind op):=jmh (r:=fun x=>r [x]) ho ha
@[irreducible] def W0 (i j:Int):Option Int:=if (-(2 ^ 64)<i/\i<2 ^ 64) \/ (-(2 ^ 64)<j/\j<2 ^ 64) then some (i * j) else none
@[irreducible] def jfW (i j:Int):Option Int:=if 0<j/\j<2 ^ 1000 then some (i / j) else none
@[irreducible] def jb4 (i j:Int):Option Int:=if 0<j then some (i % j) else none
@[irreducible] def jmi (i j:Int):Option Int:=if 0<=j/\j<=1000000/\i.natAbs<2 ^ 64 then some (i ^ j.toNat) else none
@[irreducible] def jbR (i j:Int):Option Int:=if 0<=j/\j<=1000000/\i.natAbs<2 ^ 64 then some (i * 2 ^ j.toNat) else none
@[irreducible] def jks (i j:Int):Option Int:=if 0<=j then some (i / 2 ^ j.toNat) else none
def jV {c:Prop} [Decidable c] {a b:α} (h:(if c then some a else none)=some b):c/\a=b:=by
 by_cases hc:c
 ·rw[if_pos hc] at h; exact ⟨hc,Option.some.inj h⟩
 ·rw[if_neg hc] at h; cases h
def kN {g:Int->Int->Int}:Op2 K (rI0 fun i j=>.int (g i j)) (pF cI) (pF cI) (rF cI) (fun i j=>some (g i j)):=by
 intro F H a b x y s hx hy c hc Q k;cases hx; cases hy; cases hc;exact⟨a,b,rfl,rfl,k _ F H (Ext.refl s) rfl⟩
def zj:Op2 K (rI0 fun i j=>.bl (g i j)) (pF cI) (pF cI) (rF cB) (fun i j=>some (g i j)):=by
 intro F H a b x y s hx hy c hc Q k;cases hx; cases hy; cases hc;exact⟨a,b,rfl,rfl,k _ F H (Ext.refl s) rfl⟩
def jez {C:Int->Int->Prop}{g:Int->Int->Int}{op:Int->Int->Option Int} (h:∀ i j k,op i j=some k->C i j/\g i j=k):Op2 K (rI C fun i j=>.int (g i j)) (pF cI) (pF cI) (rF cI) op:=by
 intro F H a b x y s hx hy c hc Q k;cases hx; cases hy;obtain⟨h1,h2⟩:=h a b c hc;subst h2;exact⟨a,b,rfl,rfl,h1,k _ F H (Ext.refl s) rfl⟩
def VB:Op2 K (rI CMul fun i j=>.int (i * j)) (pF cI) (pF cI) (rF cI) W0:=jez fun _ _ _ h=>by unfold W0 at h; obtain⟨x,y⟩:=jV h; exact ⟨x,y⟩
def jb5:Op2 K (rI jfU fun i j=>.int (i / j)) (pF cI) (pF cI) (rF cI) jfW:=jez fun _ _ _ h=>by unfold jfW at h; obtain⟨x,y⟩:=jV h; exact ⟨x,y⟩
def Y2:Op2 K (rI (fun _ j=>0<j) fun i j=>.int (i % j)) (pF cI) (pF cI) (rF cI) jb4:=jez fun _ _ _ h=>by unfold jb4 at h; exact jV h
def jnK:Op2 K (rI jlJ fun i j=>.int (i ^ j.toNat)) (pF cI) (pF cI) (rF cI) jmi:=jez fun _ _ _ h=>by unfold jmi at h; obtain⟨x,y⟩:=jV h; exact ⟨x,y⟩
def Y3:Op2 K (rI jlJ fun i j=>.int (i * 2 ^ j.toNat)) (pF cI) (pF cI) (rF cI) jbR:=jez fun _ _ _ h=>by unfold jbR at h; obtain⟨x,y⟩:=jV h; exact ⟨x,y⟩
def jmj:Op2 K (rI (fun _ j=>0<=j) fun i j=>.int (i / 2 ^ j.toNat)) (pF cI) (pF cI) (rF cI) jks:=jez fun _ _ _ h=>by unfold jks at h; exact jV h
def o_u {g:Int->Int}:Op1 K (rU fun i=>.int (g i)) (pF cI) (rF cI) (fun i=>some (g i)):=by
 intro F H a x s hx c hc Q k;cases hx; cases hc;exact⟨a,rfl,k _ F H (Ext.refl s) rfl⟩
def UV:Op2 K rEq (pF cI) (pF cI) (rF cB) (fun i j=>some (decide (i=j))):=by
 intro F H a b x y s hx hy c hc Q k;cases hx; cases hy; cases hc;refine⟨rfl,?_⟩;rw[YS,Bool.beq_eq_decide_eq];exact k _ F H (Ext.refl s) rfl
def jb6:Op2 K rNe (pF cI) (pF cI) (rF cB) (fun i j=>some (!decide (i=j))):=by
 intro F H a b x y s hx hy c hc Q k;cases hx; cases hy; cases hc;refine⟨rfl,?_⟩;rw[YS,Bool.beq_eq_decide_eq];exact k _ F H (Ext.refl s) rfl
def jdC {i j:Str}:decide (V.str i=V.str j)=decide (i=j):=by
 rw[XJ,Xu,Xu];exact⟨fun h=>V.str.inj h,fun h=>by rw[h]⟩
def jeA:Op2 K rEq (pF cS) (pF cS) (rF cB) (fun i j=>some (decide (i=j))):=by
 intro F H a b x y s hx hy c hc Q k;cases hx; cases hy; cases hc;refine⟨rfl,?_⟩;rw[jdC];exact k _ F H (Ext.refl s) rfl
def jh9:Op2 K rNe (pF cS) (pF cS) (rF cB) (fun i j=>some (!decide (i=j))):=by
 intro F H a b x y s hx hy c hc Q k;cases hx; cases hy; cases hc;refine⟨rfl,?_⟩;rw[jdC];exact k _ F H (Ext.refl s) rfl
def jjA (c:Cd α):Prop:=∀ {K:W.Frag}{H:Hp}{a:α}{x:V},c.rep K H a x->jaN x=false
def nfL:jjA (cL c):=fun⟨_,_,h,_⟩=>by rw[h]; rfl
def jmk [DecidableEq α] (a b:α):Bool:=decide (a=b)
def Y4 [DecidableEq α] (a:α) (l:List α):Bool:=decide (a∈l)
def jml [DecidableEq α] (h:EqC n c) (hn:n<=100) (nf:jjA c):Op2 K (jor K true) (pT c) (pT c) (rF cB) (fun a b=>some (!jmk a b)):=by
 intro F H a b x y s hx hy z hz Q k;cases hz;refine⟨n,bq a b,h hx hy,hn,nf hx,?_⟩;rw[jjw];exact k _ F H (Ext.refl s) rfl
def jnL [DecidableEq α] (h:EqC n c) (hn:n<=100):Op2 K (jnJ K false) (pT c) (pT (cL c)) (rF cB) (fun a l=>some (Y4 a l)):=by
 intro F H a l x y s hx hy z hz Q k;cases hz;obtain⟨p,xs,rfl,h1,h2⟩:=hy;exact⟨α,c.cod h,a,l,p,xs,decide (a∈l),hn,hx,rfl,.inl (SqL.of h1),h2,by simp,k _ F H (Ext.refl s) rfl⟩
def jnM [DecidableEq α] (h:EqC n c) (hn:n<=100):Op2 K (jnJ K false) (pT c) (pT (cT c)) (rF cB) (fun a l=>some (Y4 a l)):=by
 intro F H a l x y s hx hy z hz Q k;cases hz;obtain⟨p,xs,rfl,h1,h2⟩:=hy;exact⟨α,c.cod h,a,l,p,xs,decide (a∈l),hn,hx,rfl,.inr (SqT.of h1),h2,by simp,k _ F H (Ext.refl s) rfl⟩
def Paired.at:∀ {l:List α}{xs:List β}{i:Nat}{a:α},Paired R l xs->l[i]?=some a->∃ x,xs[i]?=some x/\R a x
 | _,_,_,_,.nil,h=>by simp at h
 | _,_,0,_,.cons r _,h=>by simp at h; subst h; exact ⟨_,rfl,r⟩
 | _,_,i+1,a,.cons _ t,h=>by
  obtain⟨x,h1,h2⟩:=Paired.at (i:=i) (a:=a) t (by simpa using h);exact⟨x,by simpa using h1,h2⟩
def Paired.atI {xs:List β}{i:Int}{a:α} (h:Paired R l xs) (e:atI l i=some a):∃ x,atI xs i=some x/\R a x:=by
 unfold L2.atI at e ⊢;rw[<- h.length];cases q:ixN l.length i with
 | none=>rw[q] at e; cases e
 | some j=>
  rw[q] at e;exact Paired.at h e
@[irreducible] def pAt (l:List α) (i:Int):Option α:=atI l i
def zA:Op2 K (jol K) (pR c) (pF cI) (rF c) (fun l i=>pAt l i):=by
 intro F H l i x y s hx hy z hz Q k;unfold pAt at hz;obtain⟨p,xs,rfl,h1,h2⟩:=hx;cases hy;obtain⟨v,e,r⟩:=Paired.atI h2 hz;exact⟨p,xs,i,v,rfl,rfl,h1,e,k _ F H (Ext.refl s) r⟩
def VC:Op2 K (jjs K) (pF (cT c)) (pF cI) (rF c) (fun l i=>pAt l i):=by
 intro F H l i x y s hx hy z hz Q k;unfold pAt at hz;obtain⟨p,xs,rfl,h1,h2⟩:=hx;cases hy;obtain⟨v,e,r⟩:=Paired.atI h2 hz;exact⟨p,xs,i,v,rfl,rfl,SqT.of (s _ _ h1),e,k _ F H (Ext.refl s) r⟩
def jmm {m:Option (α×β)} (h:Ev K σ F H ta (rF (cP c d)) m):Ev K σ F H (tOp (jjs K) ta (tC (.int 0))) (rF c) (m.bind fun z=>some z.1):=by
 intro F1 H1 E z hz Q k;obtain⟨a,ea,hz⟩:=bind_some hz;cases hz;refine h F1 H1 E a ea _ ?_;rintro v F2 H2 E2 ⟨p,u,w,rfl,h1,h2,h3⟩;exact⟨p,_,0,u,rfl,rfl,SqT.of (E2.sub _ _ h1),rfl,k _ F2 H2 E2 h2⟩
def jmn {m:Option (α×β)} (h:Ev K σ F H ta (rF (cP c d)) m):Ev K σ F H (tOp (jjs K) ta (tC (.int 1))) (rF d) (m.bind fun z=>some z.2):=by
 intro F1 H1 E z hz Q k;obtain⟨a,ea,hz⟩:=bind_some hz;cases hz;refine h F1 H1 E a ea _ ?_;rintro v F2 H2 E2 ⟨p,u,w,rfl,h1,h2,h3⟩;exact⟨p,_,1,w,rfl,rfl,SqT.of (E2.sub _ _ h1),rfl,k _ F2 H2 E2 h3⟩
def xi:Op1 K (fun x H Q=>∃ p ys,[x]=[V.ref p]/\(SqL K H p ys \/ SqT K H p ys)/\Q (.int ys.length) H) (pR c) (rF cI) (fun l=>some (l.length:Int)):=by
 intro F H l x s hx z hz Q k;obtain⟨p,xs,rfl,h1,h2⟩:=hx;cases hz;refine⟨p,xs,rfl,.inl h1,?_⟩;rw[<- h2.length];exact k _ F H (Ext.refl s) rfl
def jdD:Op1 K (fun x H Q=>∃ p ys,[x]=[V.ref p]/\(SqL K H p ys \/ SqT K H p ys)/\Q (.int ys.length) H) (pF (cT c)) (rF cI) (fun l=>some (l.length:Int)):=by
 intro F H l x s hx z hz Q k;obtain⟨p,xs,rfl,h1,h2⟩:=hx;cases hz;refine⟨p,xs,rfl,.inr (SqT.of (s _ _ h1)),?_⟩;rw[<- h2.length];exact k _ F H (Ext.refl s) rfl
def yO {F:Hp}{Q:VK} (s:Same F H) (h2:Paired (c.rep K F) l xs) (k:∀ v F2 H2,Ext F H F2 H2->(rO c).rel K H F2 H2 l v->Q v H2) (p:Addr) (hp:H p=none):Q (.ref p) (upd H p (.lst xs)):=
 k _ F _ (Ext.newO s hp) ⟨p,xs,rfl,hp,s.free hp,j_,h2⟩
def jb7 {F:Hp}{Q:VK} (s:Same F H) (h2:Paired (c.rep K F) l xs) (k:∀ v F2 H2,Ext F H F2 H2->(rF (cT c)).rel K H F2 H2 l v->Q v H2) (p:Addr) (hp:H p=none):Q (.ref p) (upd H p (.tup xs)):=
 k _ (upd F p (.tup xs)) _ (Ext.newF s hp) ⟨p,xs,rfl,j_,Paired.mapP h2 fun _ _=>c.mono (qM (s.free hp))⟩
def jb8:Op1 K (fun x H Q=>∃ p ys,[x]=[V.ref p]/\(SqL K H p ys \/ SqT K H p ys)/\∀ l,H l=none->Q (.ref l) (upd H l (.lst ys))) (pF (cT c)) (rO c) (fun l=>some l):=by
 intro F H l x s hx z hz Q k;obtain⟨p,xs,rfl,h1,h2⟩:=hx;cases hz;exact⟨p,xs,rfl,.inr (SqT.of (s _ _ h1)),fun a ha=>yO s h2 k a ha⟩
def jaW:Op1 K (fun x H Q=>∃ p ys,[x]=[V.ref p]/\((SqL K H p ys/\∀ l,H l=none->Q (.ref l) (upd H l (.tup ys))) \/ (SqT K H p ys/\Q (.ref p) H))) (pR c) (rF (cT c)) (fun l=>some l):=by
 intro F H l x s hx z hz Q k;obtain⟨p,xs,rfl,h1,h2⟩:=hx;cases hz;exact⟨p,xs,rfl,.inl ⟨h1,fun a ha=>jb7 s h2 k a ha⟩⟩
def cut (xs:List α) (lo hi:Option Int):List α:=(xs.drop (HT.sIx xs.length 0 lo)).take (HT.sIx xs.length xs.length hi-HT.sIx xs.length 0 lo)
def Paired.drop:∀ {l:List α}{xs:List β} (n:Nat),Paired R l xs->Paired R (l.drop n) (xs.drop n)
 | _,_,0,r=>r
 | _,_,_+1,.nil=>.nil
 | _,_,n+1,.cons _ t=>Paired.drop n t
def Paired.take:∀ {l:List α}{xs:List β} (n:Nat),Paired R l xs->Paired R (l.take n) (xs.take n)
 | _,_,0,_=>.nil
 | _,_,_+1,.nil=>.nil
 | _,_,n+1,.cons r t=>.cons r (Paired.take n t)
def Paired.app:∀ {l m:List α}{xs ys:List β},Paired R l xs->Paired R m ys->Paired R (l++m) (xs++ys)
 | _,_,_,_,.nil,s=>s
 | _,_,_,_,.cons r t,s=>.cons r (Paired.app t s)
def Paired.cutP {R:α->V->Prop} (lo hi:Option Int) (h:Paired R l xs):Paired R (cut l lo hi) (jh1 xs lo hi):=by
 unfold cut jh1;rw[h.length];exact Paired.take _ (Paired.drop _ h)
def Eo (K:W.Frag) (σ:St) (F H:Hp) (t:TO) (m:Option (Option Int)):Prop:=
 ∀ F1 H1,Ext F H F1 H1->∀ o,m=some o->∀ Q:Option Int->Hp->Prop,(∀ F2 H2,Ext F1 H1 F2 H2->Q o H2)->t σ H1 Q
def GH:Eo K σ F H jfK (some none):=fun F1 H1 E o e Q k=>by cases e; exact k F1 H1 (Ext.refl E.sub)
def jkt {m:Option Int} (h:Ev K σ F H t (rF cI) m):Eo K σ F H (jh0 t) (m.bind fun i=>some (some i)):=by
 intro F1 H1 E o e Q k;obtain⟨i,ei,e⟩:=bind_some e;cases e;exact h F1 H1 E i ei _ fun v F2 H2 E2 hv=>⟨i,hv,k F2 H2 E2⟩
def jmo {ml:Option (Option Int)} (h:Ev K σ F H t (pR c).rs m) (hl:Eo K σ F H tl ml) (hh:Eo K σ F H th mh) :
  Ev K σ F H (tSl (jnv K) t tl th) (rO c) (m.bind fun l=>ml.bind fun i=>mh.bind fun j=>some (cut l i j)):=by
 intro F1 H1 E z hz Q k;obtain⟨l,el,hz⟩:=bind_some hz;obtain⟨i,ei,hz⟩:=bind_some hz;obtain⟨j,ej,hz⟩:=bind_some hz;cases hz;refine h F1 H1 E l el _ ?_;intro v F2 H2 E2 hv;refine hl F2 H2 (E.trans E2) i ei _ fun F3 H3 E3=>hh F3 H3 ((E.trans E2).trans E3) j ej _ fun F4 H4 E4=>?_;obtain⟨a,xs,rfl,h1,h2⟩:=(pR c).mono (E3.trans E4) hv;refine⟨a,xs,rfl,h1,fun p hp=>?_⟩;exact yO (c:=c) E4.sub (Paired.cutP i j h2) (fun v F5 H5 E5 hr=>k v F5 H5 (E2.trans (E3.trans (E4.trans E5))) ((rO c).back (E2.h.trans (E3.h.trans E4.h)) hr)) p hp
@[irreducible] def Yp (l m:List α):Option (List α):=if l.length+m.length<=16777216 then some (l++m) else none
def jb9:Op2 K joo (pB c) (pB c) (rO c) Yp:=by
 intro F H l m x y s hx hy z hz Q k;obtain⟨a,xs,rfl,h1,h2⟩:=hx;obtain⟨b,ys,rfl,h3,h4⟩:=hy;unfold Yp at hz;obtain⟨hc,rfl⟩:=jV hz;rw[h2.length,h4.length] at hc;exact⟨a,b,xs,ys,rfl,rfl,h1,h3,by rw[Xx]; exact hc,fun p hp=>yO s (Paired.app h2 h4) k p hp⟩
end
section
variable {F:Hp}{t:TE}{c:Cd α}{d:Cd β}{p:Pm α}{q:Pm β}{rs:Rs γ} 
section
variable {u v:TT}{m m':Option Bool}{a b:Bool}
def qc (h:Ev K σ F H t (rF cB) m):Et K σ F H (jfC t) m:=fun F1 H1 E b e Q k=>h F1 H1 E b e _ fun v F2 H2 E2 hv=>⟨b,hv,k F2 H2 E2⟩
def zR (h:Ev K σ F H t (rF cB) m):Et K σ F H (tB t) m:=fun F1 H1 E b e Q k=>h F1 H1 E b e _ fun v F2 H2 E2 hv=>⟨b,hv,k F2 H2 E2⟩
def jjB (h:Et K σ F H u m):Et K σ F H (jlH u) (m.bind fun b=>some (!b)):=by
 intro F1 H1 E b e Q k;obtain⟨c,ec,e⟩:=bind_some e;cases e;exact h F1 H1 E c ec _ fun F2 H2 E2=>k F2 H2 E2
def jjC (h:Et K σ F H u m) (h':Et K σ F H v m'):Et K σ F H (jlG u v) (m.bind fun b=>bif b then m' else some false):=by
 intro F1 H1 E b e Q k;obtain⟨c,ec,e⟩:=bind_some e;refine h F1 H1 E c ec _ fun F2 H2 E2=>?_;cases c with
 | true=>exact jdz (h' F2 H2 (E.trans E2) b e _ fun F3 H3 E3=>k F3 H3 (E2.trans E3))
 | false=>cases e; exact jdy (k F2 H2 E2)
def jmp (h:Et K σ F H u m) (h':Et K σ F H v m'):Et K σ F H (tOr u v) (m.bind fun b=>bif b then some true else m'):=by
 intro F1 H1 E b e Q k;obtain⟨c,ec,e⟩:=bind_some e;refine h F1 H1 E c ec _ fun F2 H2 E2=>?_;cases c with
 | true=>cases e; exact jdz (k F2 H2 E2)
 | false=>exact jdy (h' F2 H2 (E.trans E2) b e _ fun F3 H3 E3=>k F3 H3 (E2.trans E3))
def jku {m m':Option Bool} (h:Et K σ F H u m) (e:m'=m):Et K σ F H u m':=e ▸ h
def jkv (h:Et K σ F H u (some a)) (h':Et K σ F H v (some b)):Et K σ F H (jlG u v) (some (a&&b)):=jku (jjC h h') (by cases a <;> rfl)
def jmq (h:Ev K σ F H t (rF cB) m):Ev K σ F H (jke t) (rF cB) (m.bind fun b=>some (!b)):=by
 intro F1 H1 E b e Q k;obtain⟨c,ec,e⟩:=bind_some e;cases e;exact h F1 H1 E c ec _ fun v F2 H2 E2 hv=>⟨c,hv,k _ F2 H2 E2 rfl⟩
def jjD (h:Ev K σ F H ta (rF cB) m) (h':Ev K σ F H tb (rF cB) m'):Ev K σ F H (jbV ta tb) (rF cB) (m.bind fun b=>bif b then m' else some false):=by
 intro F1 H1 E b e Q k;obtain⟨c,ec,e⟩:=bind_some e;refine h F1 H1 E c ec _ fun v F2 H2 E2 hv=>⟨c,hv,?_⟩;cases c with
 | true=>exact jdz (h' F2 H2 (E.trans E2) b e _ fun v F3 H3 E3 hv=>k v F3 H3 (E2.trans E3) hv)
 | false=>cases e; exact jdy (k _ F2 H2 E2 rfl)
def jkw (h:Ev K σ F H ta (rF cB) (some a)) (h':Ev K σ F H tb (rF cB) (some b)):Ev K σ F H (jbV ta tb) (rF cB) (some (a&&b)):=(jjD h h').cast (by cases a <;> rfl)
def Y5 {ma mb mc:Option Int} (ha:Ev K σ F H ta (rF cI) ma) (hb:Ev K σ F H tb (rF cI) mb) (hc:Ev K σ F H tc (rF cI) mc) :
  Ev K σ F H (VX (rI0 fun i j=>.bl (g i j)) (rI0 fun i j=>.bl (g' i j)) ta tb tc) (rF cB) (ma.bind fun x=>mb.bind fun y=>bif g x y then mc.bind fun z=>some (g' y z) else some false):=by
 intro F1 H1 E b e Q k;obtain⟨x,ex,e⟩:=bind_some e;obtain⟨y,ey,e⟩:=bind_some e;refine ha F1 H1 E x ex _ fun v F2 H2 E2 hv=>hb F2 H2 (E.trans E2) y ey _ fun v' F3 H3 E3 hv'=>⟨x,y,hv,hv',_,rfl,?_⟩;cases hg:g x y with
 | true=>
  rw[hg] at e;obtain⟨z,ez,e⟩:=bind_some e;cases e;exact jdz (hc F3 H3 (E.trans (E2.trans E3)) z ez _ fun w F4 H4 E4 hw=>⟨y,z,hv',hw,k _ F4 H4 (E2.trans (E3.trans E4)) rfl⟩)
 | false=>
  rw[hg] at e;cases e;exact jdy (k _ F3 H3 (E2.trans E3) rfl)
def jfX {x:Int} (ha:Ev K σ F H ta (rF cI) (some x)) (hb:Ev K σ F H tb (rF cI) (some y)) (hc:Ev K σ F H tc (rF cI) (some z)) :
  Ev K σ F H (VX (rI0 fun i j=>.bl (g i j)) (rI0 fun i j=>.bl (g' i j)) ta tb tc) (rF cB) (some (g x y&&g' y z)):=(Y5 ha hb hc).cast (by
   show _=bif g x y then some (g' y z) else some false;cases g x y <;> rfl)
def jeB {x w:Int} (ha:Ev K σ F H ta (rF cI) (some x)) (hb:Ev K σ F H tb (rF cI) (some y)) (hc:Ev K σ F H tc (rF cI) (some z)) (hd:Ev K σ F H td (rF cI) (some w)) :
  Ev K σ F H (jb2 (rI0 fun i j=>.bl (g i j)) (rI0 fun i j=>.bl (g' i j)) (rI0 fun i j=>.bl (g'' i j)) ta tb tc td) (rF cB) (some (g x y&&(g' y z&&g'' z w))):=by
 intro F1 H1 E b e Q k;cases e;refine ha F1 H1 E x rfl _ fun v F2 H2 E2 hv=>hb F2 H2 (E.trans E2) y rfl _ fun v' F3 H3 E3 hv'=>⟨x,y,hv,hv',_,rfl,?_⟩;cases hg:g x y with
 | true=>
  rw[hg] at k;refine jdz (hc F3 H3 (E.trans (E2.trans E3)) z rfl _ fun w' F4 H4 E4 hw=>⟨y,z,hv',hw,_,rfl,?_⟩);cases hg':g' y z with
  | true=>
   rw[hg'] at k;exact jdz (hd F4 H4 (E.trans (E2.trans (E3.trans E4))) w rfl _ fun w'' F5 H5 E5 hw'=>⟨z,w,hw,hw',k _ F5 H5 (E2.trans (E3.trans (E4.trans E5))) rfl⟩)
  | false=>
   rw[hg'] at k;exact jdy (k _ F4 H4 (E2.trans (E3.trans E4)) rfl)
 | false=>
  rw[hg] at k;exact jdy (k _ F3 H3 (E2.trans E3) rfl)
def jnN {ma mb:Option γ} (hc:Et K σ F H u m) (ha:Ev K σ F H ta rs ma) (hb:Ev K σ F H tb rs mb):Ev K σ F H (tIf u ta tb) rs (m.bind fun b=>bif b then ma else mb):=by
 intro F1 H1 E z e Q k;obtain⟨c,ec,e⟩:=bind_some e;refine hc F1 H1 E c ec _ fun F2 H2 E2=>?_;cases c with
 | true=>exact jdz (ha F2 H2 (E.trans E2) z e _ fun v F3 H3 E3 hv=>k v F3 H3 (E2.trans E3) (rs.back E2.h hv))
 | false=>exact jdy (hb F2 H2 (E.trans E2) z e _ fun v F3 H3 E3 hv=>k v F3 H3 (E2.trans E3) (rs.back E2.h hv))
end
def xN:El K σ F H xq c 0 (some []):=fun F1 H1 E l e Q k=>by cases e; exact k [] F1 H1 (Ext.refl E.sub) .nil rfl
def jfY (ha:Ev K σ F H ta (rF c) ma) (hr:El K σ F H tr c n mr):El K σ F H (jJ ta tr) c (n+1) (ma.bind fun a=>mr.bind fun l=>some (a::l)):=by
 intro F1 H1 E l e Q k;obtain⟨a,ea,e⟩:=bind_some e;obtain⟨r,er,e⟩:=bind_some e;cases e;refine ha F1 H1 E a ea _ fun v F2 H2 E2 hv=>hr F2 H2 (E.trans E2) r er _ fun vs F3 H3 E3 hvs hl=>?_;exact k _ F3 H3 (E2.trans E3) (.cons (c.mono E3.f hv) hvs) (by simp[hl])
def xO (h:El K σ F H tr c n m) (hn:n<=16777216):Ev K σ F H (jok tr) (rO c) m:=by
 intro F1 H1 E l e Q k;refine h F1 H1 E l e _ fun vs F2 H2 E2 hv hl=>⟨by rw[hl,Xx]; exact hn,fun a ha=>?_⟩;exact yO (c:=c) E2.sub hv (fun v F5 H5 E5 hr=>k v F5 H5 (E2.trans E5) ((rO c).back E2.h hr)) a ha
def jfZ (ha:Ev K σ F H ta (rF c) ma) (hb:Ev K σ F H tb (rF d) mb):Ev K σ F H (jl6 (jJ ta (jJ tb xq))) (rF (cP c d)) (ma.bind fun a=>mb.bind fun b=>some (a,b)):=by
 intro F1 H1 E l e Q k;obtain⟨a,ea,e⟩:=bind_some e;obtain⟨b,eb,e⟩:=bind_some e;cases e;refine ha F1 H1 E a ea _ fun v F2 H2 E2 hv=>hb F2 H2 (E.trans E2) b eb _ fun w F3 H3 E3 hw=>⟨by show 2<=sizeLine; rw[Xx]; decide,fun x hx=>?_⟩;have s:=E3.sub;exact k _ (upd F3 x (.tup [v,w])) _ (E2.trans (E3.trans (Ext.newF s hx))) ⟨x,v,w,rfl,j_,c.mono (E3.f.trans (qM (s.free hx))) hv,d.mono (qM (s.free hx)) hw⟩
def sp1 (K:W.Frag) (p1:Pm α1) (rs:Rs γ) (m:α1->Option γ):Sp:=fun vs H Q _=>∃ (x1:α1) (v1:V) (F:Hp) (r:γ),vs=[v1]/\Same F H/\p1.rel K F H x1 v1/\m x1=some r/\∀ u F' H',Ext F H F' H'->rs.rel K H F' H' r u->Q u H'
def jdE {p1:Pm α1}{m:α1->Option γ} (h1:Ev K σ F H t1 p1.rs m1):Ev K σ F H (QZ (sp1 K p1 rs m) [] E0 (jJ t1 xq)) rs (m1.bind fun x1=>m x1):=by
 intro F0 H0 E0' z e Q k;obtain⟨x1,e1,e⟩:=bind_some e;refine h1 F0 H0 (E0') x1 e1 _ fun v1 F1 H1 E1 r1=>?_;exact⟨x1,v1,F1,z,rfl,E1.sub,r1,e,fun u F' H' E' hu=>k u F' H' ((E1).trans E') (rs.back (E1).h hu)⟩
def Y6 (c:Cd α) (C:Addr) (m:Str):Prop:=∀ {K:W.Frag}{F:Hp}{o:α}{v:V},c.rep K F o v->∃ a dx fs,v=.ref a/\F a=some (.ins C dx fs)/\fs.lookup m=none
def jdF {c1:Cd α1}{m:α1->Option γ} (ob:Y6 c1 C nm) (h1:Ev K σ F H t1 (rF c1) m1):Ev K σ F H (Q0 C nm (sp1 K (pF c1) rs m) [] E0 t1 xq) rs (m1.bind fun x1=>m x1):=by
 intro F0 H0 E0' z e Q k;obtain⟨x1,e1,e⟩:=bind_some e;refine h1 F0 H0 (E0') x1 e1 _ fun v1 F1 H1 E1 r1=>?_;obtain⟨a,dx,fs,ea,ha,hl⟩:=ob r1;refine⟨a,dx,fs,ea,E1.sub _ _ ha,hl,?_⟩;exact⟨x1,v1,F1,z,rfl,E1.sub,r1,e,fun u F' H' E' hu=>k u F' H' ((E1).trans E') (rs.back (E1).h hu)⟩
def sp2 (K:W.Frag) (p1:Pm α1) (p2:Pm α2) (rs:Rs γ) (m:α1->α2->Option γ):Sp:=fun vs H Q _=>∃ (x1:α1) (x2:α2) (v1 v2:V) (F:Hp) (r:γ),vs=[v1,v2]/\Same F H/\p1.rel K F H x1 v1/\p2.rel K F H x2 v2/\m x1 x2=some r/\∀ u F' H',Ext F H F' H'->rs.rel K H F' H' r u->Q u H'
def jdG {p1:Pm α1}{p2:Pm α2}{m:α1->α2->Option γ} (h1:Ev K σ F H t1 p1.rs m1) (h2:Ev K σ F H t2 p2.rs m2):Ev K σ F H (QZ (sp2 K p1 p2 rs m) [] E0 (jJ t1 (jJ t2 xq))) rs (m1.bind fun x1=>m2.bind fun x2=>m x1 x2):=by
 intro F0 H0 E0' z e Q k;obtain⟨x1,e1,e⟩:=bind_some e;obtain⟨x2,e2,e⟩:=bind_some e;refine h1 F0 H0 (E0') x1 e1 _ fun v1 F1 H1 E1 r1=>?_;refine h2 F1 H1 ((E0').trans E1) x2 e2 _ fun v2 F2 H2 E2 r2=>?_;exact⟨x1,x2,v1,v2,F2,z,rfl,E2.sub,p1.mono (E2) r1,r2,e,fun u F' H' E' hu=>k u F' H' ((E1.trans (E2)).trans E') (rs.back (E1.trans (E2)).h hu)⟩
def jdH {c1:Cd α1}{p2:Pm α2}{m:α1->α2->Option γ} (ob:Y6 c1 C nm) (h1:Ev K σ F H t1 (rF c1) m1) (h2:Ev K σ F H t2 p2.rs m2):Ev K σ F H (Q0 C nm (sp2 K (pF c1) p2 rs m) [] E0 t1 (jJ t2 xq)) rs (m1.bind fun x1=>m2.bind fun x2=>m x1 x2):=by
 intro F0 H0 E0' z e Q k;obtain⟨x1,e1,e⟩:=bind_some e;obtain⟨x2,e2,e⟩:=bind_some e;refine h1 F0 H0 (E0') x1 e1 _ fun v1 F1 H1 E1 r1=>?_;obtain⟨a,dx,fs,ea,ha,hl⟩:=ob r1;refine⟨a,dx,fs,ea,E1.sub _ _ ha,hl,?_⟩;refine h2 F1 H1 ((E0').trans E1) x2 e2 _ fun v2 F2 H2 E2 r2=>?_;exact⟨x1,x2,v1,v2,F2,z,rfl,E2.sub,(pF c1).mono (E2) r1,r2,e,fun u F' H' E' hu=>k u F' H' ((E1.trans (E2)).trans E') (rs.back (E1.trans (E2)).h hu)⟩
def sp3 (K:W.Frag) (p1:Pm α1) (p2:Pm α2) (p3:Pm α3) (rs:Rs γ) (m:α1->α2->α3->Option γ):Sp:=fun vs H Q _=>∃ (x1:α1) (x2:α2) (x3:α3) (v1 v2 v3:V) (F:Hp) (r:γ),vs=[v1,v2,v3]/\Same F H/\p1.rel K F H x1 v1/\p2.rel K F H x2 v2/\p3.rel K F H x3 v3/\m x1 x2 x3=some r/\∀ u F' H',Ext F H F' H'->rs.rel K H F' H' r u->Q u H'
def jh_ {p1:Pm α1}{p2:Pm α2}{p3:Pm α3}{m:α1->α2->α3->Option γ} (h1:Ev K σ F H t1 p1.rs m1) (h2:Ev K σ F H t2 p2.rs m2) (h3:Ev K σ F H t3 p3.rs m3):Ev K σ F H (QZ (sp3 K p1 p2 p3 rs m) [] E0 (jJ t1 (jJ t2 (jJ t3 xq)))) rs (m1.bind fun x1=>m2.bind fun x2=>m3.bind fun x3=>m x1 x2 x3):=by
 intro F0 H0 E0' z e Q k;obtain⟨x1,e1,e⟩:=bind_some e;obtain⟨x2,e2,e⟩:=bind_some e;obtain⟨x3,e3,e⟩:=bind_some e;refine h1 F0 H0 (E0') x1 e1 _ fun v1 F1 H1 E1 r1=>?_;refine h2 F1 H1 ((E0').trans E1) x2 e2 _ fun v2 F2 H2 E2 r2=>?_;refine h3 F2 H2 (((E0').trans E1).trans E2) x3 e3 _ fun v3 F3 H3 E3 r3=>?_;exact⟨x1,x2,x3,v1,v2,v3,F3,z,rfl,E3.sub,p1.mono (E2.trans (E3)) r1,p2.mono (E3) r2,r3,e,fun u F' H' E' hu=>k u F' H' ((E1.trans (E2.trans (E3))).trans E') (rs.back (E1.trans (E2.trans (E3))).h hu)⟩
def QL (K:W.Frag) (c:Cd α) (f:Str) (d:Cd β) (g:α->β):Prop:=∀ {F:Hp}{o:α}{v:V},c.rep K F o v->∃ a C dx fs u,v=.ref a/\F a=some (.ins C dx fs)/\Cls K C/\NoAttr K C f/\fs.lookup f=some u/\d.rep K F (g o) u
def jmr {f:Str}{g:α->β} (hf:QL K c f d g) (h:Ev K σ F H t (rF c) ma):Ev K σ F H (jfF K t f) (rF d) (ma.bind fun o=>some (g o)):=by
 intro F1 H1 E z e Q k;obtain⟨o,eo,e⟩:=bind_some e;cases e;refine h F1 H1 E o eo _ fun v F2 H2 E2 hv=>?_;obtain⟨a,C,dx,fs,u,e1,e2,e3,e4,e5,e6⟩:=hf hv;exact⟨a,C,dx,fs,u,e1,E2.sub _ _ e2,e3,e4,e5,k u F2 H2 E2 e6⟩
end
section
variable {F:Hp}{t:TE}{c:Cd α}{d:Cd β}{p:Pm α}{q:Pm β}{rs:Rs γ} 
structure Own (K:W.Frag) (He F H:Hp) (c:Cd α) (l:List α) (a:Addr):Prop where
 e:He a=none
 f:F a=none
 h:∃ xs,H a=some (.lst xs)/\Paired (c.rep K F) l xs
def Own.mono (o:Own K He F H c l a) (E:Ext F H F' H'):Own K He F' H' c l a:=by
 obtain⟨xs,h1,h2⟩:=o.h;refine⟨o.e,?_,xs,E.h _ _ h1,Paired.mapP h2 fun _ _=>c.mono E.f⟩;cases e:F' a with
 | none=>rfl
 | some u=>
  rcases E.new a u e with z | z
  ·rw[o.f] at z; cases z
  ·rw[h1] at z; cases z
def Own.b (o:Own K He F H c l a):(pB c).rel K F H l (.ref a):=let ⟨xs,h1,h2⟩:=o.h; ⟨a,xs,rfl,h1,h2⟩
structure Chg (a:Addr) (F H F' H':Hp):Prop where
 f:Same F F'
 h:∀ b o,b≠a->H b=some o->H' b=some o
 new:∀ b o,b≠a->F' b=some o->F b=some o \/ Fr (H b)
def Bor (K:W.Frag) (He F:Hp) (c:Cd α) (l:List α) (v:V):Prop:=(pB c).rel K F He l v
def Bor.mono (b:Bor K He F c l v) (s:Same F F'):Bor K He F' c l v:=let ⟨a,xs,h0,h1,h2⟩:=b; ⟨a,xs,h0,h1,Paired.mapP h2 fun _ _=>c.mono s⟩
def Bor.b (b:Bor K He F c l v) (X:Ext Fe He F H):(pB c).rel K F H l v:=let ⟨a,xs,h0,h1,h2⟩:=b; ⟨a,xs,h0,X.h _ _ h1,h2⟩
def jf0 {m:Option α}{f:α->Option δ}{r:δ} (he:Ev K σ F H te p.rs m) (X:Ext Fe He F H) (hm:m.bind f=some r) (k:∀ a v F' H',f a=some r->Ext F H F' H'->Ext Fe He F' H'->p.rel K F' H' a v->D.nx (σ.set i (some v)) H'):VQ te (ql i) D σ H:=by
 obtain⟨a,ea,hm⟩:=bind_some hm;exact he F H (Ext.refl X.sub) a ea _ fun v F2 H2 E hv=>k a v F2 H2 hm E (X.trans E) hv
def Ge {m:Option Int}{f:Int->Option δ}{r:δ} (he:Ev K σ F H te (rF cI) m) (X:Ext Fe He F H) (hm:m.bind f=some r) (k:∀ a F' H',f a=some r->Ext F H F' H'->Ext Fe He F' H'->D.nx (σ.set i (some (.int a))) H'):VQ te (ql i) D σ H:=
 jf0 (p:=pF cI) he X hm fun a v F' H' h1 h2 h3 h4=>by have e:v=.int a:=h4; subst e; exact k a F' H' h1 h2 h3
def jf1 {m:Option Str}{f:Str->Option δ}{r:δ} (he:Ev K σ F H te (rF cS) m) (X:Ext Fe He F H) (hm:m.bind f=some r) (k:∀ a F' H',f a=some r->Ext F H F' H'->Ext Fe He F' H'->D.nx (σ.set i (some (.str a))) H'):VQ te (ql i) D σ H:=
 jf0 (p:=pF cS) he X hm fun a v F' H' h1 h2 h3 h4=>by have e:v=.str a:=h4; subst e; exact k a F' H' h1 h2 h3
def jkx {r:δ} (he:Ev K σ F H te (rO c) m) (X:Ext Fe He F H) (hm:m.bind f=some r) (k:∀ l a F' H',f l=some r->Ext F H F' H'->Ext Fe He F' H'->H a=none->Own K He F' H' c l a->D.nx (σ.set i (some (.ref a))) H'):VQ te (ql i) D σ H:=by
 obtain⟨a,ea,hm⟩:=bind_some hm;refine he F H (Ext.refl X.sub) a ea _ ?_;rintro v F2 H2 E ⟨b,xs,rfl,h1,h2,h3,h4⟩;exact k a b F2 H2 hm E (X.trans E) h1 ⟨X.h.free h1,h2,xs,h3,h4⟩
def jky {j:Nat}{m:Option (α×β)}{f:α×β->Option δ}{r:δ} (he:Ev K σ F H te (rF (cP c d)) m) (X:Ext Fe He F H) (hm:m.bind f=some r)
  (k:∀ x y u v F' H',f (x,y)=some r->Ext F H F' H'->Ext Fe He F' H'->c.rep K F' x u->d.rep K F' y v->D.nx ((σ.set i (some u)).set j (some v)) H'):VQ te (jhK K 2 (Jc (ql i) (Jc (ql j) jhJ))) D σ H:=by
 obtain⟨⟨x,y⟩,ea,hm⟩:=bind_some hm;refine he F H (Ext.refl X.sub) _ ea _ ?_;rintro w F2 H2 E ⟨a,u,v,rfl,h1,h2,h3⟩;exact⟨a,[u,v],rfl,SqT.of (E.sub _ _ h1),rfl,u,[v],rfl,v,[],rfl,rfl,k x y u v F2 H2 hm E (X.trans E) h2 h3⟩
def jB {r:γ}{m:Option γ} (he:Ev K σ F H te rs m) (X:Ext Fe He F H) (hm:m=some r) (k:∀ v F' H',Ext Fe He F' H'->rs.rel K He F' H' r v->D.rt v H'):jlI te D σ H:=
 he F H (Ext.refl X.sub) r hm _ fun v F2 H2 E hv=>k v F2 H2 (X.trans E) (rs.back X.h hv)
def Y7 {r:List α} (hi:σ[i]?=some (some (.ref a))) (o:Own K He F H c l a) (X:Ext Fe He F H) (hm:some l=some r) (k:∀ v F' H',Ext Fe He F' H'->(rO c).rel K He F' H' r v->D.rt v H'):jlI (JJ i) D σ H:=by
 cases hm;obtain⟨xs,h1,h2⟩:=o.h;exact⟨_,hi,k _ F H X ⟨a,xs,rfl,o.e,o.f,h1,h2⟩⟩
def jia {u:TT}{t t':TS}{m:Option Bool}{A:Option δ}{r:δ} (hc:Et K σ F H u m) (X:Ext Fe He F H) (hm:(m.bind fun b=>bif b then A else B)=some r) (h1:∀ F' H',A=some r->Ext F H F' H'->Ext Fe He F' H'->t D σ H')
  (h2:∀ F' H',B=some r->Ext F H F' H'->Ext Fe He F' H'->t' D σ H'):jhS u t t' D σ H:=by
 obtain⟨b,eb,hm⟩:=bind_some hm;refine hc F H (Ext.refl X.sub) b eb _ fun F2 H2 E=>?_;cases b with
 | true=>exact jdz (h1 F2 H2 hm E (X.trans E))
 | false=>exact jdy (h2 F2 H2 hm E (X.trans E))
def jdI {u:TT}{t t':TS}{b:Bool}{A:Option δ}{r:δ} (hc:Et K σ F H u (some b)) (X:Ext Fe He F H) (hm:(bif b then A else B)=some r) (h1:∀ F' H',b=true->A=some r->Ext F H F' H'->Ext Fe He F' H'->t D σ H')
  (h2:∀ F' H',b=false->B=some r->Ext F H F' H'->Ext Fe He F' H'->t' D σ H'):jhS u t t' D σ H:=by
 refine hc F H (Ext.refl X.sub) b rfl _ fun F2 H2 E=>?_;cases b with
 | true=>exact jdz (h1 F2 H2 rfl hm E (X.trans E))
 | false=>exact jdy (h2 F2 H2 rfl hm E (X.trans E))
def jjE {u:TT}{t t':TS}{m:Option Bool}{A B:Option β}{f:β->Option δ}{r:δ} (I:β->St->Hp->Prop) (hc:Et K σ F H u m) (X:Ext Fe He F H) (hm:(m.bind fun b=>bif b then A else B).bind f=some r)
  (h1:∀ b F' H',A=some b->Ext F H F' H'->Ext Fe He F' H'->t { D with nx:=I b } σ H') (h2:∀ b F' H',B=some b->Ext F H F' H'->Ext Fe He F' H'->t' { D with nx:=I b } σ H') (hk:∀ b σ' H',f b=some r->I b σ' H'->D.nx σ' H'):jnw (jhS u t t') D σ H:=by
 obtain⟨b,eb,hm⟩:=bind_some hm;obtain⟨x,ex,eb⟩:=bind_some eb;refine⟨I b,?_,fun σ' H' h=>hk b σ' H' hm h⟩;refine hc F H (Ext.refl X.sub) x ex _ fun F2 H2 E=>?_;cases x with
 | true=>exact jdz (h1 b F2 H2 eb E (X.trans E))
 | false=>exact jdy (h2 b F2 H2 eb E (X.trans E))
def jb_ {u:TT}{t t':TS}{x:Bool}{A B:Option β}{f:β->Option δ}{r:δ} (I:β->St->Hp->Prop) (hc:Et K σ F H u (some x)) (X:Ext Fe He F H) (hm:(bif x then A else B).bind f=some r)
  (h1:∀ b F' H',A=some b->Ext F H F' H'->Ext Fe He F' H'->t { D with nx:=I b } σ H') (h2:∀ b F' H',B=some b->Ext F H F' H'->Ext Fe He F' H'->t' { D with nx:=I b } σ H') (hk:∀ b σ' H',f b=some r->I b σ' H'->D.nx σ' H'):jnw (jhS u t t') D σ H:=
 jjE (m:=some x) I hc X hm h1 h2 hk
def jkz {m:Option γ}{f:γ->Option δ}{r:δ} (he:Ev K σ F H te rs m) (X:Ext Fe He F H) (hm:m.bind f=some r) (k:∀ a F' H',f a=some r->Ext F H F' H'->Ext Fe He F' H'->D.nx σ H'):WX te D σ H:=by
 obtain⟨a,ea,hm⟩:=bind_some hm;exact he F H (Ext.refl X.sub) a ea _ fun v F2 H2 E hv=>k a F2 H2 hm E (X.trans E)
@[irreducible] def jaz (l:List α) (y:α):Option (List α):=if l.length<16777216 then some (l++[y]) else none
def V6 (X:Ext Fe He F H) (he:He a=none) (hf:F a=none) (h:Paired (c.rep K F) l xs):Ext Fe He F (upd H a (.lst xs))/\Own K He F (upd H a (.lst xs)) c l a:=
 ⟨X.upd he hf,he,hf,xs,j_,h⟩
def UW {F:Hp}{o:HO} (E:Ext F H F' H'):Chg a F H F' (upd H' a o):=
 ⟨E.f,fun b u hb h=>by rw[km hb]; exact E.h b u h,fun b u _ h=>E.new b u h⟩
def JP {m:Option α}{r:δ} (hi:σ[i]?=some (some (.ref a))) (o:Own K He F H c l a) (he:Ev K σ F H te (rF c) m) (X:Ext Fe He F H) (hm:(m.bind fun y=>jaz l y).bind f=some r)
  (k:∀ l' F' H',f l'=some r->Chg a F H F' H'->Ext Fe He F' H'->Own K He F' H' c l' a->D.nx σ H'):WX (tBM K "list" UU (JJ i) (jJ te xq)) D σ H:=by
 obtain⟨l',el,hm⟩:=bind_some hm;obtain⟨y,ey,el⟩:=bind_some el;unfold jaz at el;obtain⟨hl,rfl⟩:=jV el;obtain⟨xs,h1,h2⟩:=o.h;refine⟨_,hi,.inl ⟨rfl,_,SqL.of h1⟩,he F H (Ext.refl X.sub) y ey _ fun v F2 H2 E hv=>?_⟩;have o2:=o.mono E;have h3:Paired (c.rep K F2) l xs:=Paired.mapP h2 fun _ _=>c.mono E.f;refine⟨a,xs,v,rfl,rfl,E.h _ _ h1,by rw[Xx,<- h2.length]; exact hl,?_⟩;obtain⟨X',o'⟩:=V6 (K:=K) (c:=c) (X.trans E) o.e o2.f (Paired.app h3 (.cons hv .nil));exact k _ F2 _ hm (UW E) X' o'
structure ItOk (K:W.Frag) (J:It) (c:Cd α) (l:List α) (G:Hp->Hp->Prop):Prop where
 go:∀ i F H,G F H->i<l.length->J.go i H
 yld:∀ i F H x H',G F H->J.yld i H x H'->∀ a,l[i]?=some a->∃ F',Ext F H F' H'/\c.rep K F' a x
 stop:∀ F H,G F H->J.stop l.length H
def jca (h:∀ F H,G F H->SqL K H a xs/\Same F1 F/\Same F H) (hp:Paired (c.rep K F1) l xs):ItOk K (Itl K a) c l G where
 go:=fun i F H g hi=>⟨xs,xs[i]'(by rw[<- hp.length]; exact hi),(h F H g).1,Xc _⟩
 yld:=fun i F H x H' g y b hb=>by
  obtain⟨e,y⟩:=y;subst e;obtain⟨s1,s2,s3⟩:=h F _ g;obtain⟨v,hv,r⟩:=Paired.at hp hb;have:=y xs s1;rw[hv] at this;cases this;exact⟨F,Ext.refl s3,c.mono s2 r⟩
 stop:=fun F H g=>⟨xs,(h F H g).1,by rw[hp.length]; exact Xe _⟩
def jjF (h:∀ F H,G F H->SqT K H a xs/\Same F1 F/\Same F H) (hp:Paired (c.rep K F1) l xs):ItOk K (Itt K a) c l G where
 go:=fun i F H g hi=>⟨xs,xs[i]'(by rw[<- hp.length]; exact hi),(h F H g).1,Xc _⟩
 yld:=fun i F H x H' g y b hb=>by
  obtain⟨e,y⟩:=y;subst e;obtain⟨s1,s2,s3⟩:=h F _ g;obtain⟨v,hv,r⟩:=Paired.at hp hb;have:=y xs s1;rw[hv] at this;cases this;exact⟨F,Ext.refl s3,c.mono s2 r⟩
 stop:=fun F H g=>⟨xs,(h F H g).1,by rw[hp.length]; exact Xe _⟩
def Vp (lo hi:Int):List Int:=(List.range (hi-lo).toNat).map fun k=>lo+((k:Nat):Int)
def Yq (lo hi:Int):(Vp lo hi).length=(hi-lo).toNat:=by simp[Vp]
@[irreducible] def Gu (lo hi:Int):Option (List Int):=if -(2 ^ 62)<=lo/\lo<2 ^ 62/\-(2 ^ 62)<=hi/\hi<2 ^ 62 then some (Vp lo hi) else none
def jdJ {lo hi:Int} (h:∀ F H,G F H->Same F H):ItOk K (Itr lo (hi-lo).toNat) cI (Vp lo hi) G where
 go:=fun i F H g hi'=>by rw[Yq] at hi'; exact hi'
 yld:=fun i F H x H' g y b hb=>by
  obtain⟨e,y⟩:=y;subst e y;refine⟨F,Ext.refl (h F _ g),?_⟩;unfold Vp at hb;rw[Xw] at hb;cases q:(List.range (hi-lo).toNat)[i]? with
  | none=>rw[q] at hb; cases hb
  | some j=>
   rw[q] at hb;have hij:j=i:=by
    obtain⟨h1,h2⟩:=List.getElem?_eq_some_iff.mp q;simpa using h2.symm
   subst hij;cases hb;rfl
 stop:=fun F H g=>by rw[Yq]; exact Xe _
def Ei (K:W.Frag) (σ:St) (F H Fe He:Hp) (wi:TI) (c:Cd α) (m:Option (List α)):Prop:=
 Ext Fe He F H->∀ l,m=some l->∀ R:It->Hp->Prop,(∀ J F1 H1,Ext F H F1 H1->ItOk K J c l (fun F' H'=>Ext Fe He F' H'/\Same F1 F')->R J H1)->wi σ H R
def V7 (h:Ev K σ F H t (rF (cL c)) m):Ei K σ F H Fe He (jhT K t) c m:=by
 intro X l e R k;refine h F H (Ext.refl X.sub) l e _ ?_;rintro v F2 H2 E ⟨a,xs,rfl,h1,h2⟩;exact⟨a,rfl,⟨xs,SqL.of (E.sub _ _ h1)⟩,k _ F2 H2 E (jca (F1:=F2) (fun F' H' g=>⟨SqL.of (g.1.sub _ _ (g.2 _ _ h1)),g.2,g.1.sub⟩) h2)⟩
def jms (h:Ev K σ F H t (rF (cT c)) m):Ei K σ F H Fe He (jnD K t) c m:=by
 intro X l e R k;refine h F H (Ext.refl X.sub) l e _ ?_;rintro v F2 H2 E ⟨a,xs,rfl,h1,h2⟩;exact⟨a,rfl,⟨xs,SqT.of (E.sub _ _ h1)⟩,k _ F2 H2 E (jjF (F1:=F2) (fun F' H' g=>⟨SqT.of (g.1.sub _ _ (g.2 _ _ h1)),g.2,g.1.sub⟩) h2)⟩
def jf2 (hi:σ[i]?=some (some v)) (b:Bor K He F c l v):Ei K σ F H Fe He (jhT K (JJ i)) c (some l):=by
 intro X l' e R k;cases e;obtain⟨a,xs,rfl,h1,h2⟩:=b;exact⟨_,hi,a,rfl,⟨xs,SqL.of (X.h _ _ h1)⟩,k _ F H (Ext.refl X.sub) (jca (F1:=F) (fun F' H' g=>⟨SqL.of (g.1.h _ _ h1),g.2,g.1.sub⟩) h2)⟩
def jf3 {m:Option Int} (h:Ev K σ F H t (rF cI) m):Ei K σ F H Fe He (YR (jJ t xq)) cI (m.bind fun j=>Gu 0 j):=by
 intro X l e R k;obtain⟨j,ej,e⟩:=bind_some e;unfold Gu at e;obtain⟨⟨h1,h2,h3,h4⟩,rfl⟩:=jV e;refine h F H (Ext.refl X.sub) j ej _ fun v F2 H2 E hv=>?_;have ev:v=.int j:=hv;subst ev;refine⟨j,rfl,h3,h4,?_⟩;have q:=k (Itr 0 (j-0).toNat) F2 H2 E (jdJ fun F' H' g=>g.1.sub);rw[Int.sub_zero] at q;exact q
def jkA {m:Option Int} (h:Ev K σ F H t (rF cI) m) (h':Ev K σ F H ta (rF cI) m'):Ei K σ F H Fe He (jbW (jJ t (jJ ta xq))) cI (m.bind fun i=>m'.bind fun j=>Gu i j):=by
 intro X l e R k;obtain⟨i,ei,e⟩:=bind_some e;obtain⟨j,ej,e⟩:=bind_some e;unfold Gu at e;obtain⟨⟨h1,h2,h3,h4⟩,rfl⟩:=jV e;refine h F H (Ext.refl X.sub) i ei _ fun v F2 H2 E hv=>h' F2 H2 E j ej _ fun v' F3 H3 E3 hv'=>?_;have ev:v=.int i:=hv;have ev':v'=.int j:=hv';subst ev ev';exact⟨i,j,rfl,⟨h1,h2,h3,h4⟩,k (Itr i (j-i).toNat) F3 H3 (E.trans E3) (jdJ fun F' H' g=>g.1.sub)⟩
def Ec (K:W.Frag) (σ:St) (F H:Hp) (wi:TI) (c:Cd α) (m:Option (List α)):Prop:=
 ∀ F1 H1,Ext F H F1 H1->∀ l,m=some l->∀ R:It->Hp->Prop,(∀ J F2 H2,Ext F1 H1 F2 H2->ItOk K J c l (fun F' H'=>Ext F2 H2 F' H')->R J H2)->wi σ H1 R
def yP (h:Ev K σ F H t (pR c).rs m):Ec K σ F H (jhT K t) c m:=by
 intro F1 H1 X l e R k;refine h F1 H1 X l e _ ?_;rintro v F2 H2 E ⟨a,xs,rfl,h1,h2⟩;exact⟨a,rfl,⟨xs,h1⟩,k _ F2 H2 E (jca (F1:=F2) (fun F' H' g=>⟨g.h.seq h1,g.f,g.sub⟩) h2)⟩
def jf4 (h:Ev K σ F H t (rF (cT c)) m):Ec K σ F H (jnD K t) c m:=by
 intro F1 H1 X l e R k;refine h F1 H1 X l e _ ?_;rintro v F2 H2 E ⟨a,xs,rfl,h1,h2⟩;exact⟨a,rfl,⟨xs,SqT.of (E.sub _ _ h1)⟩,k _ F2 H2 E (jjF (F1:=F2) (fun F' H' g=>⟨SqT.of (g.sub _ _ (g.f _ _ h1)),g.f,g.sub⟩) h2)⟩
def jf5 {m:Option Int} (h:Ev K σ F H t (rF cI) m):Ec K σ F H (YR (jJ t xq)) cI (m.bind fun j=>Gu 0 j):=by
 intro F1 H1 X l e R k;obtain⟨j,ej,e⟩:=bind_some e;unfold Gu at e;obtain⟨⟨h1,h2,h3,h4⟩,rfl⟩:=jV e;refine h F1 H1 X j ej _ fun v F2 H2 E hv=>?_;have ev:v=.int j:=hv;subst ev;refine⟨j,rfl,h3,h4,?_⟩;have q:=k (Itr 0 (j-0).toNat) F2 H2 E (jdJ fun F' H' g=>g.sub);rw[Int.sub_zero] at q;exact q
def jkB {m:Option Int} (h:Ev K σ F H t (rF cI) m) (h':Ev K σ F H ta (rF cI) m'):Ec K σ F H (jbW (jJ t (jJ ta xq))) cI (m.bind fun i=>m'.bind fun j=>Gu i j):=by
 intro F1 H1 X l e R k;obtain⟨i,ei,e⟩:=bind_some e;obtain⟨j,ej,e⟩:=bind_some e;unfold Gu at e;obtain⟨⟨h1,h2,h3,h4⟩,rfl⟩:=jV e;refine h F1 H1 X i ei _ fun v F2 H2 E hv=>h' F2 H2 (X.trans E) j ej _ fun v' F3 H3 E3 hv'=>?_;have ev:v=.int i:=hv;have ev':v'=.int j:=hv';subst ev ev';exact⟨i,j,rfl,⟨h1,h2,h3,h4⟩,k (Itr i (j-i).toNat) F3 H3 (E.trans E3) (jdJ fun F' H' g=>g.sub)⟩
def forM:List α->β->(β->α->Option β)->Option β
 | [],b,_=>some b
 | x::r,b,f=>(f b x).bind fun b'=>forM r b' f
inductive Fl (β γ:Type) where
 | nx (b:β)
 | rt (c:γ)
def Fl.el (x:Fl β γ) (A:γ->δ) (B:β->δ):δ:=match x with
 | .nx b=>B b
 | .rt c=>A c
def jjG:List α->β->(β->α->Option (Fl β γ))->Option (Fl β γ)
 | [],b,_=>some (.nx b)
 | x::r,b,f=>(f b x).bind fun s=>match s with
  | .nx b'=>jjG r b' f
  | .rt c=>some (.rt c)
def jib {g:TG}{tb:TS}{f:β->α->Option β}{b1:β} (I:β->St->Hp->Hp->Prop) (hJ:ItOk K J c l (fun F' H'=>Ext Fe He F' H'/\Same F1 F')) (hrun:forM l b0 f=some b1)
  (h0:I b0 σ F1 H1) (hG:∀ b σ F H,I b σ F H->Ext Fe He F H/\Same F1 F)
  (hs:∀ b b' x v σ F H F' H',I b σ F H->Ext F H F' H'->c.rep K F' x v->f b x=some b'->g v σ H' fun σ2 H2=>tb { D with nx:=fun σ H=>∃ F,I b' σ F H,ct:=fun σ H=>∃ F,I b' σ F H,bk:=D.nx } σ2 H2)
  (hd:∀ σ F H,I b1 σ F H->D.nx σ H) :
  ∃ W:Nat->Nat->St->Hp->Prop,(∃ m,W 0 m σ H1)/\∀ i m σ H,W i m σ H ->
   (J.stop i H/\D.nx σ H) \/ (J.go i H/\∃ N:St->Hp->Prop,(∀ σ' H',N σ' H'->∃ m',m'<m/\W (i+1) m' σ' H')/\∀ x H',J.yld i H x H'->g x σ H' fun σ2 H2=>tb { D with nx:=N,ct:=N,bk:=D.nx } σ2 H2):=by
 refine⟨fun i m σ H=>m=l.length-i/\i<=l.length/\∃ b F,forM (l.drop i) b f=some b1/\I b σ F H,⟨l.length,by simp,wa _,b0,F1,by simpa using hrun,h0⟩,?_⟩;rintro i m σ H ⟨rfl,hi,b,F,hb,hI⟩;have g0:=hG b σ F H hI;by_cases hlt:i<l.length
 ·have e:l.drop i=l[i]::l.drop (i+1):=List.drop_eq_getElem_cons hlt;rw[e] at hb;obtain⟨b',hf,hb⟩:=bind_some hb;refine .inr ⟨hJ.go i F H g0 hlt,fun σ H=>∃ F,I b' σ F H,fun σ' H' ⟨F',h'⟩=>⟨l.length-(i+1),by omega,rfl,hlt,b',F',hb,h'⟩,fun x H' y=>?_⟩;obtain⟨F',E',r'⟩:=hJ.yld i F H x H' g0 y _ (Xc hlt);exact hs b b' l[i] x σ F H F' H' hI E' r' hf
 ·have e:i=l.length:=by omega
  subst e;rw[List.drop_length] at hb;cases hb;exact .inl ⟨hJ.stop F H g0,hd σ F H hI⟩
def jf6 {g:TG}{tb:TS}{f:β->α->Option (Fl β γ)}{b1:Fl β γ} (I:β->St->Hp->Hp->Prop) (P:γ->Prop) (hJ:ItOk K J c l (fun F' H'=>Ext Fe He F' H'/\Same F1 F')) (hrun:jjG l b0 f=some b1)
  (hP:∀ c,b1=.rt c->P c) (h0:I b0 σ F1 H1) (hG:∀ b σ F H,I b σ F H->Ext Fe He F H/\Same F1 F)
  (hs:∀ b s x v σ F H F' H',I b σ F H->Ext F H F' H'->c.rep K F' x v->f b x=some s->(∀ c,s=.rt c->P c)->g v σ H' fun σ2 H2=>tb { D with nx:=fun σ H=>∃ b' F,s=.nx b'/\I b' σ F H,ct:=fun σ H=>∃ b' F,s=.nx b'/\I b' σ F H,bk:=D.nx } σ2 H2)
  (hd:∀ b σ F H,b1=.nx b->I b σ F H->D.nx σ H) :
  ∃ W:Nat->Nat->St->Hp->Prop,(∃ m,W 0 m σ H1)/\∀ i m σ H,W i m σ H ->
   (J.stop i H/\D.nx σ H) \/ (J.go i H/\∃ N:St->Hp->Prop,(∀ σ' H',N σ' H'->∃ m',m'<m/\W (i+1) m' σ' H')/\∀ x H',J.yld i H x H'->g x σ H' fun σ2 H2=>tb { D with nx:=N,ct:=N,bk:=D.nx } σ2 H2):=by
 refine⟨fun i m σ H=>m=l.length-i/\i<=l.length/\∃ b F,jjG (l.drop i) b f=some b1/\I b σ F H,⟨l.length,by simp,wa _,b0,F1,by simpa using hrun,h0⟩,?_⟩;rintro i m σ H ⟨rfl,hi,b,F,hb,hI⟩;have g0:=hG b σ F H hI;by_cases hlt:i<l.length
 ·have e:l.drop i=l[i]::l.drop (i+1):=List.drop_eq_getElem_cons hlt;rw[e] at hb;obtain⟨s,hf,hb⟩:=bind_some hb;refine .inr ⟨hJ.go i F H g0 hlt,fun σ H=>∃ b' F,s=.nx b'/\I b' σ F H,?_,fun x H' y=>?_⟩
  ·rintro σ' H' ⟨b',F',rfl,h'⟩;exact⟨l.length-(i+1),by omega,rfl,hlt,b',F',hb,h'⟩
  ·obtain⟨F',E',r'⟩:=hJ.yld i F H x H' g0 y _ (Xc hlt);refine hs b s l[i] x σ F H F' H' hI E' r' hf ?_;rintro c rfl;cases hb;exact hP c rfl
 ·have e:i=l.length:=by omega
  subst e;rw[List.drop_length] at hb;cases hb;exact .inl ⟨hJ.stop F H g0,hd b σ F H rfl hI⟩
def jaX {g:TG}{tb:TS}{f:β->α->Option β}{r:δ} (hi:Ei K σ F H Fe He wi c m) (X:Ext Fe He F H) (hm:(m.bind fun l=>forM l b0 f).bind kk=some r) (I:Hp->β->St->Hp->Hp->Prop)
  (h0:∀ F1 H1,Ext F H F1 H1->Ext Fe He F1 H1->I F1 b0 σ F1 H1) (hG:∀ F1 b σ F H,I F1 b σ F H->Ext Fe He F H/\Same F1 F)
  (hs:∀ F1 (S0:Same F F1) b b' x v σ F H F' H',I F1 b σ F H->Ext F H F' H'->c.rep K F' x v->f b x=some b'->g v σ H' fun σ2 H2=>tb { D with nx:=fun σ H=>∃ F,I F1 b' σ F H,ct:=fun σ H=>∃ F,I F1 b' σ F H,bk:=D.nx } σ2 H2)
  (hd:∀ F1 (S0:Same F F1) b σ F H,kk b=some r->I F1 b σ F H->D.nx σ H):jjp wi g tb D σ H:=by
 obtain⟨b1,hb,hk⟩:=bind_some hm;obtain⟨l,el,hrun⟩:=bind_some hb;exact hi X l el _ fun J F1 H1 E hJ=>jib (I F1) hJ hrun (h0 F1 H1 E (X.trans E)) (hG F1) (hs F1 E.f) fun σ F H h=>hd F1 E.f b1 σ F H hk h
def jkC {g:TG}{tb:TS}{f:β->α->Option (Fl β γ)}{A:γ->Option δ}{r:δ} (P:γ->Prop) (hi:Ei K σ F H Fe He wi c m) (X:Ext Fe He F H) (hm:(m.bind fun l=>jjG l b0 f).bind (fun x=>x.el A kk)=some r) (hP:∀ c,A c=some r->P c) (I:Hp->β->St->Hp->Hp->Prop)
  (h0:∀ F1 H1,Ext F H F1 H1->Ext Fe He F1 H1->I F1 b0 σ F1 H1) (hG:∀ F1 b σ F H,I F1 b σ F H->Ext Fe He F H/\Same F1 F)
  (hs:∀ F1 (S0:Same F F1) b s x v σ F H F' H',I F1 b σ F H->Ext F H F' H'->c.rep K F' x v->f b x=some s->(∀ c,s=.rt c->P c)->g v σ H' fun σ2 H2=>tb { D with nx:=fun σ H=>∃ b' F,s=.nx b'/\I F1 b' σ F H,ct:=fun σ H=>∃ b' F,s=.nx b'/\I F1 b' σ F H,bk:=D.nx } σ2 H2)
  (hd:∀ F1 (S0:Same F F1) b σ F H,kk b=some r->I F1 b σ F H->D.nx σ H):jjp wi g tb D σ H:=by
 obtain⟨b1,hb,hk⟩:=bind_some hm;obtain⟨l,el,hrun⟩:=bind_some hb;exact hi X l el _ fun J F1 H1 E hJ=>jf6 (I F1) P hJ hrun (fun c e=>hP c (by subst e; exact hk)) (h0 F1 H1 E (X.trans E)) (hG F1) (hs F1 E.f) fun b σ F H e h=>hd F1 E.f b σ F H (by subst e; exact hk) h
def jcb:List α->(α->Option Bool)->(α->Option β)->Option (List β)
 | [],_,_=>some []
 | x::r,p,f=>(p x).bind fun b=>bif b then (f x).bind fun y=>(jcb r p f).bind fun ys=>some (y::ys) else jcb r p f
@[irreducible] def k7 (l:List α) (p:α->Option Bool) (f:α->Option β):Option (List β):=if l.length<=16777216 then jcb l p f else none
def Bds (K:W.Frag) (c:Cd α) (g:TG) (n:Nat) (fr:St) (Bd:Hp->α->St->Prop):Prop:=
 ∀ F H x v own Q,own.length=n->c.rep K F x v->Same F H->(∀ own',own'.length=n->Bd F x own'->Q (own'++fr) H)->g v (own++fr) H Q
def jf7 {g:Blk->TG}{tc:Blk->TT}{te:Blk->TE}{mc:α->Option Bool}{me:α->Option β} (Bd:Hp->α->St->Prop) (hi:Ec K σ F H wi c m)
  (hfr:(ix.map fun i=>(σ[i]?).join)=fr) (hg:∀ b,Bds K c (g b) n fr Bd)
  (hc:∀ b x own F' H',Ext F H F' H'->Bd F' x own->Et K (own++fr) F' H' (tc b) (mc x)) (he:∀ b x own F' H',Ext F H F' H'->Bd F' x own->Ev K (own++fr) F' H' (te b) (rF d) (me x)) :
  Ev K σ F H (QJ wi n ix g tc te) (rO d) (m.bind fun l=>k7 l mc me):=by
 intro F1 H1 E z ez Q k;obtain⟨l,el,ez⟩:=bind_some ez;obtain⟨hlen,ez⟩:l.length<=16777216/\jcb l mc me=some z:=by
  unfold k7 at ez;by_cases h:l.length<=16777216
  ·rw[if_pos h] at ez; exact ⟨h,ez⟩
  ·rw[if_neg h] at ez; cases ez
 refine hi F1 H1 E l el _ fun J F2 H2 E2 hJ b D hD=>?_;have hz:sizeLine=16777216:=Xx;have E02:=E.trans E2;refine⟨fun i m ys σ' H'=>m=l.length-i/\i<=l.length/\ys.length<=i/\∃ zs rest F' own,own.length=n/\σ'=own++fr/\Ext F2 H2 F' H'/\F' D=none/\H' D=some (.lst ys)/\Paired (d.rep K F') zs ys/\jcb (l.drop i) mc me=some rest/\zs++rest=z,?_,?_⟩
 ·refine⟨l.length,by simp,wa _,Xe _,[],z,F2,List.replicate n none,by simp,by rw[jaT,hfr],Ext.newO E2.sub hD,E2.sub.free hD,j_,.nil,by simpa using ez,rfl⟩
 rintro i m ys σ' H' ⟨rfl,hi',hys,zs,rest,F',own,hown,rfl,X,fD,hHD,hp,hrest,hzr⟩;by_cases hlt:i<l.length
 ·have ed:l.drop i=l[i]::l.drop (i+1):=List.drop_eq_getElem_cons hlt;rw[ed] at hrest;obtain⟨bb,hbb,hrest⟩:=bind_some hrest;refine .inr ⟨hJ.go i F' H' X hlt,fun ys' σ2 H2'=>ys'.length<=i+1/\∃ zs rest F' own,own.length=n/\σ2=own++fr/\Ext F2 H2 F' H2'/\F' D=none/\H2' D=some (.lst ys')/\Paired (d.rep K F') zs ys'/\jcb (l.drop (i+1)) mc me=some rest/\zs++rest=z,
   fun ys' σ2 H2' h=>⟨l.length-(i+1),by omega,rfl,hlt,h⟩,fun x H3 y=>?_⟩
  obtain⟨F3,E3,r3⟩:=hJ.yld i F' H' x H3 X y _ (Xc hlt);have X3:=X.trans E3;refine hg b F3 H3 l[i] x own _ hown r3 X3.sub fun own' hown' hbd=>?_;refine hc b l[i] own' F3 H3 (E02.trans X3) hbd F3 H3 (Ext.refl X3.sub) bb hbb _ fun F4 H4 E4=>?_;have X4:=X3.trans E4;have keepD:∀ {Fa Ha Fb Hb:Hp},Ext Fa Ha Fb Hb->Fa D=none->Ha D=some (.lst ys)->Fb D=none/\Hb D=some (.lst ys):=fun {Fa Ha Fb Hb} Eab f1 h1=>by
   refine⟨?_,Eab.h _ _ h1⟩;cases e:Fb D with
   | none=>rfl
   | some u=>
    rcases Eab.new D u e with w | w
    ·rw[f1] at w; cases w
    ·rw[h1] at w; cases w
  obtain⟨f3,g3⟩:=keepD E3 fD hHD;obtain⟨f4,g4⟩:=keepD E4 f3 g3;cases bb with
  | true=>
   obtain⟨y',hy,hrest⟩:=bind_some hrest;obtain⟨ys2,hys2,hrest⟩:=bind_some hrest;cases hrest;refine jdz (he b l[i] own' F3 H3 (E02.trans X3) hbd F4 H4 E4 y' hy _ fun w F5 H5 E5 hw=>?_);obtain⟨f5,g5⟩:=keepD E5 f4 g4;refine⟨g5,by omega,?_⟩;have X5:=X4.trans E5;refine⟨by simp; omega,zs++[y'],ys2,F5,own',hown',rfl,X5.upd hD f5,f5,j_,Paired.app (Paired.mapP hp fun _ _=>d.mono (E3.f.trans (E4.f.trans E5.f))) (.cons hw .nil),hys2,by rw[<- hzr]; simp⟩
  | false=>
   exact jdy ⟨by omega,zs,rest,F4,own',hown',rfl,X4,f4,g4,Paired.mapP hp fun _ _=>d.mono (E3.f.trans E4.f),hrest,hzr⟩
 ·have e:i=l.length:=by omega
  subst e;rw[List.drop_length] at hrest;cases hrest;rw[List.append_nil] at hzr;subst hzr;refine .inl ⟨hJ.stop F' H' X,k _ F' H' (E2.trans X) ⟨D,ys,rfl,E2.h.free hD,fD,hHD,hp⟩⟩
def joH {own:St} (h:own.length=1):∃ v,own=[v]:=by
 match own,h with
 | [v],_=>exact ⟨v,rfl⟩
def joI {own:St} (h:own.length=2):∃ u v,own=[u,v]:=by
 match own,h with
 | [u,v],_=>exact ⟨u,v,rfl⟩
def Bd1 (K:W.Frag) (c:Cd α):Hp->α->St->Prop:=fun F x own=>∃ v,own=[some v]/\c.rep K F x v
def joJ:Bds K c (ql 0) 1 fr (Bd1 K c):=by
 intro F H x v own Q h1 h2 h3 k;obtain⟨u,rfl⟩:=joH h1;exact k [some v] rfl ⟨v,rfl,h2⟩
def Bd2 (K:W.Frag) (c:Cd α) (d:Cd β):Hp->α×β->St->Prop:=fun F x own=>∃ u v,own=[some u,some v]/\c.rep K F x.1 u/\d.rep K F x.2 v
def joK:Bds K (cP c d) (jhK K 2 (Jc (ql 0) (Jc (ql 1) jhJ))) 2 fr (Bd2 K c d):=by
 intro F H x v own Q h1 h2 h3 k;obtain⟨a,u,w,rfl,e1,e2,e3⟩:=h2;obtain⟨u',v',rfl⟩:=joI h1;exact⟨a,_,rfl,SqT.of (h3 _ _ e1),rfl,u,_,rfl,w,_,rfl,rfl,k [some u,some w] rfl ⟨u,w,rfl,e2,e3⟩⟩
def Y8 {tc:Blk->TT}{te:Blk->TE}{mc:α->Option Bool}{me:α->Option β} (hi:Ec K σ F H wi c m) (fr:St) (hfr:(ix.map fun i=>(σ[i]?).join)=fr)
  (hc:∀ b x v F' H',Ext F H F' H'->c.rep K F' x v->Et K (some v::fr) F' H' (tc b) (mc x)) (he:∀ b x v F' H',Ext F H F' H'->c.rep K F' x v->Ev K (some v::fr) F' H' (te b) (rF d) (me x)) :
  Ev K σ F H (QJ wi 1 ix (fun _=>ql 0) tc te) (rO d) (m.bind fun l=>k7 l mc me):=
 jf7 (Bd1 K c) hi hfr (fun _=>joJ) (fun b x own F' H' E ⟨v,e,r⟩=>by subst e; exact hc b x v F' H' E r) fun b x own F' H' E ⟨v,e,r⟩=>by subst e; exact he b x v F' H' E r
def jdK {tc:Blk->TT}{te:Blk->TE}{m:Option (List Int)}{mc:Int->Option Bool}{me:Int->Option β} (hi:Ec K σ F H wi cI m) (fr:St) (hfr:(ix.map fun i=>(σ[i]?).join)=fr)
  (hc:∀ b x F' H',Ext F H F' H'->Et K (some (.int x)::fr) F' H' (tc b) (mc x)) (he:∀ b x F' H',Ext F H F' H'->Ev K (some (.int x)::fr) F' H' (te b) (rF d) (me x)) :
  Ev K σ F H (QJ wi 1 ix (fun _=>ql 0) tc te) (rO d) (m.bind fun l=>k7 l mc me):=
 Y8 hi fr hfr (fun b x v F' H' E r=>by have e:v=.int x:=r; subst e; exact hc b x F' H' E) fun b x v F' H' E r=>by have e:v=.int x:=r; subst e; exact he b x F' H' E
def jic {tc:Blk->TT}{te:Blk->TE}{d1:Cd β}{e:Cd γ}{m:Option (List (α×β))}{mc:α×β->Option Bool}{me:α×β->Option γ} (hi:Ec K σ F H wi (cP c d1) m) (fr:St) (hfr:(ix.map fun i=>(σ[i]?).join)=fr)
  (hc:∀ b x y u v F' H',Ext F H F' H'->c.rep K F' x u->d1.rep K F' y v->Et K (some u::some v::fr) F' H' (tc b) (mc (x,y))) (he:∀ b x y u v F' H',Ext F H F' H'->c.rep K F' x u->d1.rep K F' y v->Ev K (some u::some v::fr) F' H' (te b) (rF e) (me (x,y))) :
  Ev K σ F H (QJ wi 2 ix (fun _=>jhK K 2 (Jc (ql 0) (Jc (ql 1) jhJ))) tc te) (rO e) (m.bind fun l=>k7 l mc me):=
 jf7 (Bd2 K c d1) hi hfr (fun _=>joK) (fun b x own F' H' E ⟨u,v,e,r,r'⟩=>by subst e; exact hc b x.1 x.2 u v F' H' E r r') fun b x own F' H' E ⟨u,v,e,r,r'⟩=>by subst e; exact he b x.1 x.2 u v F' H' E r r'
def yq:Et K σ F H joq (some true):=fun F1 H1 E b e Q k=>by cases e; exact k F1 H1 (Ext.refl E.sub)
end
section
variable {F:Hp}{t:TE}{c:Cd α}{d:Cd β}{p:Pm α}{q:Pm β}{rs:Rs γ}{ma mb:Option Int}{i:Int}
def JQ {m:Option α}{f:α->Option δ}{r:δ} (he:Ev K σ F H te (rF c) m) (X:Ext Fe He F H) (hm:m.bind f=some r) (k:∀ a v F' H',f a=some r->Ext F H F' H'->Ext Fe He F' H'->c.rep K F' a v->D.nx (σ.set k' (some v)) H'):VQ te (ql k') D σ H:=
 jf0 (p:=pF c) he X hm k
def cnt (h:D.ct σ H):jnB D σ H:=h
def yf {k:Nat}{Q:St->Hp->Prop} (h:Q (σ.set k (some v)) H):ql k v σ H Q:=h
def jdL {k l:Nat}{w:V}{x:α}{y:β}{Q:St->Hp->Prop} (r:(cP c d).rep K F (x,y) w) (s:Same F H) (h:∀ u v,c.rep K F x u->d.rep K F y v->Q ((σ.set k (some u)).set l (some v)) H):jhK K 2 (Jc (ql k) (Jc (ql l) jhJ)) w σ H Q:=by
 obtain⟨a,u,v,rfl,h1,h2,h3⟩:=r;exact⟨a,[u,v],rfl,SqT.of (s _ _ h1),rfl,u,[v],rfl,v,[],rfl,rfl,h u v h2 h3⟩
def jmt (h:-(2 ^ 64)<i/\i<2 ^ 64):W0 i j=some (i * j):=by unfold W0; exact if_pos (.inl h)
def jmu (h:-(2 ^ 64)<j/\j<2 ^ 64):W0 i j=some (i * j):=by unfold W0; exact if_pos (.inr h)
def jdM (h:0<j/\j<2 ^ 1000):jfW i j=some (i / j):=by unfold jfW; exact if_pos h
def jdN (h:0<j):jb4 i j=some (i % j):=by unfold jb4; exact if_pos h
def jid (h:0<=j/\j<=1000000/\i.natAbs<2 ^ 64):jmi i j=some (i ^ j.toNat):=by unfold jmi; exact if_pos h
def jie (h:0<=j):jks i j=some (i / 2 ^ j.toNat):=by unfold jks; exact if_pos h
def Y9 {ma:Option α}{mb:Option β}{f g:α->β->Option γ}{r:TE} (h:Ev K σ F H r rs (ma.bind fun a=>mb.bind fun b=>f a b)) (e:∀ a b,ma=some a->mb=some b->g a b=f a b):Ev K σ F H r rs (ma.bind fun a=>mb.bind fun b=>g a b):=by
 refine h.cast ?_;cases ma with
 | none=>rfl
 | some a=>
  cases mb with
  | none=>rfl
  | some b=>exact e a b rfl rfl
def jkD (h:-(2 ^ 64)<j/\j<2 ^ 64) (ha:Ev K σ F H ta (rF cI) ma) (hb:Ev K σ F H tb (rF cI) (some j)):Ev K σ F H (tOp (rI CMul fun i j=>.int (i * j)) ta tb) (rF cI) (ma.bind fun a=>some (a * j)):=
 Y9 (mb:=some j) (g:=fun a _=>some (a * j)) (jb3 VB ha hb) fun a b _ e=>by cases e; exact (jmu h).symm
def jkE (h:-(2 ^ 64)<i/\i<2 ^ 64) (ha:Ev K σ F H ta (rF cI) (some i)) (hb:Ev K σ F H tb (rF cI) mb):Ev K σ F H (tOp (rI CMul fun i j=>.int (i * j)) ta tb) (rF cI) (mb.bind fun b=>some (i * b)):=
 (Y9 (ma:=some i) (g:=fun a b=>some (i * b)) (jb3 VB ha hb) fun a b e _=>by cases e; exact (jmt h).symm)
def jf8 (h:0<j) (ha:Ev K σ F H ta (rF cI) ma) (hb:Ev K σ F H tb (rF cI) (some j)):Ev K σ F H (tOp (rI (fun _ j=>0<j) fun i j=>.int (i % j)) ta tb) (rF cI) (ma.bind fun a=>some (a % j)):=
 Y9 (mb:=some j) (g:=fun a _=>some (a % j)) (jb3 Y2 ha hb) fun a b _ e=>by cases e; exact (jdN h).symm
def jkF (h:0<j/\j<2 ^ 250) (ha:Ev K σ F H ta (rF cI) ma) (hb:Ev K σ F H tb (rF cI) (some j)):Ev K σ F H (tOp (rI jfU fun i j=>.int (i / j)) ta tb) (rF cI) (ma.bind fun a=>some (a / j)):=
 Y9 (mb:=some j) (g:=fun a _=>some (a / j)) (jb3 jb5 ha hb) fun a b _ e=>by cases e; exact (jdM ⟨h.1,Int.lt_trans h.2 (by have:(2:Nat) ^ 250<2 ^ 1000:=Nat.pow_lt_pow_right (by decide) (by decide); exact_mod_cast this)⟩).symm
def jkG {i:Int}{j:Nat} (h:(0:Int)<=(j:Int)/\(j:Int)<=1000000/\i.natAbs<2 ^ 64) (ha:Ev K σ F H ta (rF cI) (some i)) (hb:Ev K σ F H tb (rF cI) (some (j:Int))):Ev K σ F H (tOp (rI jlJ fun i j=>.int (i ^ j.toNat)) ta tb) (rF cI) (some (i ^ j)):=
 (jb3 jnK ha hb).cast (by show _=jmi i j; rw[jid h,XR])
def Y_:∀ {l:List Bool}{xs:List V},Paired (cB.rep K H) l xs->xs=l.map V.bl
 | _,_,.nil=>rfl
 | _,_,.cons r t=>by rw[Xp,<- Y_ t]; exact congrArg (·::_) r
def Za:∀ {l:List Int}{xs:List V},Paired (cI.rep K H) l xs->xs=l.map V.int
 | _,_,.nil=>rfl
 | _,_,.cons r t=>by rw[Xp,<- Za t]; exact congrArg (·::_) r
def jnO:Op1 K (fun x H Q=>∃ (p:Addr) (bs:List Bool),[x]=[V.ref p]/\SqL K H p (bs.map V.bl)/\Q (.bl (bs.any id)) H) (pR cB) (rF cB) (fun l=>some (l.any id)):=by
 intro F H l x s hx z hz Q k;obtain⟨p,xs,rfl,h1,h2⟩:=hx;cases hz;exact⟨p,l,rfl,by rw[<- Y_ h2]; exact h1,k _ F H (Ext.refl s) rfl⟩
def jmv:Op1 K (fun x H Q=>∃ (p:Addr) (bs:List Bool),[x]=[V.ref p]/\SqL K H p (bs.map V.bl)/\Q (.bl (bs.all id)) H) (pR cB) (rF cB) (fun l=>some (l.all id)):=by
 intro F H l x s hx z hz Q k;obtain⟨p,xs,rfl,h1,h2⟩:=hx;cases hz;exact⟨p,l,rfl,by rw[<- Y_ h2]; exact h1,k _ F H (Ext.refl s) rfl⟩
def jf9:Op1 K (fun x H Q=>∃ (p:Addr) (ns:List Int),[x]=[V.ref p]/\SqL K H p (ns.map V.int)/\Q (.int ns.sum) H) (pR cI) (rF cI) (fun l=>some l.sum):=by
 intro F H l x s hx z hz Q k;obtain⟨p,xs,rfl,h1,h2⟩:=hx;cases hz;exact⟨p,l,rfl,by rw[<- Za h2]; exact h1,k _ F H (Ext.refl s) rfl⟩
def jf_ (h:Ev K σ F H t (rF cI) ma):Ev K σ F H (jmb K "int" (fun x vs H Q=>∃ i,x=.int i/\vs=[]/\Q (.int (Builtin.Int.intBits i)) H) t) (rF cI) (ma.bind fun a=>some ((Builtin.Int.intBits a:Nat):Int)):=by
 intro F1 H1 E z e Q k;obtain⟨a,ea,e⟩:=bind_some e;cases e;refine h F1 H1 E a ea _ fun v F2 H2 E2 hv=>?_;have ev:v=.int a:=hv;subst ev;exact⟨rfl,a,rfl,rfl,k _ F2 H2 E2 rfl⟩
def jaY {tc:Blk->TT}{te:Blk->TE}{e:Cd γ}{m:Option (List (Int×Int))} (hi:Ec K σ F H wi (cP cI cI) m) (fr:St) (hfr:(ix.map fun i=>(σ[i]?).join)=fr)
  (hc:∀ b x y F' H',Ext F H F' H'->Et K (some (.int x)::some (.int y)::fr) F' H' (tc b) (mc (x,y))) (he:∀ b x y F' H',Ext F H F' H'->Ev K (some (.int x)::some (.int y)::fr) F' H' (te b) (rF e) (me (x,y))) :
  Ev K σ F H (QJ wi 2 ix (fun _=>jhK K 2 (Jc (ql 0) (Jc (ql 1) jhJ))) tc te) (rO e) (m.bind fun l=>k7 l mc me):=
 jic hi fr hfr (fun b x y u v F' H' E r r'=>by have e1:u=.int x:=r; have e2:v=.int y:=r'; subst e1 e2; exact hc b x y F' H' E) fun b x y u v F' H' E r r'=>by have e1:u=.int x:=r; have e2:v=.int y:=r'; subst e1 e2; exact he b x y F' H' E
@[irreducible] def jkH (l:List α) (i:Int) (y:α):Option (List α):=(ixN l.length i).bind fun j=>some (l.set j y)
def Paired.setP {a:α}{b:β} (r:R a b):∀ {l:List α}{xs:List β} (i:Nat),Paired R l xs->Paired R (l.set i a) (xs.set i b)
 | _,_,_,.nil=>.nil
 | _,_,0,.cons _ t=>.cons r t
 | _,_,i+1,.cons q t=>.cons q (Paired.setP r i t)
def jga {m:Option α}{r:δ} (hi:σ[k']?=some (some (.ref a))) (o:Own K He F H c l a) (he:Ev K σ F H te (rF c) m) (hj:Ev K σ F H ta (rF cI) mi) (X:Ext Fe He F H) (hm:(m.bind fun y=>mi.bind fun j=>jkH l j y).bind f=some r)
  (k:∀ l' F' H',f l'=some r->Chg a F H F' H'->Ext Fe He F' H'->Own K He F' H' c l' a->D.nx σ H'):VQ te (jns (JJ k') ta jh2) D σ H:=by
 obtain⟨l',el,hm⟩:=bind_some hm;obtain⟨y,ey,el⟩:=bind_some el;obtain⟨j,ej,el⟩:=bind_some el;unfold jkH at el;obtain⟨n,en,el⟩:=bind_some el;cases el;obtain⟨xs,h1,h2⟩:=o.h;refine he F H (Ext.refl X.sub) y ey _ fun v F2 H2 E hv=>⟨_,hi,?_⟩;refine hj F2 H2 E j ej _ fun w F3 H3 E3 hw=>?_;have ew:w=.int j:=hw;subst ew;have E13:=E.trans E3;have o2:=o.mono E13;have h3:Paired (c.rep K F3) l xs:=Paired.mapP h2 fun _ _=>c.mono E13.f;refine⟨a,xs,j,n,rfl,rfl,E13.h _ _ h1,by rw[<- h2.length]; exact en,?_⟩;obtain⟨X',o'⟩:=V6 (K:=K) (c:=c) (X.trans E13) o.e o2.f (Paired.setP (c.mono E3.f hv) n h3);exact k _ F3 _ hm (UW E13) X' o'
def Q1 {y:α}{r:δ} (hi:σ[k']?=some (some (.ref a))) (o:Own K He F H c l a) (he:Ev K σ F H te (rF c) (some y)) (X:Ext Fe He F H) (hm:(jaz l y).bind f=some r)
  (k:∀ l' F' H',f l'=some r->Chg a F H F' H'->Ext Fe He F' H'->Own K He F' H' c l' a->D.nx σ H'):WX (tBM K "list" UU (JJ k') (jJ te xq)) D σ H:=JP (m:=some y) hi o he X hm k
def jgb {y:α}{n:Int}{r:δ} (hi:σ[k']?=some (some (.ref a))) (o:Own K He F H c l a) (he:Ev K σ F H te (rF c) (some y)) (hj:Ev K σ F H ta (rF cI) (some n)) (X:Ext Fe He F H) (hm:(jkH l n y).bind f=some r)
  (k:∀ l' F' H',f l'=some r->Chg a F H F' H'->Ext Fe He F' H'->Own K He F' H' c l' a->D.nx σ H'):VQ te (jns (JJ k') ta jh2) D σ H:=jga (m:=some y) (mi:=some n) hi o he hj X hm k
end
section
variable {F:Hp}{t:TE}{c:Cd α}{d:Cd β}{p:Pm α}{q:Pm β}{rs:Rs γ} 
def qt {m:Option Int}{f:Int->Option δ}{r:δ} (he:Ev K σ F H te (rF cI) m) (X:Ext Fe He F H) (hm:m.bind f=some r) (k:∀ a F' H',f a=some r->Ext F H F' H'->Ext Fe He F' H'->u' D (σ.set i (some (.int a))) H'):Ul (VQ te (ql i)) u' D σ H:=
 Ge (D:={ D with nx:=u' D }) he X hm k
def jdO {m:Option Str}{f:Str->Option δ}{r:δ} (he:Ev K σ F H te (rF cS) m) (X:Ext Fe He F H) (hm:m.bind f=some r) (k:∀ a F' H',f a=some r->Ext F H F' H'->Ext Fe He F' H'->u' D (σ.set i (some (.str a))) H'):Ul (VQ te (ql i)) u' D σ H:=
 jf1 (D:={ D with nx:=u' D }) he X hm k
def JR {r:δ} (he:Ev K σ F H te (rO c) m) (X:Ext Fe He F H) (hm:m.bind f=some r) (k:∀ l a F' H',f l=some r->Ext F H F' H'->Ext Fe He F' H'->H a=none->Own K He F' H' c l a->u' D (σ.set i (some (.ref a))) H'):Ul (VQ te (ql i)) u' D σ H:=
 jkx (D:={ D with nx:=u' D }) he X hm k
def jgc {j:Nat}{m:Option (α×β)}{f:α×β->Option δ}{r:δ} (he:Ev K σ F H te (rF (cP c d)) m) (X:Ext Fe He F H) (hm:m.bind f=some r)
  (k:∀ x y u v F' H',f (x,y)=some r->Ext F H F' H'->Ext Fe He F' H'->c.rep K F' x u->d.rep K F' y v->u' D ((σ.set i (some u)).set j (some v)) H'):Ul (VQ te (jhK K 2 (Jc (ql i) (Jc (ql j) jhJ)))) u' D σ H:=
 jky (D:={ D with nx:=u' D }) he X hm k
def yQ {m:Option α}{f:α->Option δ}{r:δ} (he:Ev K σ F H te (rF c) m) (X:Ext Fe He F H) (hm:m.bind f=some r) (k:∀ a v F' H',f a=some r->Ext F H F' H'->Ext Fe He F' H'->c.rep K F' a v->u' D (σ.set k' (some v)) H'):Ul (VQ te (ql k')) u' D σ H:=
 JQ (D:={ D with nx:=u' D }) he X hm k
def jif {u:TT}{t t':TS}{m:Option Bool}{A:Option δ}{r:δ} (hc:Et K σ F H u m) (X:Ext Fe He F H) (hm:(m.bind fun b=>bif b then A else B)=some r) (h1:∀ F' H',A=some r->Ext F H F' H'->Ext Fe He F' H'->t { D with nx:=u' D } σ H')
  (h2:∀ F' H',B=some r->Ext F H F' H'->Ext Fe He F' H'->t' { D with nx:=u' D } σ H'):Ul (jhS u t t') u' D σ H:=
 jia (D:={ D with nx:=u' D }) hc X hm h1 h2
def Ur {u:TT}{t t':TS}{b:Bool}{A:Option δ}{r:δ} (hc:Et K σ F H u (some b)) (X:Ext Fe He F H) (hm:(bif b then A else B)=some r) (h1:∀ F' H',b=true->A=some r->Ext F H F' H'->Ext Fe He F' H'->t { D with nx:=u' D } σ H')
  (h2:∀ F' H',b=false->B=some r->Ext F H F' H'->Ext Fe He F' H'->t' { D with nx:=u' D } σ H'):Ul (jhS u t t') u' D σ H:=
 jdI (D:={ D with nx:=u' D }) hc X hm h1 h2
def jjH {u:TT}{t t':TS}{x:Bool}{A B:Option β}{f:β->Option δ}{r:δ} (I:β->St->Hp->Prop) (hc:Et K σ F H u (some x)) (X:Ext Fe He F H) (hm:(bif x then A else B).bind f=some r)
  (h1:∀ b F' H',A=some b->Ext F H F' H'->Ext Fe He F' H'->t { D with nx:=I b } σ H') (h2:∀ b F' H',B=some b->Ext F H F' H'->Ext Fe He F' H'->t' { D with nx:=I b } σ H') (hk:∀ b σ' H',f b=some r->I b σ' H'->u' D σ' H'):Ul (jnw (jhS u t t')) u' D σ H:=
 jb_ (D:={ D with nx:=u' D }) I hc X hm h1 h2 hk
def JS {m:Option γ}{f:γ->Option δ}{r:δ} (he:Ev K σ F H te rs m) (X:Ext Fe He F H) (hm:m.bind f=some r) (k:∀ a F' H',f a=some r->Ext F H F' H'->Ext Fe He F' H'->u' D σ H'):Ul (WX te) u' D σ H:=
 jkz (D:={ D with nx:=u' D }) he X hm k
def jig {m:Option α}{r:δ} (hi:σ[i]?=some (some (.ref a))) (o:Own K He F H c l a) (he:Ev K σ F H te (rF c) m) (X:Ext Fe He F H) (hm:(m.bind fun y=>jaz l y).bind f=some r)
  (k:∀ l' F' H',f l'=some r->Chg a F H F' H'->Ext Fe He F' H'->Own K He F' H' c l' a->u' D σ H'):Ul (WX (tBM K "list" UU (JJ i) (jJ te xq))) u' D σ H:=
 JP (D:={ D with nx:=u' D }) hi o he X hm k
def jeC {y:α}{r:δ} (hi:σ[k']?=some (some (.ref a))) (o:Own K He F H c l a) (he:Ev K σ F H te (rF c) (some y)) (X:Ext Fe He F H) (hm:(jaz l y).bind f=some r)
  (k:∀ l' F' H',f l'=some r->Chg a F H F' H'->Ext Fe He F' H'->Own K He F' H' c l' a->u' D σ H'):Ul (WX (tBM K "list" UU (JJ k') (jJ te xq))) u' D σ H:=
 Q1 (D:={ D with nx:=u' D }) hi o he X hm k
def jdP {y:α}{n:Int}{r:δ} (hi:σ[k']?=some (some (.ref a))) (o:Own K He F H c l a) (he:Ev K σ F H te (rF c) (some y)) (hj:Ev K σ F H ta (rF cI) (some n)) (X:Ext Fe He F H) (hm:(jkH l n y).bind f=some r)
  (k:∀ l' F' H',f l'=some r->Chg a F H F' H'->Ext Fe He F' H'->Own K He F' H' c l' a->u' D σ H'):Ul (VQ te (jns (JJ k') ta jh2)) u' D σ H:=
 jgb (D:={ D with nx:=u' D }) hi o he hj X hm k
def JK {g:TG}{tb:TS}{f:β->α->Option β}{r:δ} (hi:Ei K σ F H Fe He wi c m) (X:Ext Fe He F H) (hm:(m.bind fun l=>forM l b0 f).bind kk=some r) (I:Hp->β->St->Hp->Hp->Prop)
  (h0:∀ F1 H1,Ext F H F1 H1->Ext Fe He F1 H1->I F1 b0 σ F1 H1) (hG:∀ F1 b σ F H,I F1 b σ F H->Ext Fe He F H/\Same F1 F)
  (hs:∀ F1 (S0:Same F F1) b b' x v σ F H F' H',I F1 b σ F H->Ext F H F' H'->c.rep K F' x v->f b x=some b'->g v σ H' fun σ2 H2=>tb { D with nx:=fun σ H=>∃ F,I F1 b' σ F H,ct:=fun σ H=>∃ F,I F1 b' σ F H,bk:=u' D } σ2 H2)
  (hd:∀ F1 (S0:Same F F1) b σ F H,kk b=some r->I F1 b σ F H->u' D σ H):Ul (jjp wi g tb) u' D σ H:=
 jaX (D:={ D with nx:=u' D }) hi X hm I h0 hG hs hd
def jmw {g:TG}{tb:TS}{f:β->α->Option (Fl β γ)}{A:γ->Option δ}{r:δ} (P:γ->Prop) (hi:Ei K σ F H Fe He wi c m) (X:Ext Fe He F H) (hm:(m.bind fun l=>jjG l b0 f).bind (fun x=>x.el A kk)=some r) (hP:∀ c,A c=some r->P c) (I:Hp->β->St->Hp->Hp->Prop)
  (h0:∀ F1 H1,Ext F H F1 H1->Ext Fe He F1 H1->I F1 b0 σ F1 H1) (hG:∀ F1 b σ F H,I F1 b σ F H->Ext Fe He F H/\Same F1 F)
  (hs:∀ F1 (S0:Same F F1) b s x v σ F H F' H',I F1 b σ F H->Ext F H F' H'->c.rep K F' x v->f b x=some s->(∀ c,s=.rt c->P c)->g v σ H' fun σ2 H2=>tb { D with nx:=fun σ H=>∃ b' F,s=.nx b'/\I F1 b' σ F H,ct:=fun σ H=>∃ b' F,s=.nx b'/\I F1 b' σ F H,bk:=u' D } σ2 H2)
  (hd:∀ F1 (S0:Same F F1) b σ F H,kk b=some r->I F1 b σ F H->u' D σ H):Ul (jjp wi g tb) u' D σ H:=
 jkC (D:={ D with nx:=u' D }) P hi X hm hP I h0 hG hs hd
def Jf {N:St->Hp->Prop}{r:VK}{b e:St->Hp->Prop} (h:N σ H):jl2 ⟨N,r,b,e⟩ σ H:=h
def jQ {CX:CXT}{f:Addr}{E:XK}:(jfG CX P w K mg base N qual scope f cdv A outer s H E).nox.K=K:=rfl
end
section
variable {F:Hp}{t:TE}{c:Cd α}{d:Cd β}{p:Pm α}{q:Pm β}{rs:Rs γ}{i:Int}{a:α}{b:β}
def jkI {r:R2}{op:α->β->Option γ} (ho:Op2 K r p q rs op) (ha:Ev K σ F H ta p.rs (some a)) (hb:Ev K σ F H tb q.rs (some b)):Ev K σ F H (tOp r ta tb) rs (op a b):=jb3 ho ha hb
def jkJ {r:V->Hp->VK->Prop} (ho:Op1 K r p rs op) (ha:Ev K σ F H ta p.rs (some a)):Ev K σ F H (tUn r ta) rs (op a):=jmh ho ha
def jih {r:List V->Hp->VK->Prop} (ho:Op1 K (fun x=>r [x]) p rs op) (ha:Ev K σ F H ta p.rs (some a)):Ev K σ F H (tCB r (jJ ta xq)) rs (op a):=jjz ho ha
def jii {u:TT}{a:Bool} (h:Et K σ F H u (some a)):Et K σ F H (jlH u) (some (!a)):=jjB h
def jij {a b:Bool} (h:Ev K σ F H ta (rF cB) (some a)) (h':Ev K σ F H tb (rF cB) (some b)):Ev K σ F H (jbV ta tb) (rF cB) (some (a&&b)):=jkw h h'
def jik {u v:TT}{a b:Bool} (h:Et K σ F H u (some a)) (h':Et K σ F H v (some b)):Et K σ F H (jlG u v) (some (a&&b)):=jkv h h'
def jkK {u v:TT}{a:Bool}{m:Option Bool} (h:Et K σ F H u (some a)) (h':Et K σ F H v m):Et K σ F H (tOr u v) (bif a then some true else m):=jmp h h'
def jeD {x:Int}{mc:Option Int} (ha:Ev K σ F H ta (rF cI) (some x)) (hb:Ev K σ F H tb (rF cI) (some y)) (hc:Ev K σ F H tc (rF cI) mc) :
  Ev K σ F H (VX (rI0 fun i j=>.bl (g i j)) (rI0 fun i j=>.bl (g' i j)) ta tb tc) (rF cB) (bif g x y then mc.bind fun z=>some (g' y z) else some false):=Y5 ha hb hc
def jkL {u:TT}{b:Bool}{ma mb:Option γ} (hc:Et K σ F H u (some b)) (ha:Ev K σ F H ta rs ma) (hb:Ev K σ F H tb rs mb):Ev K σ F H (tIf u ta tb) rs (bif b then ma else mb):=jnN hc ha hb
def jgd (ha:Ev K σ F H ta (rF c) (some a)) (hr:El K σ F H tr c n (some l)):El K σ F H (jJ ta tr) c (n+1) (some (a::l)):=jfY ha hr
def jge (ha:Ev K σ F H ta (rF c) (some a)) (hb:Ev K σ F H tb (rF d) (some b)):Ev K σ F H (jl6 (jJ ta (jJ tb xq))) (rF (cP c d)) (some (a,b)):=jfZ ha hb
def jil {z:α×β} (h:Ev K σ F H ta (rF (cP c d)) (some z)):Ev K σ F H (tOp (jjs K) ta (tC (.int 0))) (rF c) (some z.1):=jmm h
def jim {z:α×β} (h:Ev K σ F H ta (rF (cP c d)) (some z)):Ev K σ F H (tOp (jjs K) ta (tC (.int 1))) (rF d) (some z.2):=jmn h
def jgf (h:Ev K σ F H t (rF cI) (some i)):Eo K σ F H (jh0 t) (some (some i)):=jkt h
def jin {x y:Option Int} (h:Ev K σ F H t (pR c).rs (some l)) (hl:Eo K σ F H tl (some x)) (hh:Eo K σ F H th (some y)):Ev K σ F H (tSl (jnv K) t tl th) (rO c) (some (cut l x y)):=jmo h hl hh
def jio {f:Str}{g:α->β} (hf:QL K c f d g) (h:Ev K σ F H t (rF c) (some a)):Ev K σ F H (jfF K t f) (rF d) (some (g a)):=jmr hf h
def jgg (h:-(2 ^ 64)<j/\j<2 ^ 64) (ha:Ev K σ F H ta (rF cI) (some i)) (hb:Ev K σ F H tb (rF cI) (some j)):Ev K σ F H (tOp (rI CMul fun i j=>.int (i * j)) ta tb) (rF cI) (some (i * j)):=jkD h ha hb
def jgh (h:-(2 ^ 64)<i/\i<2 ^ 64) (ha:Ev K σ F H ta (rF cI) (some i)) (hb:Ev K σ F H tb (rF cI) (some j)):Ev K σ F H (tOp (rI CMul fun i j=>.int (i * j)) ta tb) (rF cI) (some (i * j)):=jkE h ha hb
def jgi (h:0<j) (ha:Ev K σ F H ta (rF cI) (some i)) (hb:Ev K σ F H tb (rF cI) (some j)):Ev K σ F H (tOp (rI (fun _ j=>0<j) fun i j=>.int (i % j)) ta tb) (rF cI) (some (i % j)):=jf8 h ha hb
def jgj (h:0<j/\j<2 ^ 250) (ha:Ev K σ F H ta (rF cI) (some i)) (hb:Ev K σ F H tb (rF cI) (some j)):Ev K σ F H (tOp (rI jfU fun i j=>.int (i / j)) ta tb) (rF cI) (some (i / j)):=jkF h ha hb
def jcc (h:Ev K σ F H t (rF cI) (some i)):Ev K σ F H (jmb K "int" (fun x vs H Q=>∃ i,x=.int i/\vs=[]/\Q (.int (Builtin.Int.intBits i)) H) t) (rF cI) (some ((Builtin.Int.intBits i:Nat):Int)):=jf_ h
def jgk (h:Ev K σ F H t (rF cI) (some j)):Ei K σ F H Fe He (YR (jJ t xq)) cI (Gu 0 j):=jf3 h
def jgl (h:Ev K σ F H t (rF cI) (some i)) (h':Ev K σ F H ta (rF cI) (some j)):Ei K σ F H Fe He (jbW (jJ t (jJ ta xq))) cI (Gu i j):=jkA h h'
def jgm (h:Ev K σ F H t (rF cI) (some j)):Ec K σ F H (YR (jJ t xq)) cI (Gu 0 j):=jf5 h
def jgn (h:Ev K σ F H t (rF cI) (some i)) (h':Ev K σ F H ta (rF cI) (some j)):Ec K σ F H (jbW (jJ t (jJ ta xq))) cI (Gu i j):=jkB h h'
def jeE {tc:Blk->TT}{te:Blk->TE}{mc:α->Option Bool}{me:α->Option β} (hi:Ec K σ F H wi c (some l)) (fr:St) (hfr:(ix.map fun i=>(σ[i]?).join)=fr)
  (hc:∀ b x v F' H',Ext F H F' H'->c.rep K F' x v->Et K (some v::fr) F' H' (tc b) (mc x)) (he:∀ b x v F' H',Ext F H F' H'->c.rep K F' x v->Ev K (some v::fr) F' H' (te b) (rF d) (me x)) :
  Ev K σ F H (QJ wi 1 ix (fun _=>ql 0) tc te) (rO d) (k7 l mc me):=Y8 hi fr hfr hc he
def jeF {tc:Blk->TT}{te:Blk->TE}{l:List Int}{mc:Int->Option Bool}{me:Int->Option β} (hi:Ec K σ F H wi cI (some l)) (fr:St) (hfr:(ix.map fun i=>(σ[i]?).join)=fr)
  (hc:∀ b x F' H',Ext F H F' H'->Et K (some (.int x)::fr) F' H' (tc b) (mc x)) (he:∀ b x F' H',Ext F H F' H'->Ev K (some (.int x)::fr) F' H' (te b) (rF d) (me x)) :
  Ev K σ F H (QJ wi 1 ix (fun _=>ql 0) tc te) (rO d) (k7 l mc me):=jdK hi fr hfr hc he
def jcd {tc:Blk->TT}{te:Blk->TE}{e:Cd γ}{l:List (Int×Int)} (hi:Ec K σ F H wi (cP cI cI) (some l)) (fr:St) (hfr:(ix.map fun i=>(σ[i]?).join)=fr)
  (hc:∀ b x y F' H',Ext F H F' H'->Et K (some (.int x)::some (.int y)::fr) F' H' (tc b) (mc (x,y))) (he:∀ b x y F' H',Ext F H F' H'->Ev K (some (.int x)::some (.int y)::fr) F' H' (te b) (rF e) (me (x,y))) :
  Ev K σ F H (QJ wi 2 ix (fun _=>jhK K 2 (Jc (ql 0) (Jc (ql 1) jhJ))) tc te) (rO e) (k7 l mc me):=jaY hi fr hfr hc he
def jip {g:TG}{tb:TS}{f:β->α->Option β}{r:δ} (hi:Ei K σ F H Fe He wi c (some l)) (X:Ext Fe He F H) (hm:(forM l b0 f).bind kk=some r) (I:Hp->β->St->Hp->Hp->Prop)
  (h0:∀ F1 H1,Ext F H F1 H1->Ext Fe He F1 H1->I F1 b0 σ F1 H1) (hG:∀ F1 b σ F H,I F1 b σ F H->Ext Fe He F H/\Same F1 F)
  (hs:∀ F1 (S0:Same F F1) b b' x v σ F H F' H',I F1 b σ F H->Ext F H F' H'->c.rep K F' x v->f b x=some b'->g v σ H' fun σ2 H2=>tb { D with nx:=fun σ H=>∃ F,I F1 b' σ F H,ct:=fun σ H=>∃ F,I F1 b' σ F H,bk:=D.nx } σ2 H2)
  (hd:∀ F1 (S0:Same F F1) b σ F H,kk b=some r->I F1 b σ F H->D.nx σ H):jjp wi g tb D σ H:=jaX (m:=some l) hi X hm I h0 hG hs hd
def jce {g:TG}{tb:TS}{f:β->α->Option β}{r:δ} (hi:Ei K σ F H Fe He wi c (some l)) (X:Ext Fe He F H) (hm:(forM l b0 f).bind kk=some r) (I:Hp->β->St->Hp->Hp->Prop)
  (h0:∀ F1 H1,Ext F H F1 H1->Ext Fe He F1 H1->I F1 b0 σ F1 H1) (hG:∀ F1 b σ F H,I F1 b σ F H->Ext Fe He F H/\Same F1 F)
  (hs:∀ F1 (S0:Same F F1) b b' x v σ F H F' H',I F1 b σ F H->Ext F H F' H'->c.rep K F' x v->f b x=some b'->g v σ H' fun σ2 H2=>tb { D with nx:=fun σ H=>∃ F,I F1 b' σ F H,ct:=fun σ H=>∃ F,I F1 b' σ F H,bk:=u' D } σ2 H2)
  (hd:∀ F1 (S0:Same F F1) b σ F H,kk b=some r->I F1 b σ F H->u' D σ H):Ul (jjp wi g tb) u' D σ H:=JK (m:=some l) hi X hm I h0 hG hs hd
def jiq {g:TG}{tb:TS}{f:β->α->Option (Fl β γ)}{A:γ->Option δ}{r:δ} (P:γ->Prop) (hi:Ei K σ F H Fe He wi c (some l)) (X:Ext Fe He F H) (hm:(jjG l b0 f).bind (fun x=>x.el A kk)=some r) (hP:∀ c,A c=some r->P c) (I:Hp->β->St->Hp->Hp->Prop)
  (h0:∀ F1 H1,Ext F H F1 H1->Ext Fe He F1 H1->I F1 b0 σ F1 H1) (hG:∀ F1 b σ F H,I F1 b σ F H->Ext Fe He F H/\Same F1 F)
  (hs:∀ F1 (S0:Same F F1) b s x v σ F H F' H',I F1 b σ F H->Ext F H F' H'->c.rep K F' x v->f b x=some s->(∀ c,s=.rt c->P c)->g v σ H' fun σ2 H2=>tb { D with nx:=fun σ H=>∃ b' F,s=.nx b'/\I F1 b' σ F H,ct:=fun σ H=>∃ b' F,s=.nx b'/\I F1 b' σ F H,bk:=u' D } σ2 H2)
  (hd:∀ F1 (S0:Same F F1) b σ F H,kk b=some r->I F1 b σ F H->u' D σ H):Ul (jjp wi g tb) u' D σ H:=jmw (m:=some l) P hi X hm hP I h0 hG hs hd
def jeG {p1:Pm α1}{m:α1->Option γ} (h1:Ev K σ F H t1 p1.rs (some x1)):Ev K σ F H (QZ (sp1 K p1 rs m) [] E0 (jJ t1 xq)) rs (m x1):=jdE h1
def jeH {c1:Cd α1}{m:α1->Option γ} (ob:Y6 c1 C nm) (h1:Ev K σ F H t1 (rF c1) (some x1)):Ev K σ F H (Q0 C nm (sp1 K (pF c1) rs m) [] E0 t1 xq) rs (m x1):=jdF ob h1
def jeI {p1:Pm α1}{p2:Pm α2}{m:α1->α2->Option γ} (h1:Ev K σ F H t1 p1.rs (some x1)) (h2:Ev K σ F H t2 p2.rs (some x2)):Ev K σ F H (QZ (sp2 K p1 p2 rs m) [] E0 (jJ t1 (jJ t2 xq))) rs (m x1 x2):=jdG h1 h2
def jeJ {c1:Cd α1}{p2:Pm α2}{m:α1->α2->Option γ} (ob:Y6 c1 C nm) (h1:Ev K σ F H t1 (rF c1) (some x1)) (h2:Ev K σ F H t2 p2.rs (some x2)):Ev K σ F H (Q0 C nm (sp2 K (pF c1) p2 rs m) [] E0 t1 (jJ t2 xq)) rs (m x1 x2):=jdH ob h1 h2
def jeK {p1:Pm α1}{p2:Pm α2}{p3:Pm α3}{m:α1->α2->α3->Option γ}{x3:α3} (h1:Ev K σ F H t1 p1.rs (some x1)) (h2:Ev K σ F H t2 p2.rs (some x2)) (h3:Ev K σ F H t3 p3.rs (some x3)):Ev K σ F H (QZ (sp3 K p1 p2 p3 rs m) [] E0 (jJ t1 (jJ t2 (jJ t3 xq)))) rs (m x1 x2 x3):=jh_ h1 h2 h3
end
section
variable {F:Hp}{t:TE}{c:Cd α}{d:Cd β}{p:Pm α}{q:Pm β}{rs:Rs γ} 
variable {a:α}{b:β}
def jy {r:R2}{op:α->β->Option γ}  {mm_:_} (ho:Op2 K r p q rs op) (ha:Ev K σ F H ta p.rs ma) (hb:Ev K σ F H tb q.rs mb) (e':mm_=(ma.bind fun a=>mb.bind fun b=>op a b)):Ev K σ F H (tOp r ta tb) rs mm_:=by
 subst e';exact jb3 ho ha hb
def jf {r:R2}{op:α->β->Option γ}  {mm_:_} (ho:Op2 K r p q rs op) (ha:Ev K σ F H ta p.rs (some a)) (hb:Ev K σ F H tb q.rs (some b)) (e':mm_=(op a b)):Ev K σ F H (tOp r ta tb) rs mm_:=by
 subst e';exact jkI ho ha hb
def zB {r:V->Hp->VK->Prop}  {mm_:_} (ho:Op1 K r p rs op) (ha:Ev K σ F H ta p.rs (some a)) (e':mm_=(op a)):Ev K σ F H (tUn r ta) rs mm_:=by
 subst e';exact jkJ ho ha
def kO {r:List V->Hp->VK->Prop}  {mm_:_} (ho:Op1 K (fun x=>r [x]) p rs op) (ha:Ev K σ F H ta p.rs ma) (e':mm_=(ma.bind op)):Ev K σ F H (tCB r (jJ ta xq)) rs mm_:=by
 subst e';exact jjz ho ha
def jk {r:List V->Hp->VK->Prop}  {mm_:_} (ho:Op1 K (fun x=>r [x]) p rs op) (ha:Ev K σ F H ta p.rs (some a)) (e':mm_=(op a)):Ev K σ F H (tCB r (jJ ta xq)) rs mm_:=by
 subst e';exact jih ho ha
def jdQ {m:Option Bool}  {mm_:_} (h:Ev K σ F H t (rF cB) m) (e':mm_=(m.bind fun b=>some (!b))):Ev K σ F H (jke t) (rF cB) mm_:=by
 subst e';exact jmq h
def Qw {u:TT}{m:Option Bool}  {mm_:_} (h:Et K σ F H u m) (e':mm_=(m.bind fun b=>some (!b))):Et K σ F H (jlH u) mm_:=by
 subst e';exact jjB h
def GX {u:TT}{a:Bool}  {mm_:_} (h:Et K σ F H u (some a)) (e':mm_=(some (!a))):Et K σ F H (jlH u) mm_:=by
 subst e';exact jii h
def jdR {m:Option Bool}  {mm_:_} (h:Ev K σ F H ta (rF cB) m) (h':Ev K σ F H tb (rF cB) n') (e':mm_=(m.bind fun b=>bif b then n' else some false)):Ev K σ F H (jbV ta tb) (rF cB) mm_:=by
 subst e';exact jjD h h'
def jeL {a b:Bool}  {mm_:_} (h:Ev K σ F H ta (rF cB) (some a)) (h':Ev K σ F H tb (rF cB) (some b)) (e':mm_=(some (a&&b))):Ev K σ F H (jbV ta tb) (rF cB) mm_:=by
 subst e';exact jij h h'
def jir {u v:TT}{m:Option Bool}  {mm_:_} (h:Et K σ F H u m) (h':Et K σ F H v n') (e':mm_=(m.bind fun b=>bif b then n' else some false)):Et K σ F H (jlG u v) mm_:=by
 subst e';exact jjC h h'
def UX {u v:TT}{a b:Bool}  {mm_:_} (h:Et K σ F H u (some a)) (h':Et K σ F H v (some b)) (e':mm_=(some (a&&b))):Et K σ F H (jlG u v) mm_:=by
 subst e';exact jik h h'
def jcf {u v:TT}{m:Option Bool}  {mm_:_} (h:Et K σ F H u m) (h':Et K σ F H v n') (e':mm_=(m.bind fun b=>bif b then some true else n')):Et K σ F H (tOr u v) mm_:=by
 subst e';exact jmp h h'
def JT {u:TT}{b:Bool}{ma mb:Option γ}  {mm_:_} (hc:Et K σ F H u (some b)) (ha:Ev K σ F H ta rs ma) (hb:Ev K σ F H tb rs mb) (e':mm_=(bif b then ma else mb)):Ev K σ F H (tIf u ta tb) rs mm_:=by
 subst e';exact jkL hc ha hb
def GY  {mm_:_} (ha:Ev K σ F H ta (rF c) ma) (hr:El K σ F H tr c n mr) (e':mm_=(ma.bind fun a=>mr.bind fun l=>some (a::l))):El K σ F H (jJ ta tr) c (n+1) mm_:=by
 subst e';exact jfY ha hr
def qS  {mm_:_} (ha:Ev K σ F H ta (rF c) (some a)) (hr:El K σ F H tr c n (some l)) (e':mm_=(some (a::l))):El K σ F H (jJ ta tr) c (n+1) mm_:=by
 subst e';exact jgd ha hr
def Us  {mm_:_} (ha:Ev K σ F H ta (rF c) ma) (hb:Ev K σ F H tb (rF d) mb) (e':mm_=(ma.bind fun a=>mb.bind fun b=>some (a,b))):Ev K σ F H (jl6 (jJ ta (jJ tb xq))) (rF (cP c d)) mm_:=by
 subst e';exact jfZ ha hb
def qT  {mm_:_} (ha:Ev K σ F H ta (rF c) (some a)) (hb:Ev K σ F H tb (rF d) (some b)) (e':mm_=(some (a,b))):Ev K σ F H (jl6 (jJ ta (jJ tb xq))) (rF (cP c d)) mm_:=by
 subst e';exact jge ha hb
def Yr {z:α×β}  {mm_:_} (h:Ev K σ F H ta (rF (cP c d)) (some z)) (e':mm_=(some z.1)):Ev K σ F H (tOp (jjs K) ta (tC (.int 0))) (rF c) mm_:=by
 subst e';exact jil h
def Ys {z:α×β}  {mm_:_} (h:Ev K σ F H ta (rF (cP c d)) (some z)) (e':mm_=(some z.2)):Ev K σ F H (tOp (jjs K) ta (tC (.int 1))) (rF d) mm_:=by
 subst e';exact jim h
def qU {i:Int}  {mm_:_} (h:Ev K σ F H t (rF cI) (some i)) (e':mm_=(some (some i))):Eo K σ F H (jh0 t) mm_:=by
 subst e';exact jgf h
def Ga {x y:Option Int}  {mm_:_} (h:Ev K σ F H t (pR c).rs (some l)) (hl:Eo K σ F H tl (some x)) (hh:Eo K σ F H th (some y)) (e':mm_=(some (cut l x y))):Ev K σ F H (tSl (jnv K) t tl th) (rO c) mm_:=by
 subst e';exact jin h hl hh
def js {f:Str}{g:α->β}  {mm_:_} (hf:QL K c f d g) (h:Ev K σ F H t (rF c) (some a)) (e':mm_=(some (g a))):Ev K σ F H (jfF K t f) (rF d) mm_:=by
 subst e';exact jio hf h
def V8 {i:Int}  {mm_:_} (h:-(2 ^ 64)<j/\j<2 ^ 64) (ha:Ev K σ F H ta (rF cI) (some i)) (hb:Ev K σ F H tb (rF cI) (some j)) (e':mm_=(some (i * j))):Ev K σ F H (tOp (rI CMul fun i j=>.int (i * j)) ta tb) (rF cI) mm_:=by
 subst e';exact jgg h ha hb
def jcg {i:Int}  {mm_:_} (h:-(2 ^ 64)<i/\i<2 ^ 64) (ha:Ev K σ F H ta (rF cI) (some i)) (hb:Ev K σ F H tb (rF cI) (some j)) (e':mm_=(some (i * j))):Ev K σ F H (tOp (rI CMul fun i j=>.int (i * j)) ta tb) (rF cI) mm_:=by
 subst e';exact jgh h ha hb
def jgo {ma:Option Int}  {mm_:_} (h:0<j) (ha:Ev K σ F H ta (rF cI) ma) (hb:Ev K σ F H tb (rF cI) (some j)) (e':mm_=(ma.bind fun a=>some (a % j))):Ev K σ F H (tOp (rI (fun _ j=>0<j) fun i j=>.int (i % j)) ta tb) (rF cI) mm_:=by
 subst e';exact jf8 h ha hb
def Q2 {i:Int}  {mm_:_} (h:0<j) (ha:Ev K σ F H ta (rF cI) (some i)) (hb:Ev K σ F H tb (rF cI) (some j)) (e':mm_=(some (i % j))):Ev K σ F H (tOp (rI (fun _ j=>0<j) fun i j=>.int (i % j)) ta tb) (rF cI) mm_:=by
 subst e';exact jgi h ha hb
def V9 {i:Int}  {mm_:_} (h:0<j/\j<2 ^ 250) (ha:Ev K σ F H ta (rF cI) (some i)) (hb:Ev K σ F H tb (rF cI) (some j)) (e':mm_=(some (i / j))):Ev K σ F H (tOp (rI jfU fun i j=>.int (i / j)) ta tb) (rF cI) mm_:=by
 subst e';exact jgj h ha hb
def Zb {i:Int}  {mm_:_} (h:Ev K σ F H t (rF cI) (some i)) (e':mm_=(some ((Builtin.Int.intBits i:Nat):Int))):Ev K σ F H (jmb K "int" (fun x vs H Q=>∃ i,x=.int i/\vs=[]/\Q (.int (Builtin.Int.intBits i)) H) t) (rF cI) mm_:=by
 subst e';exact jcc h
def jgp {m:Option Int}  {mm_:_} (h:Ev K σ F H t (rF cI) m) (e':mm_=(m.bind fun j=>Gu 0 j)):Ei K σ F H Fe He (YR (jJ t xq)) cI mm_:=by
 subst e';exact jf3 h
def qV  {mm_:_} (h:Ev K σ F H t (rF cI) (some j)) (e':mm_=(Gu 0 j)):Ei K σ F H Fe He (YR (jJ t xq)) cI mm_:=by
 subst e';exact jgk h
def jch {i:Int}  {mm_:_} (h:Ev K σ F H t (rF cI) (some i)) (h':Ev K σ F H ta (rF cI) (some j)) (e':mm_=(Gu i j)):Ei K σ F H Fe He (jbW (jJ t (jJ ta xq))) cI mm_:=by
 subst e';exact jgl h h'
def JU {m:Option Int}  {mm_:_} (h:Ev K σ F H t (rF cI) m) (e':mm_=(m.bind fun j=>Gu 0 j)):Ec K σ F H (YR (jJ t xq)) cI mm_:=by
 subst e';exact jf5 h
def Gf  {mm_:_} (h:Ev K σ F H t (rF cI) (some j)) (e':mm_=(Gu 0 j)):Ec K σ F H (YR (jJ t xq)) cI mm_:=by
 subst e';exact jgm h
def jci {i:Int}  {mm_:_} (h:Ev K σ F H t (rF cI) (some i)) (h':Ev K σ F H ta (rF cI) (some j)) (e':mm_=(Gu i j)):Ec K σ F H (jbW (jJ t (jJ ta xq))) cI mm_:=by
 subst e';exact jgn h h'
def Qx {tc:Blk->TT}{te:Blk->TE}{mc:α->Option Bool}{me:α->Option β}  {mm_:_} (hi:Ec K σ F H wi c m) (fr:St) (hfr:(ix.map fun i=>(σ[i]?).join)=fr)
  (hc:∀ b x v F' H',Ext F H F' H'->c.rep K F' x v->Et K (some v::fr) F' H' (tc b) (mc x)) (he:∀ b x v F' H',Ext F H F' H'->c.rep K F' x v->Ev K (some v::fr) F' H' (te b) (rF d) (me x)) (e':mm_=(m.bind fun l=>k7 l mc me)):Ev K σ F H (QJ wi 1 ix (fun _=>ql 0) tc te) (rO d) mm_:=by
 subst e';exact Y8 hi fr hfr hc he
def JV {tc:Blk->TT}{te:Blk->TE}{mc:α->Option Bool}{me:α->Option β}  {mm_:_} (hi:Ec K σ F H wi c (some l)) (fr:St) (hfr:(ix.map fun i=>(σ[i]?).join)=fr)
  (hc:∀ b x v F' H',Ext F H F' H'->c.rep K F' x v->Et K (some v::fr) F' H' (tc b) (mc x)) (he:∀ b x v F' H',Ext F H F' H'->c.rep K F' x v->Ev K (some v::fr) F' H' (te b) (rF d) (me x)) (e':mm_=(k7 l mc me)):Ev K σ F H (QJ wi 1 ix (fun _=>ql 0) tc te) (rO d) mm_:=by
 subst e';exact jeE hi fr hfr hc he
def qy {tc:Blk->TT}{te:Blk->TE}{m:Option (List Int)}{mc:Int->Option Bool}{me:Int->Option β}  {mm_:_} (hi:Ec K σ F H wi cI m) (fr:St) (hfr:(ix.map fun i=>(σ[i]?).join)=fr)
  (hc:∀ b x F' H',Ext F H F' H'->Et K (some (.int x)::fr) F' H' (tc b) (mc x)) (he:∀ b x F' H',Ext F H F' H'->Ev K (some (.int x)::fr) F' H' (te b) (rF d) (me x)) (e':mm_=(m.bind fun l=>k7 l mc me)):Ev K σ F H (QJ wi 1 ix (fun _=>ql 0) tc te) (rO d) mm_:=by
 subst e';exact jdK hi fr hfr hc he
def xP {tc:Blk->TT}{te:Blk->TE}{l:List Int}{mc:Int->Option Bool}{me:Int->Option β}  {mm_:_} (hi:Ec K σ F H wi cI (some l)) (fr:St) (hfr:(ix.map fun i=>(σ[i]?).join)=fr)
  (hc:∀ b x F' H',Ext F H F' H'->Et K (some (.int x)::fr) F' H' (tc b) (mc x)) (he:∀ b x F' H',Ext F H F' H'->Ev K (some (.int x)::fr) F' H' (te b) (rF d) (me x)) (e':mm_=(k7 l mc me)):Ev K σ F H (QJ wi 1 ix (fun _=>ql 0) tc te) (rO d) mm_:=by
 subst e';exact jeF hi fr hfr hc he
def jcj {tc:Blk->TT}{te:Blk->TE}{e:Cd γ}{m:Option (List (Int×Int))}  {mm_:_} (hi:Ec K σ F H wi (cP cI cI) m) (fr:St) (hfr:(ix.map fun i=>(σ[i]?).join)=fr)
  (hc:∀ b x y F' H',Ext F H F' H'->Et K (some (.int x)::some (.int y)::fr) F' H' (tc b) (mc (x,y))) (he:∀ b x y F' H',Ext F H F' H'->Ev K (some (.int x)::some (.int y)::fr) F' H' (te b) (rF e) (me (x,y))) (e':mm_=(m.bind fun l=>k7 l mc me)):Ev K σ F H (QJ wi 2 ix (fun _=>jhK K 2 (Jc (ql 0) (Jc (ql 1) jhJ))) tc te) (rO e) mm_:=by
 subst e';exact jaY hi fr hfr hc he
def Ut {tc:Blk->TT}{te:Blk->TE}{e:Cd γ}{l:List (Int×Int)}  {mm_:_} (hi:Ec K σ F H wi (cP cI cI) (some l)) (fr:St) (hfr:(ix.map fun i=>(σ[i]?).join)=fr)
  (hc:∀ b x y F' H',Ext F H F' H'->Et K (some (.int x)::some (.int y)::fr) F' H' (tc b) (mc (x,y))) (he:∀ b x y F' H',Ext F H F' H'->Ev K (some (.int x)::some (.int y)::fr) F' H' (te b) (rF e) (me (x,y))) (e':mm_=(k7 l mc me)):Ev K σ F H (QJ wi 2 ix (fun _=>jhK K 2 (Jc (ql 0) (Jc (ql 1) jhJ))) tc te) (rO e) mm_:=by
 subst e';exact jcd hi fr hfr hc he
def kU {p1:Pm α1}{m:α1->Option γ}  {mm_:_} (h1:Ev K σ F H t1 p1.rs m1) (e':mm_=(m1.bind fun x1=>m x1)):Ev K σ F H (QZ (sp1 K p1 rs m) [] E0 (jJ t1 xq)) rs mm_:=by
 subst e';exact jdE h1
def jC {p1:Pm α1}{m:α1->Option γ}  {mm_:_} (h1:Ev K σ F H t1 p1.rs (some x1)) (e':mm_=(m x1)):Ev K σ F H (QZ (sp1 K p1 rs m) [] E0 (jJ t1 xq)) rs mm_:=by
 subst e';exact jeG h1
def jY {p1:Pm α1}{p2:Pm α2}{m:α1->α2->Option γ}  {mm_:_} (h1:Ev K σ F H t1 p1.rs m1) (h2:Ev K σ F H t2 p2.rs m2) (e':mm_=(m1.bind fun x1=>m2.bind fun x2=>m x1 x2)):Ev K σ F H (QZ (sp2 K p1 p2 rs m) [] E0 (jJ t1 (jJ t2 xq))) rs mm_:=by
 subst e';exact jdG h1 h2
def jr {p1:Pm α1}{p2:Pm α2}{m:α1->α2->Option γ}  {mm_:_} (h1:Ev K σ F H t1 p1.rs (some x1)) (h2:Ev K σ F H t2 p2.rs (some x2)) (e':mm_=(m x1 x2)):Ev K σ F H (QZ (sp2 K p1 p2 rs m) [] E0 (jJ t1 (jJ t2 xq))) rs mm_:=by
 subst e';exact jeI h1 h2
def JW {p1:Pm α1}{p2:Pm α2}{p3:Pm α3}{m:α1->α2->α3->Option γ}{x3:α3}  {mm_:_} (h1:Ev K σ F H t1 p1.rs (some x1)) (h2:Ev K σ F H t2 p2.rs (some x2)) (h3:Ev K σ F H t3 p3.rs (some x3)) (e':mm_=(m x1 x2 x3)):Ev K σ F H (QZ (sp3 K p1 p2 p3 rs m) [] E0 (jJ t1 (jJ t2 (jJ t3 xq)))) rs mm_:=by
 subst e';exact jeK h1 h2 h3
def jeM {c1:Cd α1}{m:α1->Option γ}  {mm_:_} (ob:Y6 c1 C nm) (h1:Ev K σ F H t1 (rF c1) m1) (e':mm_=(m1.bind fun x1=>m x1)):Ev K σ F H (Q0 C nm (sp1 K (pF c1) rs m) [] E0 t1 xq) rs mm_:=by
 subst e';exact jdF ob h1
def kX {c1:Cd α1}{m:α1->Option γ}  {mm_:_} (ob:Y6 c1 C nm) (h1:Ev K σ F H t1 (rF c1) (some x1)) (e':mm_=(m x1)):Ev K σ F H (Q0 C nm (sp1 K (pF c1) rs m) [] E0 t1 xq) rs mm_:=by
 subst e';exact jeH ob h1
def GZ {c1:Cd α1}{p2:Pm α2}{m:α1->α2->Option γ}  {mm_:_} (ob:Y6 c1 C nm) (h1:Ev K σ F H t1 (rF c1) m1) (h2:Ev K σ F H t2 p2.rs m2) (e':mm_=(m1.bind fun x1=>m2.bind fun x2=>m x1 x2)):Ev K σ F H (Q0 C nm (sp2 K (pF c1) p2 rs m) [] E0 t1 (jJ t2 xq)) rs mm_:=by
 subst e';exact jdH ob h1 h2
def xt {c1:Cd α1}{p2:Pm α2}{m:α1->α2->Option γ}  {mm_:_} (ob:Y6 c1 C nm) (h1:Ev K σ F H t1 (rF c1) (some x1)) (h2:Ev K σ F H t2 p2.rs (some x2)) (e':mm_=(m x1 x2)):Ev K σ F H (Q0 C nm (sp2 K (pF c1) p2 rs m) [] E0 t1 (jJ t2 xq)) rs mm_:=by
 subst e';exact jeJ ob h1 h2
def V_ {u v:TT}{a:Bool}{m:Option Bool}  {mm_:_} (h:Et K σ F H u (some a)) (h':Et K σ F H v m) (e':mm_=(bif a then some true else m)):Et K σ F H (tOr u v) mm_:=by
 subst e';exact jkK h h'
def jaZ {x:Int}{mc:Option Int}  {mm_:_} (ha:Ev K σ F H ta (rF cI) (some x)) (hb:Ev K σ F H tb (rF cI) (some y)) (hc:Ev K σ F H tc (rF cI) mc) (e':mm_=(bif g x y then mc.bind fun z=>some (g' y z) else some false)):Ev K σ F H (VX (rI0 fun i j=>.bl (g i j)) (rI0 fun i j=>.bl (g' i j)) ta tb tc) (rF cB) mm_:=by
 subst e';exact jeD ha hb hc
def Jg {x:Int}  {mm_:_} (ha:Ev K σ F H ta (rF cI) (some x)) (hb:Ev K σ F H tb (rF cI) (some y)) (hc:Ev K σ F H tc (rF cI) (some z)) (e':mm_=(some (g x y&&g' y z))):Ev K σ F H (VX (rI0 fun i j=>.bl (g i j)) (rI0 fun i j=>.bl (g' i j)) ta tb tc) (rF cB) mm_:=by
 subst e';exact jfX ha hb hc
def ja0 {x w:Int}  {mm_:_} (ha:Ev K σ F H ta (rF cI) (some x)) (hb:Ev K σ F H tb (rF cI) (some y)) (hc:Ev K σ F H tc (rF cI) (some z)) (hd:Ev K σ F H td (rF cI) (some w)) (e':mm_=(some (g x y&&(g' y z&&g'' z w)))):Ev K σ F H (jb2 (rI0 fun i j=>.bl (g i j)) (rI0 fun i j=>.bl (g' i j)) (rI0 fun i j=>.bl (g'' i j)) ta tb tc td) (rF cB) mm_:=by
 subst e';exact jeB ha hb hc hd
def jgq {i:Int}{j:Nat}  {mm_:_} (h:(0:Int)<=(j:Int)/\(j:Int)<=1000000/\i.natAbs<2 ^ 64) (ha:Ev K σ F H ta (rF cI) (some i)) (hb:Ev K σ F H tb (rF cI) (some (j:Int))) (e':mm_=(some (i ^ j))):Ev K σ F H (tOp (rI jlJ fun i j=>.int (i ^ j.toNat)) ta tb) (rF cI) mm_:=by
 subst e';exact jkG h ha hb
end
section
variable {F:Hp}{t:TE}{c:Cd α}{d:Cd β}{p:Pm α}{q:Pm β}{rs:Rs γ}{i:Int}
def GI {f:Str}{fs:List (Str×V)} (h:fs.length<=n):(QI f v fs).length<=n+1:=XV (QY f v fs) (Nat.succ_le_succ h)
structure OwnI (He F H:Hp) (C x dx:Addr) (fs:List (Str×V)):Prop where
 e:He x=none
 f:F x=none
 h:H x=some (.ins C dx fs)
def OwnI.mono {x:Addr}{fs:List (Str×V)} (o:OwnI He F H C x dx fs) (E:Ext F H F' H'):OwnI He F' H' C x dx fs:=by
 refine⟨o.e,?_,E.h _ _ o.h⟩;cases e:F' x with
 | none=>rfl
 | some u=>
  rcases E.new x u e with z | z
  ·rw[o.f] at z; cases z
  ·rw[o.h] at z; cases z
def OwnI.freeze {x:Addr}{fs:List (Str×V)} (o:OwnI He F H C x dx fs) (X:Ext Fe He F H):∃ F',Ext Fe He F' H/\Chg x F H F' H/\F' x=some (.ins C dx fs):=
 ⟨upd F x (.ins C dx fs),X.frz o.e o.f o.h,⟨qM o.f,fun _ _ _ h=>h,fun b u e hb=>by rw[km e] at hb; exact .inl hb⟩,j_⟩
def jck {k:Nat}{x:Addr}{fs:List (Str×V)}{f:Str}{a:α} (hi:σ[k]?=some (some (.ref x))) (o:OwnI He F H C x dx fs) (cl:Cls K C) (na:NoAttr K C f) (hl:fs.lookup f=some v) (h:p.rel K F H a v):Ev K σ F H (jfF K (JJ k) f) p.rs (some a):=by
 intro F1 H1 E b e Q k;cases e;exact⟨_,hi,x,C,dx,fs,v,rfl,E.h _ _ o.h,cl,na,hl,k v F1 H1 (Ext.refl E.sub) (p.mono E h)⟩
def Vq {x:Addr}{fs:List (Str×V)}{f:Str}{m:Option α}{g:α->Option δ}{r:δ} (hi:σ[k']?=some (some (.ref x))) (o:OwnI He F H C x dx fs) (cl:Cls K C) (na:NoAttr K C f) (hn:fs.length<1000) (he:Ev K σ F H te (rF c) m) (X:Ext Fe He F H) (hm:m.bind g=some r)
  (k:∀ a v F' H',g a=some r->Chg x F H F' H'->Ext Fe He F' H'->c.rep K F' a v->OwnI He F' H' C x dx (QI f v fs)->D.nx σ H'):jlK K (JJ k') te f D σ H:=by
 obtain⟨a,ea,hm⟩:=bind_some hm;refine he F H (Ext.refl X.sub) a ea _ fun v F2 H2 E hv=>⟨_,hi,x,C,dx,fs,rfl,E.h _ _ o.h,cl,na,hn,?_⟩;have o2:=o.mono E;exact k a v F2 _ hm (UW E) ((X.trans E).upd o2.e o2.f) hv ⟨o2.e,o2.f,j_⟩
def jcl {x:Addr}{fs:List (Str×V)}{f:Str}{m:Option α}{g:α->Option δ}{r:δ} (hi:σ[k']?=some (some (.ref x))) (o:OwnI He F H C x dx fs) (cl:Cls K C) (na:NoAttr K C f) (hn:fs.length<1000) (he:Ev K σ F H te (rF c) m) (X:Ext Fe He F H) (hm:m.bind g=some r)
  (k:∀ a v F' H',g a=some r->Chg x F H F' H'->Ext Fe He F' H'->c.rep K F' a v->OwnI He F' H' C x dx (QI f v fs)->u' D σ H'):Ul (jlK K (JJ k') te f) u' D σ H:=Vq (D:={ D with nx:=u' D }) hi o cl na hn he X hm k
def yr {x:Addr} (s:Same F He) (h1:He x=none) (h2:He dx=none) (hne:dx≠x):Ext F He F (upd (upd He dx (.own x)) x (.ins C dx []))/\OwnI He F (upd (upd He dx (.own x)) x (.ins C dx [])) C x dx []:=by
 have e1:Ext F He F (upd He dx (.own x)):=Ext.newO s h2;have h3:(upd He dx (.own x)) x=none:=by rw[km (Ne.symm hne)]; exact h1
 exact⟨e1.trans (Ext.newO e1.sub h3),h1,s.free h1,j_⟩
def jis (K:W.Frag) (C:Addr) (p1:Pm α1) (c:Cd γ) (m:α1->Option γ):Sp:=fun vs H Q _=>∃ (x1:α1) (v1:V) (F H1:Hp) (x dx:Addr) (r:γ),vs=[.ref x,v1]/\H=upd (upd H1 dx (.own x)) x (.ins C dx [])/\H1 x=none/\H1 dx=none/\dx≠x/\Same F H1/\p1.rel K F H1 x1 v1/\m x1=some r/\∀ F' H',Ext F H1 F' H'->c.rep K F' r (.ref x)->Q .non H'
def yt {c:Cd γ}{p1:Pm α1}{m:α1->Option γ}{mm_:Option γ} (h1:Ev K σ F H t1 p1.rs (some x1)) (e':mm_=(m x1)):Ev K σ F H (jaH C (jis K C p1 c m) [] E0 (jJ t1 xq)) (rF c) mm_:=by
 subst e';intro F0 H0 E0' z e Q k;refine h1 F0 H0 (E0') x1 rfl _ fun v1 F1 H1 E1 r1=>?_;intro x dx n1 n2 n3;exact⟨x1,v1,F1,H1,x,dx,z,rfl,rfl,n1,n2,n3,E1.sub,r1,e,fun F' H' E' hu=>⟨rfl,k _ F' H' ((E1).trans E') hu⟩⟩
def jlL (K:W.Frag) (C:Addr) (p1:Pm α1) (p2:Pm α2) (c:Cd γ) (m:α1->α2->Option γ):Sp:=fun vs H Q _=>∃ (x1:α1) (x2:α2) (v1 v2:V) (F H1:Hp) (x dx:Addr) (r:γ),vs=[.ref x,v1,v2]/\H=upd (upd H1 dx (.own x)) x (.ins C dx [])/\H1 x=none/\H1 dx=none/\dx≠x/\Same F H1/\p1.rel K F H1 x1 v1/\p2.rel K F H1 x2 v2/\m x1 x2=some r/\∀ F' H',Ext F H1 F' H'->c.rep K F' r (.ref x)->Q .non H'
def JX {c:Cd γ}{p1:Pm α1}{p2:Pm α2}{m:α1->α2->Option γ}{mm_:Option γ} (h1:Ev K σ F H t1 p1.rs (some x1)) (h2:Ev K σ F H t2 p2.rs (some x2)) (e':mm_=(m x1 x2)):Ev K σ F H (jaH C (jlL K C p1 p2 c m) [] E0 (jJ t1 (jJ t2 xq))) (rF c) mm_:=by
 subst e';intro F0 H0 E0' z e Q k;refine h1 F0 H0 (E0') x1 rfl _ fun v1 F1 H1 E1 r1=>?_;refine h2 F1 H1 ((E0').trans E1) x2 rfl _ fun v2 F2 H2 E2 r2=>?_;intro x dx n1 n2 n3;exact⟨x1,x2,v1,v2,F2,H2,x,dx,z,rfl,rfl,n1,n2,n3,E2.sub,p1.mono (E2) r1,r2,e,fun F' H' E' hu=>⟨rfl,k _ F' H' ((E1.trans (E2)).trans E') hu⟩⟩
def jnP (K:W.Frag) (C:Addr) (p1:Pm α1) (p2:Pm α2) (p3:Pm α3) (p4:Pm α4) (c:Cd γ) (m:α1->α2->α3->α4->Option γ):Sp:=fun vs H Q _=>∃ (x1:α1) (x2:α2) (x3:α3) (x4:α4) (v1 v2 v3 v4:V) (F H1:Hp) (x dx:Addr) (r:γ),vs=[.ref x,v1,v2,v3,v4]/\H=upd (upd H1 dx (.own x)) x (.ins C dx [])/\H1 x=none/\H1 dx=none/\dx≠x/\Same F H1/\p1.rel K F H1 x1 v1/\p2.rel K F H1 x2 v2/\p3.rel K F H1 x3 v3/\p4.rel K F H1 x4 v4/\m x1 x2 x3 x4=some r/\∀ F' H',Ext F H1 F' H'->c.rep K F' r (.ref x)->Q .non H'
def UY {c:Cd γ}{p1:Pm α1}{p2:Pm α2}{p3:Pm α3}{p4:Pm α4}{m:α1->α2->α3->α4->Option γ}{t4:TE}{m4:Option α4}{mm_:Option γ} (h1:Ev K σ F H t1 p1.rs m1) (h2:Ev K σ F H t2 p2.rs m2) (h3:Ev K σ F H t3 p3.rs m3) (h4:Ev K σ F H t4 p4.rs m4) (e':mm_=(m1.bind fun x1=>m2.bind fun x2=>m3.bind fun x3=>m4.bind fun x4=>m x1 x2 x3 x4)):Ev K σ F H (jaH C (jnP K C p1 p2 p3 p4 c m) [] E0 (jJ t1 (jJ t2 (jJ t3 (jJ t4 xq))))) (rF c) mm_:=by
 subst e';intro F0 H0 E0' z e Q k;obtain⟨x1,e1,e⟩:=bind_some e;obtain⟨x2,e2,e⟩:=bind_some e;obtain⟨x3,e3,e⟩:=bind_some e;obtain⟨x4,e4,e⟩:=bind_some e;refine h1 F0 H0 (E0') x1 e1 _ fun v1 F1 H1 E1 r1=>?_;refine h2 F1 H1 ((E0').trans E1) x2 e2 _ fun v2 F2 H2 E2 r2=>?_;refine h3 F2 H2 (((E0').trans E1).trans E2) x3 e3 _ fun v3 F3 H3 E3 r3=>?_;refine h4 F3 H3 ((((E0').trans E1).trans E2).trans E3) x4 e4 _ fun v4 F4 H4 E4 r4=>?_;intro x dx n1 n2 n3;exact⟨x1,x2,x3,x4,v1,v2,v3,v4,F4,H4,x,dx,z,rfl,rfl,n1,n2,n3,E4.sub,p1.mono (E2.trans (E3.trans (E4))) r1,p2.mono (E3.trans (E4)) r2,p3.mono (E4) r3,r4,e,fun F' H' E' hu=>⟨rfl,k _ F' H' ((E1.trans (E2.trans (E3.trans (E4)))).trans E') hu⟩⟩
end
section
variable {F:Hp}{t:TE}{c:Cd α}{d:Cd β}{p:Pm α}{q:Pm β}{rs:Rs γ}{i:Int}
@[irreducible] def jmx (l:List Int) (k:Int):Option Int:=(l.findIdx? fun x=>decide (x=k)).map fun j=>((j:Nat):Int)
def jgr {l:List Int}{k:Int} (h:jmx l k=some z):∃ j:Nat,z=(j:Int)/\l[j]?=some k/\∀ i a,i<j->l[i]?=some a->a≠k:=by
 unfold jmx at h;cases e:l.findIdx? (fun x=>decide (x=k)) with
 | none=>rw[e] at h; cases h
 | some j=>
  rw[e] at h;cases h;obtain⟨hj,h1,h2⟩:=List.findIdx?_eq_some_iff_getElem.mp e;refine⟨j,rfl,?_,fun i a hi ha=>?_⟩
  ·rw[Xc hj];exact congrArg some (of_decide_eq_true h1)
  ·obtain⟨hi',rfl⟩:=List.getElem?_eq_some_iff.mp ha;have:=h2 i hi;simpa using this
def ja1 {r:δ} (hi:σ[k']?=some (some (.ref a))) (o:Own K He F H c l a) (he:Ev K σ F H te (pB c).rs m) (X:Ext Fe He F H) (hm:(m.bind fun y=>Yp l y).bind f=some r)
  (k:∀ l' F' H',f l'=some r->Chg a F H F' H'->Ext Fe He F' H'->Own K He F' H' c l' a->D.nx σ H'):WX (tBM K "list" jfN (JJ k') (jJ te xq)) D σ H:=by
 obtain⟨l',el,hm⟩:=bind_some hm;obtain⟨y,ey,el⟩:=bind_some el;unfold Yp at el;obtain⟨hl,rfl⟩:=jV el;obtain⟨xs,h1,h2⟩:=o.h;refine⟨_,hi,.inl ⟨rfl,_,SqL.of h1⟩,he F H (Ext.refl X.sub) y ey _ ?_⟩;rintro v F2 H2 E ⟨b,ys,rfl,g1,g2⟩;have o2:=o.mono E;have h3:Paired (c.rep K F2) l xs:=Paired.mapP h2 fun _ _=>c.mono E.f;refine⟨a,b,xs,ys,rfl,rfl,E.h _ _ h1,g1,by rw[Xx,<- h2.length,<- g2.length]; exact hl,?_⟩;obtain⟨X',o'⟩:=V6 (K:=K) (c:=c) (X.trans E) o.e o2.f (Paired.app h3 g2);exact k _ F2 _ hm (UW E) X' o'
@[irreducible] def jit (n:Int):Option (List Int):=if (-(2 ^ 62)<=n/\n<2 ^ 62)/\n<=16777216 then some (Vp 0 n) else none
def jgs {mm_:Option (List Int)}{m:Option Int} (h:Ev K σ F H t (rF cI) m) (e':mm_=(m.bind fun n=>jit n)) :
  Ev K σ F H (tCB (fun xs H Q=>∃ p lo hi,xs=[.ref p]/\H p=some (.rng lo hi)/\(-(2 ^ 62)<=lo/\lo<2 ^ 62/\-(2 ^ 62)<=hi/\hi<2 ^ 62)/\(hi-lo).toNat<=2 ^ 24/\∀ l,H l=none->Q (.ref l) (upd H l (.lst ((Yo lo hi).map V.int))))
   (jJ (fun σ H Q=>(jJ t xq) σ H fun vs H1=>∃ j:Int,vs=[.int j]/\∀ x,H1 x=none->Q (.ref x) (upd H1 x (.rng 0 j))) xq)) (rO cI) mm_:=by
 subst e';intro F1 H1 E z e Q k;obtain⟨n,en,e⟩:=bind_some e;unfold jit at e;obtain⟨⟨⟨h1,h2⟩,h3⟩,rfl⟩:=jV e;refine h F1 H1 E n en _ fun v F2 H2 E2 hv=>?_;have ev:v=.int n:=hv;subst ev;refine⟨n,rfl,fun x hx=>⟨x,0,n,rfl,j_,⟨by omega,by omega,h1,h2⟩,by omega,fun l hl=>?_⟩⟩;have E3:Ext F2 H2 F2 (upd H2 x (.rng 0 n)):=Ext.newO E2.sub hx;exact yO (c:=cI) E3.sub (GW (Vp 0 n)) (fun v F5 H5 E5 hr=>k v F5 H5 (E2.trans (E3.trans E5)) ((rO cI).back (E2.h.trans E3.h) hr)) l hl
end
end L3
variable {d:L3.Cd β}{c:L3.Cd α}{q:L3.Pm β}
namespace PySem
open Sem (wp)
def jgt:typeLookup (.type "list_reverseiterator") "__len__"=pure none:=by rw[typeLookup_type,builtinLookup_eq_fast]; kernel_rfl
def jiu:typeLookup (.type "list_reverseiterator") "__length_hint__"=pure (some (.builtin "list_reverseiterator.__length_hint__")):=by rw[typeLookup_type,builtinLookup_eq_fast]; kernel_rfl
section
variable {I:Addr}{wr:List Addr}{G:Array GenState->Array GenState->Prop}{P:Nat->Value->Prop}{St:Nat->Shared->Prop}
def jiv {R:Result->Shared->Prop} (W:WalksS prog w A.in1 I fp wr G n P St) (hT:∀ i s,St i s->s.TypeIs (.ref I) "list_reverseiterator") (S:Addr) (res:Value) (c₀:Nat) (hst:St 0 s) (hSf:S∉fp) (hI:I∈fp)
  (hS:s.heap.get? S=some { cls:=.type "list",data:=.seq #[] c₀ }) (hn:n<=sizeLine)
  (hR:∀ s' acc' c',Moved (S::wr) G s s'->s'.heap.get? S=some { cls:=.type "list",dict:=none,data:=.seq acc' c',slots:=#[] }->ItemsOf P acc' n->R (.ok (.ret res)) s') :
  wpAny (model prog w) A.in1 (Builtin.List.listExtendWith (.ref S) (.ref I) res)
   (fun fin s'=>match fin with | .done f=>R (.ok f) s' | .again c'=>c'.quiet=true/\codeAny (model prog w) A c' R s') (fun e s'=>R (.error e) s') s:=by
 have hSI:S≠I:=fun e=>hSf (e ▸ hI);have h1:Builtin.List.listSameRef (.ref S) (.ref I)=false:=by simp[Builtin.List.listSameRef,hSI]
 unfold Builtin.List.listExtendWith;refine wpAny_bind (wpAny_typeOf (hT 0 _ hst) ?_);rw[if_neg (by rw[h1]; decide)];refine wpAny_bind (W.self 0 _ _ _ hst ?_);refine wpAny_bind (wpAny_holding ?_);unfold Builtin.List.listLengthHint;refine wpAny_bind (wpAny_specialOf (hT 0 _ hst) jgt ?_);show wpAny _ A.in1 (specialOf (Value.ref I) (Str.ofString "__length_hint__") >>= _) _ _ _;refine wpAny_bind (wpAny_specialOf (hT 0 _ hst) jiu ?_);generalize hid:("list_reverseiterator.__length_hint__":String)=id0
 wp_delta
 rw[show splitId id0=some ("list_reverseiterator","__length_hint__") from by subst hid; decide +kernel];subst hid;refine wpAny_bind (wpAny_isInstance (b:=true) (hT 0 _ hst) (by rw[isSubtype_type]; kernel_rfl) ?_);refine wpAny_pure ?_;rw[if_neg (by decide)];exact wpAny_pure ⟨plainId_quiet F.plain_extend_loop _,codeAny_extend_loopS W hn _ hSf _ n 0 _ _ _ rfl (Nat.zero_le _) hst hS (ItemsOf.nil P) fun s' acc' c' hm hS' hacc=>hR s' acc' c' hm hS' hacc⟩
def jiw {R:Result->Shared->Prop} (W:WalksS prog w A.in1 I fp wr G n P St) (hT:∀ i s,St i s->s.TypeIs (.ref I) "list_reverseiterator") (S:Addr) (hst:St 0 s) (hSf:S∉fp) (hI:I∈fp)
  (hS:s.heap.get? S=some { cls:=.type "list",data:=.seq #[] }) (hn:n<=sizeLine)
  (hR:∀ s' acc' c',Moved (S::wr) G s s'->s'.heap.get? S=some { cls:=.type "list",dict:=none,data:=.seq acc' c',slots:=#[] }->ItemsOf P acc' n->R (.ok (.ret .none)) s') :
  wpAny (model prog w) A.in1 (Builtin.«list.__init__» ⟨[.ref S,.ref I],[]⟩)
   (fun fin s'=>match fin with | .done f=>R (.ok f) s' | .again c'=>c'.quiet=true/\codeAny (model prog w) A c' R s') (fun e s'=>R (.error e) s') s:=by
 show wpAny _ A.in1 (do let old <- Builtin.List.listItems (.ref S); Builtin.List.listUpdate (.ref S) (fun _=>#[]); letGo old.toList.reverse; Builtin.List.listExtendWith (.ref S) (.ref I) .none) _ _ s;refine wpAny_bind ?_;unfold Builtin.List.listItems;refine wpAny_bind (wpAny_seqItems hS rfl (wpAny_pure ?_));show wpAny _ A.in1 (updateSeq S (fun _=>#[]) >>= fun _=>letGo (#[]:Array Value).toList.reverse >>= fun _=>Builtin.List.listExtendWith (.ref S) (.ref I) .none) _ _ s;refine wpAny_bind (wpAny_updateSeq hS rfl ?_);have hS₂:=Heap.get?_update_self (Obj.mapSeq (fun _=>(#[]:Array Value))) hS rfl;have oth:∀ b o,b≠S->s.heap.get? b=some o->(s.heap.update S (Obj.mapSeq (fun _=>(#[]:Array Value)))).get? b=some o:=
  fun b o hb e=>(Heap.get?_update_other _ _ (Ne.symm hb)).trans e
 refine wpAny_bind (wpAny_letGo ?_);refine jiv W hT S .none _ (W.frame 0 s _ s.toks hst (Nat.le_refl _) fun b hb o e=>oth b o (fun h=>hSf (h ▸ hb)) e) hSf hI hS₂ hn fun s' acc' c' hm hS' hacc=>?_;exact hR s' acc' c' (Moved.trans W.gtrans ((Moved.refl W.grefl).then_heap (Nat.le_refl _) fun b o hb e=>oth b o (fun h=>hb (h ▸ List.mem_cons_self)) e) hm) hS' hacc
end
section
def UZ {I l:Addr} (hh:A.handled=none) (hne:l≠I) (hit:s.heap.IsRevIter I l ((items.size:Int)-1)) (hl:s.heap.IsList l items) (hn:items.size<=sizeLine)
  (hQ:∀ h' tk acc' c',(∀ b o,b≠I->s.heap.get? b=some o->h'.get? b=some o) ->
   h'.get? s.heap.objs.size=some { cls:=.type "list",dict:=none,data:=.seq acc' c',slots:=#[] }->ItemsOf (fun i v=>items[items.size-1-i]?=some v) acc' items.size->Q (.ref s.heap.objs.size) { s with heap:=h',toks:=tk }) :
  wpAny (model prog w) A (call (.type "list") [.ref I]) Q E s:=by
 have W:=(Walks.listRev (prog:=prog) (w:=w) (A:=A.in1.in1) hh I l hne items).toS;have lt1:I<s.heap.objs.size:=let ⟨o,ho,_⟩:=hit; Heap.lt_size ho;have lt2:l<s.heap.objs.size:=let ⟨o,ho,_⟩:=hl; Heap.lt_size ho;have hSf:s.heap.objs.size∉[I,l]:=fun hm=>by
  rcases List.mem_cons.mp hm with e | hm
  ·rw[<- e] at lt1; exact Nat.lt_irrefl _ lt1
  ·rw[<- List.mem_singleton.mp hm] at lt2; exact Nat.lt_irrefl _ lt2
 refine callType_codes (Q₁:=fun obj s₁=>obj=.ref s.heap.objs.size/\s₁={ s with heap:=s.heap.push { cls:=.type "list",data:=.seq #[] } }) F.called_list (F.typeCall_list_1 _) F.entry_list_init
  (code_list_new _ ⟨rfl,rfl⟩) fun obj s₁ h₁=>?_
 obtain⟨rfl,rfl⟩:=h₁;have hS:(s.heap.push { cls:=.type "list",data:=.seq #[] }).get? s.heap.objs.size=some { cls:=.type "list",data:=.seq #[] }:=Heap.get?_push_size _ rfl;have e0:((items.size:Int)-1)=(items.size:Int)-1-((0:Nat):Int):=by omega
 refine⟨⟨_,hS,rfl⟩,F.args_list_init_2 _ _,jiw W (fun i s st=>st.2.1.typeIs) _ ⟨Nat.zero_le _,(e0 ▸ hit).at fun o e=>Heap.get?_push_of_some _ e,hl.at fun o e=>Heap.get?_push_of_some _ e⟩ hSf List.mem_cons_self hS hn fun s' acc' c' hm hS' hacc=>⟨rfl,?_⟩⟩;rw[Moved.eq_with hm];refine hQ s'.heap s'.toks acc' c' (fun b o hb e=>hm.heap b o (fun hmem=>?_) (Heap.get?_push_of_some _ e)) hS' hacc;rcases List.mem_cons.mp hmem with e' | hmem
 ·rw[e'] at e; exact Nat.lt_irrefl _ (Heap.lt_size e)
 ·exact hb (List.mem_singleton.mp hmem)
end
end PySem
namespace L2
open PySem PySem.Spec PyProof.Rows
section
def jeN {a:Expr}{p pos2:Pos} (hc:X.calm=true) (hg:Gl X "list") (hm:X.mg "list"=none) (hg2:Gl X "reversed") (hm2:X.mg "reversed"=none) (ha:PE X a te)
  (hs:starEach [Expr.Call (.Name "reversed" p2) [a] [] pos2] X.env=[(false,eval (Expr.Call (.Name "reversed" p2) [a] [] pos2) X.env)]:=by rfl) (hs2:starEach [a] X.env=[(false,eval a X.env)]:=by rfl) :
  PE X (.Call (.Name "list" p) [.Call (.Name "reversed" p2) [a] [] pos2] [] pos) (fun σ H Q=>te σ H fun v H1=>∃ q xs,v=.ref q/\SqL X.K H1 q xs/\∀ l,H1 l=none->Q (.ref l) (upd H1 l (.lst xs.reverse))):=by
 intro pins s σ H Q I h;refine Call_ (JM I hg hm boot_list (XA ?_ hs rfl));rw[hs];show wpAny _ _ (spliced ((false,eval (Expr.Call (.Name "reversed" p2) [a] [] pos2) X.env)::[])) _ _ s;refine Calls.spliced_cons (Call_ (JM I hg2 hm2 boot_reversed (XA ?_ hs2 rfl)));rw[hs2];show wpAny _ _ (spliced ((false,eval a X.env)::[])) _ _ s;refine Calls.spliced_cons (thn (ha pins s σ H _ I h) fun u s1 ⟨v,H1,I1,r1,q1⟩=>Calls.spliced_nil ?_);obtain⟨q,xs,rfl,hq,k⟩:=q1;cases r1;obtain⟨its,rv,pl,hz⟩:=I1.list hq;have hlen:=rv.length;refine call_reversed_list pl.isList (Calls.spliced_nil ?_);have hne:q≠s1.heap.objs.size:=fun e=>by
  obtain⟨o,ho,_⟩:=pl.isList;rw[e] at ho;exact XU _ (Xl ho)
 refine UZ (items:=its.toArray) (I1.ok.hd hc) hne ⟨_,Xi _ rfl,rfl,rfl⟩ (pl.isList.at fun o e=>Xd _ e) (by simp only[Xg] <;> omega) fun h' tk acc' c' kp e hacc=>?_;have hS:(s1.heap.push (revObj q (((its.toArray.size:Nat):Int)-1))).objs.size=s1.heap.objs.size+1:=by simp[Heap.push]
 refine⟨.ref _,_,I1.laid (o:=.lst xs.reverse) (t':=tk) (fun b o eb=>kp b o (fun z=>?_) (Xd _ eb)) (by rw[hS]; omega) ⟨by rw[List.length_reverse]; exact hz,acc'.toList,c',?_,by simpa using e⟩,rfl,k _ (I1.hok.fresh (by rw[hS]; omega))⟩
 ·rw[z] at eb; exact XU _ (Xl eb)
 ·refine VR (by have h0:acc'.size=its.toArray.size:=hacc.1; rw[Xg] at h0; rw[List.length_reverse,Xt,h0]; exact hlen) fun i x v hx hv=>?_;have h1:=hacc.2 i v (by simpa using hv);have hi:i<xs.length:=by
   have:=(List.getElem?_eq_some_iff.mp hx).1;simpa using this
  rw[List.getElem?_reverse hi] at hx;have h2:its[its.length-1-i]?=some v:=by simpa using h1
  rw[<- hlen] at h2;obtain⟨u,e1,e2⟩:=rv.get hx;rw[h2] at e1;cases e1;exact e2
end
end L2
namespace L3
open PySem PySem.Spec L2
section
variable {F:Hp}{t:TE}{p:Pm α}{rs:Rs γ}{i:Int}
def Yt:∀ {l:List α}{xs:List β},Paired R l xs->Paired R l.reverse xs.reverse
 | _,_,.nil=>.nil
 | a::l,x::xs,.cons r s=>by
  rw[List.reverse_cons,List.reverse_cons];exact Paired.app (Yt s) (.cons r .nil)
def jgu (h:Ev K σ F H t (pR c).rs m) (e':mm_=(m.bind fun l=>some l.reverse)) :
  Ev K σ F H (fun σ H Q=>t σ H fun v H1=>∃ q xs,v=.ref q/\SqL K H1 q xs/\∀ l,H1 l=none->Q (.ref l) (upd H1 l (.lst xs.reverse))) (rO c) mm_:=by
 subst e';intro F1 H1 E z e Q k;obtain⟨l,el,e⟩:=bind_some e;cases e;refine h F1 H1 E l el _ fun v F2 H2 E2 hv=>?_;obtain⟨a,xs,rfl,h1,h2⟩:=hv;exact⟨a,xs,rfl,h1,fun l hl=>yO (c:=c) E2.sub (Yt h2) (fun v F5 H5 E5 hr=>k v F5 H5 (E2.trans E5) ((rO c).back E2.h hr)) l hl⟩
def jcm (h:Ev K σ F H t (pR c).rs (some l)) (e':mm_=some l.reverse) :
  Ev K σ F H (fun σ H Q=>t σ H fun v H1=>∃ q xs,v=.ref q/\SqL K H1 q xs/\∀ l,H1 l=none->Q (.ref l) (upd H1 l (.lst xs.reverse))) (rO c) mm_:=jgu h e'
end
section
variable {F:Hp}{t:TE}{p:Pm α}{rs:Rs γ}{i:Int}
def whM (c:β->Option Bool) (f:β->Option β):Nat->β->Option β
 | 0,_=>none
 | n+1,b=>(c b).bind fun t=>bif t then (f b).bind fun b'=>whM c f n b' else some b
@[irreducible] def pWh (c:β->Option Bool) (f:β->Option β) (b:β):Option β:=whM c f 100000 b
def jix {tc:TT}{tb:TS}{r:δ} (X:Ext Fe He F H) (hm:(pWh cM fM b0).bind kk=some r) (I:Hp->β->St->Hp->Hp->Prop)
  (h0:I F b0 σ F H) (hG:∀ F1 b σ F H,I F1 b σ F H->Ext Fe He F H/\Same F1 F)
  (hc:∀ b σ' F' H',I F b σ' F' H'->Et K σ' F' H' tc (cM b))
  (hb:∀ b b' σ' F' H' F2 H2,I F b σ' F' H'->Ext F' H' F2 H2->fM b=some b'->tb { D with nx:=fun σ H=>∃ F3,I F b' σ F3 H,ct:=fun σ H=>∃ F3,I F b' σ F3 H,bk:=D.nx } σ' H2)
  (hd:∀ b σ' F' H' F2 H2,I F b σ' F' H'->Ext F' H' F2 H2->kk b=some r->D.nx σ' H2):jfu tc tb D σ H:=by
 obtain⟨b1,hb1,hk⟩:=bind_some hm;unfold pWh at hb1;refine⟨fun m σ H=>∃ b F',whM cM fM m b=some b1/\I F b σ F' H,⟨_,b0,F,hb1,h0⟩,?_⟩;rintro m σ' H' ⟨b,F',hrun,hI⟩;cases m with
 | zero=>cases hrun
 | succ k=>
  obtain⟨t,et,hrun⟩:=bind_some hrun;have g:=hG F b σ' F' H' hI;refine hc b σ' F' H' hI F' H' (Ext.refl g.1.sub) t et _ fun F2 H2 E=>?_;cases t with
  | true=>
   obtain⟨b',eb,hrun⟩:=bind_some hrun;rw[if_pos rfl];exact⟨fun σ H=>∃ F3,I F b' σ F3 H,fun σ'' H'' ⟨F3,h3⟩=>⟨k,Nat.lt_succ_self _,b',F3,hrun,h3⟩,hb b b' σ' F' H' F2 H2 hI E eb⟩
  | false=>
   have e:b=b1:=Option.some.inj hrun;subst e;rw[if_neg (by decide)];exact hd b σ' F' H' F2 H2 hI E hk
def Q3 {tc:TT}{tb:TS}{r:δ} (X:Ext Fe He F H) (hm:(pWh cM fM b0).bind kk=some r) (I:Hp->β->St->Hp->Hp->Prop)
  (h0:I F b0 σ F H) (hG:∀ F1 b σ F H,I F1 b σ F H->Ext Fe He F H/\Same F1 F)
  (hc:∀ b σ' F' H',I F b σ' F' H'->Et K σ' F' H' tc (cM b))
  (hb:∀ b b' σ' F' H' F2 H2,I F b σ' F' H'->Ext F' H' F2 H2->fM b=some b'->tb { D with nx:=fun σ H=>∃ F3,I F b' σ F3 H,ct:=fun σ H=>∃ F3,I F b' σ F3 H,bk:=u' D } σ' H2)
  (hd:∀ b σ' F' H' F2 H2,I F b σ' F' H'->Ext F' H' F2 H2->kk b=some r->u' D σ' H2):Ul (jfu tc tb) u' D σ H:=
 jix (D:={ D with nx:=u' D }) X hm I h0 hG hc hb hd
end
end L3
namespace L2
open PySem PySem.Spec PyProof.Rows
section
def srt (l:List Int):List Int:=l.mergeSort fun a b=>decide (a<=b)
def jdS (l:List Int):(srt l).Perm l:=List.mergeSort_perm l _
def jmy (l:List Int):(srt l).Pairwise (·<=·):=by
 have:=List.pairwise_mergeSort (le:=fun a b:Int=>decide (a<=b)) (fun a b c h1 h2=>by simp at *; omega) (fun a b=>by simp; omega) l;exact this.imp fun h=>by simpa using h
def jjI {l m:List Int} (h:m.Perm l) (hs:m.Pairwise (·<=·)):m=srt l:=
 List.Perm.eq_of_pairwise (le:=(·<=·)) (fun a b _ _ h1 h2=>Int.le_antisymm h1 h2) hs (jmy l) (h.trans (jdS l).symm)
def Vr:∀ {us:List Value}{ns:List Int},IntsAre us ns->Vals (ns.map V.int) us
 | _,_,.nil=>.nil
 | _,_,.cons n t h=>.cons ⟨t,rfl⟩ (Vr h)
end
end L2
namespace L3
open PySem PySem.Spec L2
section
variable {F:Hp}{t:TE}{p:Pm α}{rs:Rs γ}{i:Int}
@[irreducible] def jmz (l:List Int):Option (List Int):=if l.length<64 then some (srt l) else none
def paired_ints {F:Hp}:∀ {l:List Int}{xs:List V},Paired (cI.rep K F) l xs->xs=l.map V.int
 | _,_,.nil=>rfl
 | a::l,x::xs,.cons r s=>by
  have e:x=.int a:=r;rw[e,paired_ints s,Xp]
end
end L3
namespace L2
open PySem PySem.Spec PyProof.Rows
section
def dd (l:List Int):List Int:=l.foldl step_dedup []
end
section
def ja2 {l:Addr}{Q:List Value->Shared->Prop} (ho:s.heap.get? l=some o) (hc:o.cls=.type "tuple") (hd:o.data=.seq vs.toArray n)
  (h:Q vs { s with heap:=(s.heap.push (seqObj "list" #[] 0)).update s.heap.objs.size (Obj.mapSeq (·++vs.toArray)) }) (hsz:vs.length<=sizeLine) :
  wpAny (model prog w) A (collect (.ref l)) Q E s:=by
 unfold collect;refine Xa (wpAny_runValue (codeAny_builtin entry_proto_collect' ?_));show wpAny _ _ (do again (.builtin "list.__iadd__" ⟨[<- newList [],.ref l],[]⟩)) _ _ s;refine Xa (wpAny_newList (Xb ⟨Code.quiet_builtin _ (by decide +kernel),codeAny_builtin entry_list_iadd' ?_⟩));show wpAny _ _ (Builtin.List.listExtendWith (.ref s.heap.objs.size) (.ref l) (.ref s.heap.objs.size)) _ _ { s with heap:=s.heap.push (seqObj "list" #[] 0) }
 unfold Builtin.List.listExtendWith;have ho':(s.heap.push (seqObj "list" #[] 0)).get? l=some o:=Xd _ ho;refine Xa (wpAny_typeOf (T:="tuple") ⟨o,ho',hc⟩ ?_);have ht:(Value.type "tuple"==Value.type "tuple")=true:=by rfl
 rw[if_pos (by rw[ht]; simp)];refine Xa (listItems_at ho' hd ?_);refine Xa (listItems_at (xs:=#[]) (n:=0) (Xi _ rfl) rfl ?_);rw[if_neg (by simp)];refine Xa (listUpdate_at (xs:=#[]) (n:=0) (Xi _ rfl) rfl ?_ (wa _) (by show (#[]++vs.toArray).size<=sizeLine+1; simp only[Array.size_append,Xg,List.length_nil]; omega));refine Xb ?_;show wpAny (model prog w) A (load s.heap.objs.size >>= _) Q E _;refine Xa (wpAny_load (get?_update_seq (Xi _ rfl) _) ?_);show wpAny _ _ (pure ((#[]:Array Value)++vs.toArray).toList) Q E _;rw[show ((#[]:Array Value)++vs.toArray).toList=vs by simp];exact Xb h
def jcn {l:Addr} (ho:s.heap.get? l=some o) (hc:o.cls=.type "tuple") (hd:o.data=.seq vs.toArray n) (hI:IntsAre vs ns) (h64:vs.length<64)
  (h:∀ (out:Array Value) (ns':List Int),IntsAre out.toList ns'->ns'.Perm ns->ns'.Pairwise (·<=·)->Q (.ref (s.heap.objs.size+1)) { s with heap:=sortedAll s.heap vs out }) :
  wpAny (model prog w) A (call (.builtin "sorted") [.ref l]) Q E s:=by
 refine Calls.call_function_entry kind_sorted plain_sorted entry_sorted (args_sorted1 _) ?_;unfold Builtin.«sorted»;refine Xa (m:=checkCount "sorted" 1 1 _) (Xb ?_);refine Xa (ja2 ho hc hd ?_ (by rw[Xx]; omega));refine Xa (wpAny_newList ?_);have sz:((s.heap.push (seqObj "list" #[] 0)).update s.heap.objs.size (Obj.mapSeq (·++vs.toArray))).objs.size=s.heap.objs.size+1:=by
  rw[Heap.size_update,size_push']
 have hL:(((s.heap.push (seqObj "list" #[] 0)).update s.heap.objs.size (Obj.mapSeq (·++vs.toArray))).push (seqObj "list" vs.toArray 0)).get? (s.heap.objs.size+1)=some (seqObj "list" vs.toArray 0):=by
  rw[<- sz]; exact Xi _ rfl
 show wpAny _ _ _ _ _ { s with heap:=((s.heap.push (seqObj "list" #[] 0)).update s.heap.objs.size (Obj.mapSeq (·++vs.toArray))).push (seqObj "list" vs.toArray 0) }
 rw[sz];refine Xa (X8 (XH slot_list_sort ⟨_,hL,rfl⟩ entry_list_sort (list_sort_tree hL hI h64 fun out ns' a1 a2 a3=>⟨_,rfl,?_⟩) (args_list_sort _)));exact Xb ⟨_,rfl,h out ns' a1 a2 a3⟩
end
section
def ja3:GS X (.builtin "sorted") (fun xs H Q=>∃ p ns,xs=[.ref p]/\SqT X.K H p (ns.map V.int)/\ns.length<64/\∀ l,H l=none->Q (.ref l) (upd H l (.lst ((srt ns).map V.int)))):=by
 intro pins s σ H xs us Q I r h;obtain⟨p,ns,rfl,hq,hn,q⟩:=h;obtain⟨u,rfl,rx⟩:=US r;cases rx;obtain⟨its,rv,pl,hz⟩:=I.tuple hq;have hlen:=rv.length;rw[Xj] at hlen;obtain⟨o,ho,hc,n,hd⟩:=pl;refine jcn ho hc hd (Qt rv) (by omega) fun out ns' a1 a2 a3=>?_;obtain⟨e,he⟩:=sortedAll_at s.heap its out;have e':=jjI a2 a3;subst e';refine⟨.ref _,_,I.laid (o:=.lst ((srt ns).map V.int)) (t':=s.toks) (fun b o eb=>sortedAll_old eb) (Nat.le_succ _) ⟨?_,out.toList,e,Vr a1,by simpa using he⟩,rfl,q _ (I.hok.fresh (Nat.le_succ _))⟩;rw[Xj,(jdS ns).length_eq];rw[Xj] at hz;exact hz
end
end L2
namespace L3
open PySem PySem.Spec L2
section
variable {F:Hp}{t:TE}{p:Pm α}{rs:Rs γ}{i:Int}
def jgv:Op1 K (fun x H Q=>∃ p ns,[x]=[V.ref p]/\SqT K H p (ns.map V.int)/\ns.length<64/\∀ l,H l=none->Q (.ref l) (upd H l (.lst ((srt ns).map V.int)))) (pF (cT cI)) (rO cI) (fun l=>jmz l):=by
 intro F H l x s hx z hz Q k;obtain⟨p,xs,rfl,h1,h2⟩:=hx;unfold jmz at hz;obtain⟨hn,rfl⟩:=jV hz;rw[paired_ints h2] at h1;exact⟨p,l,rfl,SqT.of (s _ _ h1),hn,fun a ha=>yO s (GW (srt l)) k a ha⟩
@[irreducible] def jlM (i:Int):Int:=if i<0 then -i else i
def jmA:Op1 K (fun x H Q=>∃ i,[x]=[V.int i]/\Q (.int (if i<0 then -i else i)) H) (pF cI) (rF cI) (fun i=>some (jlM i)):=by
 intro F H a x s hx z hz Q k;cases hx; cases hz;refine⟨a,rfl,?_⟩;have:=k _ F H (Ext.refl s) (show (cI.rep K F (jlM a) (.int (jlM a))) from rfl);unfold jlM at this;exact this
end
end L3
namespace HT
open PySem PyProof.Rows
section
def cat_tup0 {t b:Addr}{ws:List Value} (ht:IsTup s.heap t vs.toArray) (hb:IsTup s.heap b ws.toArray) (hv:vs=[]) (h:Q (.ref b) s) :
  wpAny (model prog w) A (binaryOp .Add (.ref t) (.ref b)) Q E s:=by
 obtain⟨⟨cls,dd,data,sl⟩,ho,hc,n,hd⟩:=id ht;obtain⟨⟨cls2,dd2,data2,sl2⟩,ho2,hc2,n2,hd2⟩:=id hb;simp only at hc hd hc2 hd2;subst hc hd hc2 hd2;exact concat_meets ⟨_,ho,rfl⟩ ⟨_,ho2,rfl⟩ noFill_tuple_add seq_tuple_add PySem.F.slot_tuple_add PySem.F.entry_tuple_add (PySem.F.args_tuple_add_2 _ _)
  (tuple_addW0 t b vs.toArray ws.toArray n n2 dd dd2 sl sl2 (by simp[hv])) ⟨ho,ho2,h⟩
def getItem_tuple_whole {t:Addr} (ht:IsTup s.heap t items) (hs:s.heap.IsSliceOf sl vl vu .none) (pl:IsPart vl lo) (pu:IsPart vu hi)
  (hw:sIx items.size 0 lo=0/\sIx items.size items.size hi=items.size) (h:Q (.ref t) s):wpAny (model prog w) A (getItem (.ref t) (.ref sl)) Q E s:=by
 obtain⟨os,hos,hcs,hds⟩:=id hs;have hTs:s.TypeIs (.ref sl) "slice":=⟨os,hos,hcs⟩;unfold getItem
 try with_reducible refine wpAny_holding ?_
 first | refine wpAny_bind (wpAny_pure ?_) | skip
 refine wpAny_bind (wpAny_sequenceKey ht.typeIs (by decide) ?_);refine wpAny_bind (wpAny_callSpecial?_slot (name:=Str.ofString "__getitem__") ht.typeIs PyProof.Rows.slot_tuple_getitem
  (wpAny_call_entry PyProof.Rows.slot_tuple_getitem ht.typeIs entry_tuple_getitem ?_ (args_tuple_getitem _ _)))
 show wpAny _ _ (Builtin.Tuple.tupleItemsOf (.ref t) >>= _) _ _ s;refine wpAny_bind (tupleItemsOf_ ht ?_);refine wpAny_bind (wpAny_typeOf hTs ?_);rw[if_pos (by decide)];refine wpAny_bind (JE hs pl pu ?_);have hyes:(((sIx items.size 0 lo:Nat):Int)==0&&(1:Int)==1&&(sIx items.size items.size hi-sIx items.size 0 lo)==items.size)=true:=by
  rw[hw.1,hw.2,Nat.sub_zero];simp
 show wpAny _ _ (if (((sIx items.size 0 lo:Nat):Int)==0&&(1:Int)==1&&(sIx items.size items.size hi-sIx items.size 0 lo)==items.size)=true then _ else _) _ _ s;rw[if_pos hyes];refine wpAny_bind ?_;unfold Builtin.Tuple.tupleIsExact;refine wpAny_bind (wpAny_typeOf ht.typeIs (wpAny_pure ?_));rw[if_pos (by decide)];exact wpAny_bind (wpAny_rule (wpAny_pure ⟨_,rfl,wpAny_pure h⟩))
end
end HT
namespace L2
open PySem PySem.Spec PyProof.Rows
section
def jjJ (K:W.Frag):R2:=fun x y H Q=>∃ a b xs ys,x=.ref a/\y=.ref b/\SqT K H a xs/\SqT K H b ys/\xs.length+ys.length<=sizeLine /\
 (xs=[]->Q (.ref b) H)/\(ys=[]->Q (.ref a) H)/\∀ p,H p=none->Q (.ref p) (upd H p (.tup (xs++ys)))
def jdT:OpR X (binaryOp .Add) (jjJ X.K):=by
 intro pins s σ H x y v u Q I rx ry h;obtain⟨a,b,xs,ys,rfl,rfl,ha,hb,hz,q0,q1,q2⟩:=h;by_cases hx:xs=[]
 ·cases rx;cases ry;obtain⟨its,r1,p1,_⟩:=I.tuple ha;obtain⟨its2,r2,p2,_⟩:=I.tuple hb;exact HT.cat_tup0 p1 p2 (r1.nil_iff.mpr hx) ⟨.ref b,H,I,rfl,q0 hx⟩
 ·exact jkl pins s σ H (.ref a) (.ref b) v u Q I rx ry ⟨a,b,xs,ys,rfl,rfl,ha,hb,hx,hz,q1,fun _=>q2⟩
def jkM (K:W.Frag):V->Option Int->Option Int->Hp->VK->Prop:=fun x lo hi H Q=>∃ a xs,x=.ref a/\SqT K H a xs /\
 ((HT.sIx xs.length 0 lo=0/\HT.sIx xs.length xs.length hi=xs.length)->Q (.ref a) H)/\∀ p,H p=none->Q (.ref p) (upd H p (.tup (jh1 xs lo hi)))
def Zc:SlR X (jkM X.K):=by
 intro pins s σ H x v vl vu lo hi sl Q I rx hs pl pu h;obtain⟨a,xs,rfl,hx,q0,q⟩:=h;by_cases hw:HT.sIx xs.length 0 lo=0/\HT.sIx xs.length xs.length hi=xs.length
 ·cases rx;obtain⟨its,r,ht,hz⟩:=I.tuple hx;have hlen:its.toArray.size=xs.length:=by rw[Xg]; exact r.length.symm
  refine⟨"tuple",_,PyProof.Rows.slot_tuple_getitem.lookup,ht.typeIs,?_⟩;exact HT.getItem_tuple_whole ht hs pl pu (by rw[hlen]; exact hw) ⟨.ref a,H,I,rfl,q0 hw⟩
 ·exact jl9 pins s σ H (.ref a) v vl vu lo hi sl Q I rx hs pl pu ⟨a,xs,rfl,hx,hw,q⟩
end
end L2
namespace L3
open PySem PySem.Spec L2
section
variable {F:Hp}{t:TE}{p:Pm α}{rs:Rs γ}{i:Int}
def jjK:Op2 K (jjJ K) (pF (cT c)) (pF (cT c)) (rF (cT c)) Yp:=by
 intro F H l m x y s hx hy z hz Q k;obtain⟨a,xs,rfl,h1,h2⟩:=hx;obtain⟨b,ys,rfl,h3,h4⟩:=hy;unfold Yp at hz;obtain⟨hc,rfl⟩:=jV hz;rw[h2.length,h4.length] at hc;refine⟨a,b,xs,ys,rfl,rfl,SqT.of (s _ _ h1),SqT.of (s _ _ h3),by rw[Xx]; exact hc,fun e=>?_,fun e=>?_,fun p hp=>jb7 s (Paired.app h2 h4) k p hp⟩
 ·have el:l=[]:=List.length_eq_zero_iff.mp (by rw[h2.length,e]; rfl);subst el;exact k _ F H (Ext.refl s) ⟨b,ys,rfl,h3,h4⟩
 ·have el:m=[]:=List.length_eq_zero_iff.mp (by rw[h4.length,e]; rfl);subst el;rw[List.append_nil] at k;exact k _ F H (Ext.refl s) ⟨a,xs,rfl,h1,h2⟩
def jgw (h:HT.sIx l.length 0 lo=0/\HT.sIx l.length l.length hi=l.length):cut l lo hi=l:=by
 unfold cut;rw[h.1,h.2,List.drop_zero,Nat.sub_zero,List.take_length]
def jiy {ml:Option (Option Int)} (h:Ev K σ F H t (pF (cT c)).rs m) (hl:Eo K σ F H tl ml) (hh:Eo K σ F H th mh)
  (e':mm_=(m.bind fun l=>ml.bind fun i=>mh.bind fun j=>some (cut l i j))):Ev K σ F H (tSl (jkM K) t tl th) (rF (cT c)) mm_:=by
 subst e';intro F1 H1 E z hz Q k;obtain⟨l,el,hz⟩:=bind_some hz;obtain⟨i,ei,hz⟩:=bind_some hz;obtain⟨j,ej,hz⟩:=bind_some hz;cases hz;refine h F1 H1 E l el _ ?_;intro v F2 H2 E2 hv;refine hl F2 H2 (E.trans E2) i ei _ fun F3 H3 E3=>hh F3 H3 ((E.trans E2).trans E3) j ej _ fun F4 H4 E4=>?_;obtain⟨a,xs,rfl,h1,h2⟩:=(pF (cT c)).mono (E3.trans E4) hv;refine⟨a,xs,rfl,SqT.of (E4.sub _ _ h1),fun hw=>?_,fun p hp=>?_⟩
 ·rw[<- h2.length] at hw;rw[jgw hw] at k;exact k _ F4 H4 (E2.trans (E3.trans E4)) ⟨a,xs,rfl,h1,h2⟩
 ·exact jb7 (c:=c) E4.sub (Paired.cutP i j h2) (fun v F5 H5 E5 hr=>k v F5 H5 (E2.trans (E3.trans (E4.trans E5))) ((rF (cT c)).back (E2.h.trans (E3.h.trans E4.h)) hr)) p hp
def Qy {x y:Option Int} (h:Ev K σ F H t (pF (cT c)).rs (some l)) (hl:Eo K σ F H tl (some x)) (hh:Eo K σ F H th (some y)) (e':mm_=(some (cut l x y))) :
  Ev K σ F H (tSl (jkM K) t tl th) (rF (cT c)) mm_:=jiy h hl hh e'
end
end L3
namespace L2
open PySem PySem.Spec PyProof.Rows
section
def jgx {t:Addr}{k:Int}{tk:Tok}{j:Nat} 
  (ho:s.heap.get? t=some o) (hc:o.cls=.type "tuple") (hd:o.data=.seq its.toArray n) (hI:IntsAre its ns) (hj:ns[j]?=some k) (hb:∀ i a,i<j->ns[i]?=some a->a≠k)
  (q:Q (.int j s.toks) { s with toks:=s.toks+1 }):wpAny (model prog w) A (call (.builtin "tuple.index") [.ref t,.int k tk]) Q E s:=by
 refine XH PySem.F.slot_tuple_index ⟨o,ho,hc⟩ PySem.F.entry_tuple_index ?_ (PySem.F.args_tuple_index_2 _ _);show wpAny _ _ (Builtin.Tuple.tupleItemsOf (.ref t) >>= _) _ _ s;have ht:IsTup s.heap t its.toArray:=⟨o,ho,hc,n,hd⟩;refine Xa (tupleItemsOf_ ht ?_);refine Xa (Xb ?_);refine Xa (Xb ?_);dsimp only;rw[Std.Legacy.Range.forIn_eq_forIn_range'];have hlen:=IntsAre.length hI;obtain⟨hjl,ejk⟩:=List.getElem?_eq_some_iff.mp hj;refine Xa (wpAny_forIn_list _ (fun rest b s'=>b=(none,())/\s'=s/\∃ i,i<=j/\rest=List.range' i (its.length-i)) _ ?turn ?fin _ _ ?h)
 case turn=>
  rintro x rest b s' ⟨rfl,rfl,i,hi,e⟩;obtain⟨m,em⟩:∃ m,its.length-i=m+1:=⟨its.length-i-1,by omega⟩;rw[em,List.range'_succ] at e;injection e with e1 e2
  subst e1; subst e2;have hx:x<its.length:=by omega
  have ei:its.toArray[x]?=some its[x]:=by rw[List.getElem?_toArray]; exact Xc hx
  obtain⟨tx,ex⟩:=IntsAre.int_at hI x its[x] (Xc hx);have hxn:x<ns.length:=by omega
  have ex2:ns.getD x 0=ns[x]:=by simp[List.getD,hxn]
  rw[ei];dsimp only;rw[ex,ex2];refine Xa ((intKind prog w).eqBool (a:=ns[x]) (b:=k) (intKind_is _ _ _ _) (intKind_is _ _ _ _) ?_);by_cases hxj:x=j
  ·subst hxj;rw[if_pos (by simp[ejk])];unfold retInt;refine Xa (Xa (wpAny_mkInt (Xb (Xb ?_))));exact Xb ⟨_,rfl,q⟩
  ·have hne:ns[x]≠k:=hb x ns[x] (by omega) (Xc hxn);rw[if_neg (by simp[hne])];refine Xb ⟨rfl,rfl,x+1,by omega,?_⟩;congr 1;omega
 case fin=>
  rintro b s' ⟨rfl,rfl,i,hi,e⟩;have:=congrArg List.length e;rw[List.length_range'] at this;simp at this;omega
 case h=>
  refine⟨rfl,rfl,0,wa _,?_⟩;simp[Std.Legacy.Range.size]
end
section
def jmB (H:Hp) (x:V):Prop:=∃ p xs,x=.ref p/\Rd H p (.tup xs)
def jiz {x:V}{v:Value} (I:Inv X pins σ H s) (r:RelV x v) (ty:jmB H x) :
  s.TypeIs v "tuple"/\∀ a,v=.ref a->∃ ob,s.heap.get? a=some ob/\ob.dict=none:=by
 obtain⟨p,xs,rfl,h⟩:=ty;cases r;obtain⟨_,its,_,o,e,c,_⟩:=h.ok I.hok;exact⟨⟨o,e,c.1⟩,fun a z=>by cases z; exact ⟨o,e,c.2⟩⟩
def tBT (r:V->List V->Hp->VK->Prop) (to:TE) (t:TA):TE:=fun σ H Q=>to σ H fun x H1=>jmB H1 x/\t σ H1 fun xs H2=>r x xs H2 Q
variable {o:Expr}{to:TE}{t:TA}{id:String}{r:V->List V->Hp->VK->Prop}
def jnQ (slot:Slot "tuple" name id) (hty:typeOf (.builtin id)=pure (.type "method_descriptor")) (hm:MtR X id r) (ho:PE X o to) (ha:PA X (e::es) t)
  (hbase:attributeBase o name X.env (eval o X.env)=eval o X.env:=by rfl)
  (hfew:((backTo cpos (starEach (e::es) X.env)).all (fun x=>!x.1)&&(backToKw cpos (keywordEach [] X.env)).all (fun x=>x.1.isSome)
  &&decide ((e::es).length+([]:List Keyword).length+(if ([]:List Keyword).isEmpty then 0 else 1)<30))=true:=by rfl)
  (hline:(apos.endLine==cpos.line)=true:=by rfl) (hs:starEach (e::es) X.env=(false,eval e X.env)::starEach es X.env:=by rfl) (hplain:(backTo cpos (starEach es X.env)).any (·.1)=false:=by rfl) :
  PE X (.Call (.Attribute o name apos) (e::es) [] cpos) (tBT r to t):=by
 intro pins s σ H Q I h;refine wpAny_Call_method_late hbase hfew hline rfl (thn (ho pins s σ H _ I h) fun v s1 ⟨x,H1,I1,r1,ty,q1⟩=>?_);obtain⟨h1,h2⟩:=jiz I1 r1 ty;refine⟨"tuple",id,PySem.F.plainAttrs_tuple,slot,hty,h1,h2,?_⟩;have hA:=ha cpos pins s1 σ H1 _ I1 q1;rw[hs] at hA ⊢;refine Calls.callWith_builtin (by show (false||(backTo cpos (starEach es X.env)).any (·.1))=false; rw[hplain] <;> rfl) (Calls.evalArgs_plain ?_)
 exact thn hA fun us s2 ⟨vs,H2,I2,r2,q2⟩=>hm pins s2 σ H2 x vs v us Q I2 r1 r2 q2
def jco (K:W.Frag):V->List V->Hp->VK->Prop:=fun x vs H Q=>∃ (l:Addr) (ns:List Int) (k:Int) (j:Nat),x=.ref l/\vs=[.int k]/\SqT K H l (ns.map V.int)/\ns[j]?=some k/\(∀ i a,i<j->ns[i]?=some a->a≠k)/\Q (.int j) H
def jgy:MtR X "tuple.index" (jco X.K):=by
 intro pins s σ H x vs v us Q I rx rv h;obtain⟨l,ns,k,j,rfl,rfl,hH,hj,hb,q⟩:=h;cases rx;obtain⟨u,rfl,t,rfl⟩:=rv.one;obtain⟨its,r,⟨o,ho,hc,n,hd⟩,hz⟩:=I.tuple hH;exact jgx ho hc hd (Qt r) hj hb ⟨.int j,H,I.tok _,⟨_,rfl⟩,q⟩
def jgz (hc:X.calm=true):GS X (.builtin "min") (fun xs H Q=>∃ p ns,xs=[.ref p]/\SqL X.K H p (ns.map V.int)/\ns≠[]/\∀ m,m∈ns->(∀ a∈ns,m<=a)->Q (.int m) H):=by
 intro pins s σ H xs us Q I r h;obtain⟨p,ns,rfl,hq,hn,q⟩:=h;obtain⟨u,rfl,rx⟩:=US r;cases rx;obtain⟨its,rv,pl,hz⟩:=I.list hq;have hi:=Qt rv;have hpl:=pl.isList;have hall:=hi.allInts;have hnum:=hi.numsOf;obtain⟨ys,ey⟩:=hall.items;rw[ey] at hpl;have e2:numsOf its=ys.toList.map (·.1):=by
  have:=nums_intItems ys;rw[<- ey] at this;exact this
 rw[hnum] at e2;have hsz:0<ys.size:=by
  rcases Nat.eq_zero_or_pos ys.size with z | z
  ·exact absurd (List.length_eq_zero_iff.mp (by rw[e2,Xj,Xt,z])) hn
  ·exact z
 refine min_intList (I.ok.hd hc) hpl hsz fun v h' tk hv hk=>?_;obtain⟨t,rfl⟩:=intItems_at hv;obtain⟨h1,h2⟩:=argBest_lt (numAt ys) (ys.size-1);refine⟨.int _,H,I.kept (t':=tk) hk,⟨_,rfl⟩,q _ ?_ fun a ha=>?_⟩
 ·rw[numAt_eq,e2];exact PySem.getD_mem (by rw[Xj,Xt]; omega)
 ·rw[e2] at ha;obtain⟨j,hj,rfl⟩:=PySem.mem_getD ha;rw[Xj,Xt] at hj;rw[<- numAt_eq];exact h2 j (by omega)
def jgA (hc:X.calm=true):GS X (.builtin "max") (fun xs H Q=>∃ p ns,xs=[.ref p]/\SqL X.K H p (ns.map V.int)/\ns≠[]/\∀ m,m∈ns->(∀ a∈ns,a<=m)->Q (.int m) H):=by
 intro pins s σ H xs us Q I r h;obtain⟨p,ns,rfl,hq,hn,q⟩:=h;obtain⟨u,rfl,rx⟩:=US r;cases rx;obtain⟨its,rv,pl,hz⟩:=I.list hq;have hi:=Qt rv;have hpl:=pl.isList;have hall:=hi.allInts;have hnum:=hi.numsOf;obtain⟨ys,ey⟩:=hall.items;rw[ey] at hpl;have e2:numsOf its=ys.toList.map (·.1):=by
  have:=nums_intItems ys;rw[<- ey] at this;exact this
 rw[hnum] at e2;have hsz:0<ys.size:=by
  rcases Nat.eq_zero_or_pos ys.size with z | z
  ·exact absurd (List.length_eq_zero_iff.mp (by rw[e2,Xj,Xt,z])) hn
  ·exact z
 refine max_intList (I.ok.hd hc) hpl hsz fun v h' tk hv hk=>?_;obtain⟨t,rfl⟩:=intItems_at hv;obtain⟨h1,h2⟩:=argBest_gt (numAt ys) (ys.size-1);refine⟨.int _,H,I.kept (t':=tk) hk,⟨_,rfl⟩,q _ ?_ fun a ha=>?_⟩
 ·rw[numAt_eq,e2];exact PySem.getD_mem (by rw[Xj,Xt]; omega)
 ·rw[e2] at ha;obtain⟨j,hj,rfl⟩:=PySem.mem_getD ha;rw[Xj,Xt] at hj;rw[<- numAt_eq];exact h2 j (by omega)
end
end L2
namespace L3
open PySem PySem.Spec L2
section
variable {F:Hp}{t:TE}{p:Pm α}{rs:Rs γ}{i:Int}
def jcp {mm_:Option Int}{m:Option (List Int)}{mk:Option Int} (h:Ev K σ F H t (pF (cT cI)).rs m) (hk:Ev K σ F H ta (rF cI) mk) (e':mm_=(m.bind fun l=>mk.bind fun k=>jmx l k)):Ev K σ F H (tBT (jco K) t (jJ ta xq)) (rF cI) mm_:=by
 subst e';intro F1 H1 E z e Q k;obtain⟨l,el,e⟩:=bind_some e;obtain⟨n,en,e⟩:=bind_some e;obtain⟨x,rfl,hx,hb⟩:=jgr e;refine h F1 H1 E l el _ ?_;rintro v F2 H2 E2 ⟨a,xs,rfl,h1,h2⟩;have exs:=Za h2;subst exs;refine⟨⟨a,_,rfl,.inl (E2.sub _ _ h1)⟩,hk F2 H2 (E.trans E2) n en _ fun w F3 H3 E3 hw=>?_⟩;have ew:w=.int n:=hw;subst ew;exact⟨a,l,n,x,rfl,rfl,SqT.of (E3.h _ _ (E2.sub _ _ h1)),hx,hb,k _ F3 H3 (E2.trans E3) rfl⟩
def Zd {mm_:Option Int}{l:List Int}{n:Int} (h:Ev K σ F H t (pF (cT cI)).rs (some l)) (hk:Ev K σ F H ta (rF cI) (some n)) (e':mm_=jmx l n):Ev K σ F H (tBT (jco K) t (jJ ta xq)) (rF cI) mm_:=jcp h hk e'
def jfl:List Int->Int
 | []=>0
 | [a]=>a
 | a::l=>if a<jfl l then a else jfl l
def jfm:List Int->Int
 | []=>0
 | [a]=>a
 | a::l=>if jfm l<a then a else jfm l
def ja4:∀ {l:List Int},l≠[]->jfl l∈l/\∀ a∈l,jfl l<=a
 | [],h=>absurd rfl h
 | [a],_=>⟨by simp[jfl],by simp[jfl]⟩
 | a::b::l,_=>by
  obtain⟨h1,h2⟩:=ja4 (l:=b::l) (by simp);show (if a<jfl (b::l) then a else jfl (b::l))∈_/\∀ x∈_,(if a<jfl (b::l) then a else jfl (b::l))<=x;split
  ·refine⟨Xo,fun x hx=>?_⟩;rcases List.mem_cons.mp hx with rfl | hx
   ·exact Int.le_refl _
   ·have:=h2 x hx; omega
  ·refine⟨Xn _ h1,fun x hx=>?_⟩;rcases List.mem_cons.mp hx with rfl | hx
   ·omega
   ·exact h2 x hx
def ja5:∀ {l:List Int},l≠[]->jfm l∈l/\∀ a∈l,a<=jfm l
 | [],h=>absurd rfl h
 | [a],_=>⟨by simp[jfm],by simp[jfm]⟩
 | a::b::l,_=>by
  obtain⟨h1,h2⟩:=ja5 (l:=b::l) (by simp);show (if jfm (b::l)<a then a else jfm (b::l))∈_/\∀ x∈_,x<=(if jfm (b::l)<a then a else jfm (b::l));split
  ·refine⟨Xo,fun x hx=>?_⟩;rcases List.mem_cons.mp hx with rfl | hx
   ·exact Int.le_refl _
   ·have:=h2 x hx; omega
  ·refine⟨Xn _ h1,fun x hx=>?_⟩;rcases List.mem_cons.mp hx with rfl | hx
   ·omega
   ·exact h2 x hx
@[irreducible] def jkN (l:List Int):Option Int:=if l=[] then none else some (jfl l)
@[irreducible] def jkO (l:List Int):Option Int:=if l=[] then none else some (jfm l)
def jmC:Op1 K (fun x H Q=>∃ p ns,[x]=[V.ref p]/\SqL K H p (ns.map V.int)/\ns≠[]/\∀ m,m∈ns->(∀ a∈ns,m<=a)->Q (.int m) H) (pR cI) (rF cI) (fun l=>jkN l):=by
 intro F H l x s hx z hz Q k;obtain⟨p,xs,rfl,h1,h2⟩:=hx;unfold jkN at hz;dsimp only at hz;by_cases hl:l=[]
 ·rw[if_pos hl] at hz; cases hz
 ·rw[if_neg hl] at hz;cases hz;rw[paired_ints h2] at h1;obtain⟨g1,g2⟩:=ja4 hl;refine⟨p,l,rfl,h1,hl,fun m hm hle=>?_⟩;have e:m=jfl l:=Int.le_antisymm (hle _ g1) (g2 _ hm);subst e;exact k _ F H (Ext.refl s) rfl
def jmD:Op1 K (fun x H Q=>∃ p ns,[x]=[V.ref p]/\SqL K H p (ns.map V.int)/\ns≠[]/\∀ m,m∈ns->(∀ a∈ns,a<=m)->Q (.int m) H) (pR cI) (rF cI) (fun l=>jkO l):=by
 intro F H l x s hx z hz Q k;obtain⟨p,xs,rfl,h1,h2⟩:=hx;unfold jkO at hz;dsimp only at hz;by_cases hl:l=[]
 ·rw[if_pos hl] at hz; cases hz
 ·rw[if_neg hl] at hz;cases hz;rw[paired_ints h2] at h1;obtain⟨g1,g2⟩:=ja5 hl;refine⟨p,l,rfl,h1,hl,fun m hm hle=>?_⟩;have e:m=jfm l:=Int.le_antisymm (g2 _ hm) (hle _ g1);subst e;exact k _ F H (Ext.refl s) rfl
end
abbrev Ecs:=List (Addr×List Str)
end L3
namespace L2
open PySem PySem.Spec PyProof.Rows
def Q4 (a b:Int):Builtin.Range.rangeSize a b (-1)=if b<a then a-b else 0:=by
 unfold Builtin.Range.rangeSize;rw[if_neg (by decide),Int.neg_neg,Int.ediv_one];by_cases h:b<a
 ·rw[if_pos h,if_pos h]; omega
 ·rw[if_neg h,if_neg h]
def jgB {a b:Int} (ha:-(2 ^ 62)<=a) (ha':a<2 ^ 62) (hb:-(2 ^ 62)<=b) (hb':b<2 ^ 62):Builtin.Range.small a b (-1)=true:=by
 unfold Builtin.Range.small;rw[Q4];simp only[Builtin.Range.rangeFitsLong,XB,Bool.or_eq_true,Xu,beq_iff_eq,show ((-1:Int) > 0)=False by simp,XY];split <;> omega
def Itd (hi:Int) (n:Nat):It:=⟨fun i _=>i<n,fun i H x H'=>H'=H/\x=.int (hi-i),fun i _=>n<=i⟩
def jcq (it:Addr) (hi:Int) (n:Nat):Turn P w K tg (Itd hi n) [it] it (fun i h=>IsRangeIter h it (hi+(i:Nat) * (-1)) ((n:Int)-(i:Nat)) (-1)) where
 mem:=by simp
 obj:=fun i h st b hb=>by
  have e:b=it:=by simpa using hb
  subst e;exact⟨_,st,fun v z=>by
   have z':Data.fields _=Data.cell v:=z;cases z'⟩
 keep:=fun i h h' st k=>k it (by simp) _ st
 item:=by
  intro X hP hw hK hc i pins s σ H E I hf st hg;subst hP hw hK;obtain⟨f0,f1,f2,f3,f4,f5⟩:=hf it (by simp);have W:=Walks.range (prog:=X.prog) (w:=X.w) (I.ok.hd hc) it hi (-1) n;refine W.item i s _ _ hg st fun v h' tk hv st' kk=>?_;obtain⟨t,rfl⟩:=hv;have I1:Inv X pins σ H { s with heap:=h',toks:=tk }:=I.turned (fun b o hb e=>kk b o (by simpa using hb) e) f0 f1 f3 f4 f5
  refine⟨_,rfl,jaD (s:={ s with heap:=h',toks:=tk }) (n:="range_iterator") st' rfl rfl (by decide) ⟨.int (hi-i),H,I1,⟨t,?_⟩,⟨rfl,rfl⟩,st',fun b hb=>(hf b hb).1⟩⟩
  rw[show hi+(i:Int) * (-1)=hi-i by omega]
 done:=by
  intro X hP hw hK hc i pins s σ H E I hf st hg;subst hP hw hK;obtain⟨f0,f1,f2,f3,f4,f5⟩:=hf it (by simp);exact wpAny_pyNext_range_end (I.ok.hd hc) st (by have:n<=i:=hg; omega) fun h' eb=>⟨rfl,I.turned (t':=s.toks) (fun b o hb e=>eb b o hb e) f0 f1 f3 f4 f5⟩
 self:=fun _ _ _ _ _ st h=>wpAny_pyIter_rangeiter st h
section
def jgC {R:It->Hp->Prop}{hi lo:Int}{t u v:Tok}{tk:Nat} (I:Inv X pins σ H s) (h1:-(2 ^ 62)<=hi) (h2:hi<2 ^ 62) (h3:-(2 ^ 62)<=lo) (h4:lo<2 ^ 62)
  (q:R (Itd hi (hi-lo).toNat) H):wpAny (model X.prog X.w) X.A (pyIter (.ref s.heap.objs.size)) (PIE X pins σ tg R) E { s with heap:=s.heap.push { cls:=.type "range",data:=.fields #[.int hi t,.int lo u,.int (-1) v] },toks:=tk }:=by
 refine wpAny_pyIter_range (IsRange.new ..) (jgB h1 h2 h3 h4) ?_;have I1:Inv X pins σ H { s with heap:=s.heap.push { cls:=.type "range",data:=.fields #[.int hi t,.int lo u,.int (-1) v] },toks:=tk }:=I.kept fun b o e=>Xd _ e
 refine⟨(s.heap.push { cls:=.type "range",data:=.fields #[.int hi t,.int lo u,.int (-1) v] }).objs.size,[(s.heap.push { cls:=.type "range",data:=.fields #[.int hi t,.int lo u,.int (-1) v] }).objs.size],_,_,H,rfl,
  I1.kept (t':=tk) fun b o e=>Xd _ e,jcq _ hi (hi-lo).toNat,?_,fun b hb=>?_,q⟩
 ·have e1:hi+((0:Nat):Int) * (-1)=hi:=by simp
  have e2:(((hi-lo).toNat:Nat):Int)-((0:Nat):Int)=Builtin.Range.rangeSize hi lo (-1):=by rw[Q4]; split <;> omega
  show IsRangeIter _ _ (hi+((0:Nat):Int) * (-1)) ((((hi-lo).toNat:Nat):Int)-((0:Nat):Int)) (-1);rw[e1,e2];exact Xi _ rfl
 ·have e:b=(s.heap.push { cls:=.type "range",data:=.fields #[.int hi t,.int lo u,.int (-1) v] }).objs.size:=by simpa using hb
  subst e;exact I1.fpOk (Xe _) (I1.hok.fresh (Xe _))
def jkP (ta:TA):TI:=fun σ H R=>ta σ H fun vs H1=>∃ i j:Int,vs=[.int i,.int j,.int (-1)]/\(-(2 ^ 62)<=i/\i<2 ^ 62/\-(2 ^ 62)<=j/\j<2 ^ 62)/\R (Itd i (i-j).toNat) H1
def jgD {a b c:Expr}{ta:TA}{p:Pos} (hg:Gl X "range") (hm:X.mg "range"=none) (ha:PA X [a,b,c] ta) (hs:starEach [a,b,c] X.env=[(false,eval a X.env),(false,eval b X.env),(false,eval c X.env)]:=by rfl) (hs2:starEach [b,c] X.env=[(false,eval b X.env),(false,eval c X.env)]:=by rfl) :
  PI X tg (.Call (.Name "range" p) [a,b,c] [] pos) (jkP ta):=by
 intro pins s σ H R I h;refine Call_ (JM I hg hm boot_range (XA (thn (ha pos pins s σ H _ I h) fun us s1 ⟨vs,H1,I1,r1,q1⟩=>?_) (by rw[hs,hs2]) (by rw[hs2]; rfl)));obtain⟨i,j,e,⟨q1,q2,q3,q4⟩,q⟩:=q1;subst e;cases r1 with
 | cons r rr=>
  cases rr with
  | cons r' rr=>
   cases rr with
   | cons r'' rr=>
    cases rr;obtain⟨t,rfl⟩:=r;obtain⟨t',rfl⟩:=r';obtain⟨t'',rfl⟩:=r'';exact call_range_3 (by decide) (jgC I1 q1 q2 q3 q4 q) (Or.inl (PyProof.noPylong_small (by decide)))
def Gv (hi lo:Int):List Int:=(List.range (hi-lo).toNat).map fun k=>hi-((k:Nat):Int)
def jiA {a b c:Expr}{ta:TA}{p pos2:Pos} (hc:X.calm=true) (hgl:Gl X "list") (hml:X.mg "list"=none) (hg:Gl X "range") (hm:X.mg "range"=none) (ha:PA X [a,b,c] ta)
  (hs0:starEach [Expr.Call (.Name "range" p2) [a,b,c] [] pos2] X.env=[(false,eval (Expr.Call (.Name "range" p2) [a,b,c] [] pos2) X.env)]:=by rfl)
  (hs:starEach [a,b,c] X.env=[(false,eval a X.env),(false,eval b X.env),(false,eval c X.env)]:=by rfl) (hs2:starEach [b,c] X.env=[(false,eval b X.env),(false,eval c X.env)]:=by rfl) :
  PE X (.Call (.Name "list" p) [.Call (.Name "range" p2) [a,b,c] [] pos2] [] pos) (fun σ H Q=>ta σ H fun vs H1=>∃ i j:Int,vs=[.int i,.int j,.int (-1)]/\(-(2 ^ 62)<=i/\i<2 ^ 62/\-(2 ^ 62)<=j/\j<2 ^ 62)/\(i-j).toNat<=2 ^ 24/\∀ l,H1 l=none->Q (.ref l) (upd H1 l (.lst ((Gv i j).map V.int)))):=by
 intro pins s σ H Q I h;refine Call_ (JM I hgl hml boot_list (XA ?_ hs0 rfl));rw[hs0];show wpAny _ _ (spliced ((false,eval (Expr.Call (.Name "range" p2) [a,b,c] [] pos2) X.env)::[])) _ _ s;refine Calls.spliced_cons (Call_ (JM I hg hm boot_range (XA (thn (ha pos2 pins s σ H _ I h) fun us s1 ⟨vs,H1,I1,r1,q1⟩=>?_) (by rw[hs,hs2]) (by rw[hs2]; rfl))));obtain⟨i,j,e,⟨b1,b2,b3,b4⟩,hn,q⟩:=q1;subst e;cases r1 with
 | cons r rr=>
  cases rr with
  | cons r' rr=>
   cases rr with
   | cons r'' rr=>
    cases rr;obtain⟨t,rfl⟩:=r;obtain⟨t',rfl⟩:=r';obtain⟨t'',rfl⟩:=r'';refine call_range_3 (by decide) (Calls.spliced_nil ?_) (Or.inl (PyProof.noPylong_small (by decide)));have hS:(s1.heap.push { cls:=.type "range",data:=.fields #[.int i t,.int j t',.int (-1) t''] }).objs.size=s1.heap.objs.size+1:=by simp[Heap.push]
    refine call_list_range (n:=(i-j).toNat) (I1.ok.hd hc) (IsRange.new ..) (jgB b1 b2 b3 b4) (by rw[Q4]; split <;> omega) hn fun h' tk acc' c' kp e' hacc=>?_;refine⟨.ref _,_,I1.laid (o:=.lst ((Gv i j).map V.int)) (t':=tk) (fun b o eb=>kp b o (Xd _ eb)) (by rw[hS]; omega) ⟨?_,acc'.toList,c',?_,by simpa using e'⟩,rfl,q _ (I1.hok.fresh (by rw[hS]; omega))⟩
    ·rw[Xj,Gv,Xj,List.length_range,Xx];exact hn
    ·refine VR (by rw[Xj,Gv,Xj,List.length_range,Xt,hacc.1]) fun n x v hx hv=>?_;rw[Xw] at hx;unfold Gv at hx;rw[Xw] at hx;cases hr:(List.range (i-j).toNat)[n]? with
     | none=>rw[hr] at hx; cases hx
     | some k=>
      rw[hr] at hx;have hk:k=n:=by
       obtain⟨h1,h2⟩:=List.getElem?_eq_some_iff.mp hr;simpa using h2.symm
      subst hk;cases hx;obtain⟨tk',e2⟩:=hacc.2 k v (by simpa using hv);exact⟨tk',by rw[e2,show i+(k:Int) * (-1)=i-k by omega]⟩
end
end L2
namespace L3
open PySem PySem.Spec L2
section
variable {F:Hp}{t:TE}{p:Pm α}{rs:Rs γ} 
@[irreducible] def jgE (hi lo:Int):Option (List Int):=if -(2 ^ 62)<=hi/\hi<2 ^ 62/\-(2 ^ 62)<=lo/\lo<2 ^ 62 then some (Gv hi lo) else none
def Yu (hi lo:Int):(Gv hi lo).length=(hi-lo).toNat:=by simp[Gv]
def jkQ {hi lo:Int} (h:∀ F H,G F H->Same F H):ItOk K (Itd hi (hi-lo).toNat) cI (Gv hi lo) G where
 go:=fun i F H g hi'=>by rw[Yu] at hi'; exact hi'
 yld:=fun i F H x H' g y b hb=>by
  obtain⟨e,y⟩:=y;subst e y;refine⟨F,Ext.refl (h F _ g),?_⟩;unfold Gv at hb;rw[Xw] at hb;cases q:(List.range (hi-lo).toNat)[i]? with
  | none=>rw[q] at hb; cases hb
  | some j=>
   rw[q] at hb;have hij:j=i:=by
    obtain⟨h1,h2⟩:=List.getElem?_eq_some_iff.mp q;simpa using h2.symm
   subst hij;cases hb;rfl
 stop:=fun F H g=>by rw[Yu]; exact Xe _
def jgF {m:Option Int}{mm_:Option (List Int)} (h:Ev K σ F H t (rF cI) m) (h':Ev K σ F H ta (rF cI) m') (h'':Ev K σ F H tb (rF cI) (some (-1))) (e':mm_=(m.bind fun i=>m'.bind fun j=>jgE i j)) :
  Ei K σ F H Fe He (jkP (jJ t (jJ ta (jJ tb xq)))) cI mm_:=by
 subst e';intro X l e R k;obtain⟨i,ei,e⟩:=bind_some e;obtain⟨j,ej,e⟩:=bind_some e;unfold jgE at e;obtain⟨⟨h1,h2,h3,h4⟩,rfl⟩:=jV e;refine h F H (Ext.refl X.sub) i ei _ fun v F2 H2 E hv=>h' F2 H2 E j ej _ fun v' F3 H3 E3 hv'=>h'' F3 H3 (E.trans E3) (-1) rfl _ fun v'' F4 H4 E4 hv''=>?_;have ev:v=.int i:=hv;have ev':v'=.int j:=hv';have ev'':v''=.int (-1):=hv'';subst ev ev' ev'';exact⟨i,j,rfl,⟨h1,h2,h3,h4⟩,k (Itd i (i-j).toNat) F4 H4 (E.trans (E3.trans E4)) (jkQ fun F' H' g=>g.1.sub)⟩
def jcr {i:Int}{mm_:Option (List Int)} (h:Ev K σ F H t (rF cI) (some i)) (h':Ev K σ F H ta (rF cI) (some j)) (h'':Ev K σ F H tb (rF cI) (some (-1))) (e':mm_=jgE i j) :
  Ei K σ F H Fe He (jkP (jJ t (jJ ta (jJ tb xq)))) cI mm_:=jgF h h' h'' e'
@[irreducible] def jdU (i j:Int):Option (List Int):=if (-(2 ^ 62)<=i/\i<2 ^ 62/\-(2 ^ 62)<=j/\j<2 ^ 62)/\i-j<=16777216 then some (Gv i j) else none
def jeO {m:Option Int}{mm_:Option (List Int)} (h:Ev K σ F H t (rF cI) m) (h':Ev K σ F H ta (rF cI) m') (h'':Ev K σ F H tb (rF cI) (some (-1))) (e':mm_=(m.bind fun i=>m'.bind fun j=>jdU i j)) :
  Ev K σ F H (fun σ H Q=>(jJ t (jJ ta (jJ tb xq))) σ H fun vs H1=>∃ i j:Int,vs=[.int i,.int j,.int (-1)]/\(-(2 ^ 62)<=i/\i<2 ^ 62/\-(2 ^ 62)<=j/\j<2 ^ 62)/\(i-j).toNat<=2 ^ 24/\∀ l,H1 l=none->Q (.ref l) (upd H1 l (.lst ((Gv i j).map V.int)))) (rO cI) mm_:=by
 subst e';intro F1 H1 E z e Q k;obtain⟨i,ei,e⟩:=bind_some e;obtain⟨j,ej,e⟩:=bind_some e;unfold jdU at e;obtain⟨⟨hb,h3⟩,rfl⟩:=jV e;refine h F1 H1 E i ei _ fun v F2 H2 E2 hv=>h' F2 H2 (E.trans E2) j ej _ fun v' F3 H3 E3 hv'=>h'' F3 H3 (E.trans (E2.trans E3)) (-1) rfl _ fun v'' F4 H4 E4 hv''=>?_;have ev:v=.int i:=hv;have ev':v'=.int j:=hv';have ev'':v''=.int (-1):=hv'';subst ev ev' ev'';have E5:=E2.trans (E3.trans E4);refine⟨i,j,rfl,hb,by omega,fun l hl=>?_⟩;exact yO (c:=cI) E5.sub (GW (Gv i j)) (fun v F5 H5 E6 hr=>k v F5 H5 (E5.trans E6) ((rO cI).back E5.h hr)) l hl
def ja6 {i:Int}{mm_:Option (List Int)} (h:Ev K σ F H t (rF cI) (some i)) (h':Ev K σ F H ta (rF cI) (some j)) (h'':Ev K σ F H tb (rF cI) (some (-1))) (e':mm_=jdU i j) :
  Ev K σ F H (fun σ H Q=>(jJ t (jJ ta (jJ tb xq))) σ H fun vs H1=>∃ i j:Int,vs=[.int i,.int j,.int (-1)]/\(-(2 ^ 62)<=i/\i<2 ^ 62/\-(2 ^ 62)<=j/\j<2 ^ 62)/\(i-j).toNat<=2 ^ 24/\∀ l,H1 l=none->Q (.ref l) (upd H1 l (.lst ((Gv i j).map V.int)))) (rO cI) mm_:=jeO h h' h'' e'
end
end L3
namespace L2
open PySem PySem.Spec PyProof.Rows
section
variable [DecidableEq κ]
def WU (kvs:List (κ×V)) (k:κ):Option V:=(kvs.find? fun kv=>decide (kv.1=k)).map (·.2)
def jbS (kvs:List (κ×V)) (k:κ) (v:V):List (κ×V):=
 if (kvs.any fun kv=>decide (kv.1=k))=true then kvs.map (fun kv=>if kv.1=k then (kv.1,v) else kv) else kvs++[(k,v)]
def Uu {p:κ×V}{r:List (κ×V)}{k:κ} (e:p.1=k):WU (p::r) k=some p.2:=by simp[WU,X1,e]
def Uv {p:κ×V}{r:List (κ×V)}{k:κ} (e:¬ p.1=k):WU (p::r) k=WU r k:=by simp[WU,X1,e]
def jdV (k:κ):∀ kvs:List (κ×V),(kvs.any fun kv=>decide (kv.1=k))=(WU kvs k).isSome
 | []=>rfl
 | p::r=>by
  rw[List.any_cons];by_cases e:p.1=k
  ·simp only[Uu e,Xy e,Bool.true_or,Option.isSome_some]
  ·rw[Uv e,Xk e,Bool.false_or]; exact jdV k r
def Wa (kvs:List (κ×V)) (k:κ) (v:V):(jbS kvs k v).length<=kvs.length+1:=by
 unfold jbS;split
 ·rw[Xj]; omega
 ·rw[XE,XX,List.length_nil]; omega
def RelO.isSome_eq {o:Option V}{u:Option Value} (r:RelO o u):o.isSome=u.isSome:=by
 cases o with
 | none=>cases u with
  | none=>rfl
  | some _=>exact (show False from r).elim
 | some _=>cases u with
  | none=>exact (show False from r).elim
  | some _=>rfl
def RelO.getD {o:Option V}{u:Option Value}{d:V}{d':Value} (r:RelO o u) (rd:RelV d d'):RelV (o.getD d) (u.getD d'):=by
 cases o with
 | none=>cases u with
  | none=>exact rd
  | some _=>exact (show False from r).elim
 | some _=>cases u with
  | none=>exact (show False from r).elim
  | some _=>exact r
def KV.val {kvs:List (κ×V)}{vs:List (κ×Value)} (r:KV kvs vs) (k:κ):RelO (WU kvs k) (valueAt vs k):=by
 unfold KV at r
 induction r with
 | nil=>exact True.intro
 | @cons p q ps qs h t ih=>
  obtain⟨h1,h2⟩:=h;by_cases e:p.1=k
  ·have e':q.1=k:=h1.symm.trans e;have b:valueAt (q::qs) k=some q.2:=by simp[valueAt,X1,e']
   rw[Uu e,b]; exact h2
  ·have e':¬ q.1=k:=fun z=>e (h1.trans z);have b:valueAt (q::qs) k=valueAt qs k:=by simp[valueAt,X1,e']
   rw[Uv e,b]; exact ih
def KV.any {kvs:List (κ×V)}{vs:List (κ×Value)} (r:KV kvs vs) (k:κ):(kvs.any fun kv=>decide (kv.1=k))=vs.any fun kv=>decide (kv.1=k):=by
 unfold KV at r
 induction r with
 | nil=>rfl
 | cons h t ih=>rw[List.any_cons,List.any_cons,ih,h.1]
def KV.repl {kvs:List (κ×V)}{vs:List (κ×Value)} (r:KV kvs vs) (k:κ) {y:V} (ry:RelV y u) :
  KV (kvs.map fun kv=>if kv.1=k then (kv.1,y) else kv) (vs.map fun kv=>if kv.1=k then (kv.1,u) else kv):=by
 unfold KV at r ⊢
 induction r with
 | nil=>exact .nil
 | @cons p q ps qs h t ih=>
  rw[Xp,Xp];refine .cons ?_ ih;obtain⟨h1,h2⟩:=h;by_cases e:p.1=k
  ·rw[if_pos e,if_pos (h1.symm.trans e)]; exact ⟨h1,ry⟩
  ·rw[if_neg e,if_neg (fun z=>e (h1.trans z))]; exact ⟨h1,h2⟩
def KV.put {kvs:List (κ×V)}{vs:List (κ×Value)} (r:KV kvs vs) (k:κ) {y:V} (ry:RelV y u):KV (jbS kvs k y) (stored vs k u):=by
 unfold jbS stored;rw[r.any k];by_cases e:(vs.any fun kv=>decide (kv.1=k))=true
 ·rw[if_pos e,if_pos e]; exact r.repl k ry
 ·rw[if_neg e,if_neg e]; exact Paired.snoc r ⟨rfl,ry⟩
def KV.length {kvs:List (κ×V)}{vs:List (κ×Value)} (r:KV kvs vs):kvs.length=vs.length:=Paired.length r
end
def jgG {k:Key} (r:RelV (kV k) u):(zM P w).is k u=true:=by
 cases k with
 | inl i=>obtain⟨t,e⟩:=(show ∃ t,u=Value.int i t from r); subst e; exact jbT P w i t
 | inr x=>obtain⟨t,e⟩:=(show ∃ t,u=Value.str x t from r); subst e; exact jbU P w x t
def ja7:∀ {ks:List Key}{us:List Value},Vals (ks.map kV) us->ItemsAre (zM P w) ks us
 | [],_,r=>by rw[List.map_nil] at r; cases r; exact .nil
 | k::ks,_,r=>by
  rw[Xp] at r;cases r with
  | cons h t=>exact .cons (jgG h) (ja7 t)
abbrev KT (fl:Bool) (H:Hp):List (List Key×V)->List (List Key×Addr×Value)->Prop:=Paired fun p q=>p.1=q.1/\TupK fl H p.1 q.2.1/\RelV p.2 q.2.2
def KT.val {xs:List (List Key×Addr×Value)} (r:KT fl H kvs xs) (k:List Key):RelO (WU kvs k) ((atKey xs k).map (·.2)):=by
 induction r with
 | nil=>exact True.intro
 | @cons p q ps qs h t ih=>
  obtain⟨h1,_,h2⟩:=h;by_cases e:p.1=k
  ·have e':q.1=k:=h1.symm.trans e;have b:atKey (q::qs) k=some q.2:=by simp[atKey,X1,e']
   rw[Uu e,b]; exact h2
  ·have e':¬ q.1=k:=fun z=>e (h1.trans z);have b:atKey (q::qs) k=atKey qs k:=by simp[atKey,X1,e']
   rw[Uv e,b]; exact ih
def KT.repl {xs:List (List Key×Addr×Value)} (r:KT fl H kvs xs) (k:List Key) {y:V} (ry:RelV y u) :
  KT fl H (kvs.map fun kv=>if kv.1=k then (kv.1,y) else kv) (xs.map (putAt k u)):=by
 induction r with
 | nil=>exact .nil
 | @cons p q ps qs h t ih=>
  rw[Xp,Xp];refine .cons ?_ ih;obtain⟨h1,h2,h3⟩:=h;unfold putAt;by_cases e:p.1=k
  ·rw[if_pos e,if_pos (h1.symm.trans e)]; exact ⟨h1,h2,ry⟩
  ·rw[if_neg e,if_neg (fun z=>e (h1.trans z))]; exact ⟨h1,h2,h3⟩
def KT.put {xs:List (List Key×Addr×Value)} (r:KT fl H kvs xs) (k:List Key) {b:Addr}{y:V} (hb:TupK fl H k b) (ry:RelV y u) :
  KT fl H (jbS kvs k y) (storedH xs k b u):=by
 have e:(kvs.any fun kv=>decide (kv.1=k))=(atKey xs k).isSome:=by
  rw[jdV,(r.val k).isSome_eq,Option.isSome_map]
 unfold jbS storedH;rw[e];by_cases q:(atKey xs k).isSome=true
 ·rw[if_pos q,if_pos q]; exact r.repl k ry
 ·rw[if_neg q,if_neg q]; exact Paired.snoc r ⟨rfl,hb,ry⟩
def KT.keeps {xs:List (List Key×Addr×Value)} (r:KT fl H kvs xs) (ht:∀ b ys,H b=some (.tup ys)->H' b=some (.tup ys)):KT fl H' kvs xs:=
 Paired.mapP r fun _ _ z=>⟨z.1,z.2.1.mono ht,z.2.2⟩
section
def jmE {u:HO} (ok:HOk P w H h) (e:Rd H a u):ObjOk P w H h a u:=e.ok ok
def jgH {kvs:List (Key×V)} (ok:HOk P w H h) (e:Rd H a (.dK kvs)):kvs.length<=sizeLine/\(a==sysModules)=false/\∃ vs,KV kvs vs/\h.DictOf (zM P w) a vs:=
 show ObjOk P w H h a (.dK kvs) from jmE ok e
def jnR {kvs:List (Key×V)} (ok:HOk P w H h) (e:H a=some (.dK kvs)):kvs.length<=sizeLine/\(a==sysModules)=false/\∃ vs,KV kvs vs/\h.DictOf (zM P w) a vs:=jgH ok (.inl e)
def jgI (ok:HOk P w H h) (e:H a=some (.tup (ks.map kV))):(tupleKind (zM P w)).is h ks a:=by
 obtain⟨_,its,r,o,h1,h2,n,h3⟩:=(show ObjOk P w H h a (.tup (ks.map kV)) from ok a _ e);exact⟨o,its.toArray,n,h1,h2.1,h3,by simpa using ja7 r⟩
def ja8 (ok:HOk P w H h) (e:TupK fl H ks a):(kdT fl P w).is h ks a:=by
 cases fl with
 | false=>exact jgI ok e
 | true=>
  obtain⟨k,r,t,rfl,e1,e2⟩:=e;obtain⟨_,its,q,o,h1,h2,n,h3⟩:=(show ObjOk P w H h a (.tup [.ref t,kV k]) from ok a _ e1);cases q with
  | cons q1 q=>
   cases q with
   | cons q2 q=>
    cases q;cases (show _=Value.ref t from q1);exact⟨k,r,t,_,o,n,rfl,h1,h2.1,h3,jgI ok e2,jgG q2⟩
def Ze (hu:A.units+2<cLine):(kdT fl P w).room A.in1:=by
 cases fl with
 | false=>exact (show A.units+1<cLine by omega)
 | true=>exact (show A.units+1+1<cLine by omega)
def jgJ (ok:HOk P w H h) (e:Rd H a (.dT fl kvs)):kvs.length<=sizeLine/\(a==sysModules)=false /\
  ∃ xs,KT fl H kvs xs/\h.DictOfH (kdT fl P w) a xs:=by
 obtain⟨z,y,xs,r,o,es,ep,h1,h2,h3,h4,h5⟩:=(show ObjOk P w H h a (.dT fl kvs) from jmE ok e);refine⟨z,y,xs,r,o,es,ep,h1,h2,h3,h4,fun x hx=>?_,h5⟩;have all:∀ {l:List (List Key×V)}{m:List (List Key×Addr×Value)},KT fl H l m->∀ x∈m,(kdT fl P w).is h x.1 x.2.1:=by
  intro l m q
  induction q with
  | nil=>intro x hx; exact nomatch hx
  | @cons p q ps qs hq t ih=>
   intro x hx;rcases List.mem_cons.mp hx with e | hx
   ·subst e;exact ja8 ok (by rw[<- hq.1]; exact hq.2.1)
   ·exact ih x hx
 exact all r x hx
def jmF (ok:HOk P w H h) (e:H a=some (.dT fl kvs)):kvs.length<=sizeLine/\(a==sysModules)=false /\
  ∃ xs,KT fl H kvs xs/\h.DictOfH (kdT fl P w) a xs:=jgJ ok (.inl e)
end
def DGet (H:Hp) (a:Addr) (y:V) (r:Option V):Prop:=
 (∃ kvs k,Rd H a (.dK kvs)/\y=kV k/\r=WU kvs k) \/ ∃ fl kvs k b,Rd H a (.dT fl kvs)/\y=.ref b/\TupK fl H k b/\r=WU kvs k
def DPut (H:Hp) (a:Addr) (y v:V) (H':Hp):Prop:=
 (∃ kvs k,H a=some (.dK kvs)/\y=kV k/\kvs.length<sizeLine/\H'=upd H a (.dK (jbS kvs k v))) \/
 ∃ fl kvs k b,H a=some (.dT fl kvs)/\y=.ref b/\TupK fl H k b/\kvs.length<sizeLine/\H'=upd H a (.dT fl (jbS kvs k v))
def DGet.k {kvs:List (Key×V)}{k:Key} (e:H a=some (.dK kvs)):DGet H a (kV k) (WU kvs k):=.inl ⟨kvs,k,.inl e,rfl,rfl⟩
def DGet.t {b:Addr}{k:List Key} (e:H a=some (.dT fl kvs)) (eb:TupK fl H k b):DGet H a (.ref b) (WU kvs k):=.inr ⟨_,kvs,k,b,.inl e,rfl,eb,rfl⟩
def DPut.k {kvs:List (Key×V)}{k:Key} (e:H a=some (.dK kvs)) (hl:kvs.length<sizeLine):DPut H a (kV k) v (upd H a (.dK (jbS kvs k v))):=.inl ⟨kvs,k,e,rfl,hl,rfl⟩
def DPut.t {b:Addr}{k:List Key} (e:H a=some (.dT fl kvs)) (eb:TupK fl H k b) (hl:kvs.length<sizeLine) :
  DPut H a (.ref b) v (upd H a (.dT fl (jbS kvs k v))):=.inr ⟨_,kvs,k,b,e,rfl,eb,hl,rfl⟩
section
variable {y:V}{r:Value}{o:Option V} 
def Inv.big (I:Inv X pins σ H s):sysModules<s.heap.objs.size:=by
 have h:mainGlobals<s.heap.objs.size:=(I.mod.glob.keeps I.bk).lt;exact Nat.lt_trans (by decide) h
def jgK (hu:A.units+2<cLine) (I:Inv X pins σ H s) (g:DGet H a y (some v)) (ry:RelV y u) (h:∀ w' s',Inv X pins σ H s'->RelV v w'->Q w' s') :
  wpAny (model X.prog X.w) A (getItem (.ref a) u) Q E s:=by
 rcases g with⟨kvs,k,e,ey,l⟩ | ⟨fl,kvs,k,b,e,ey,eb,l⟩
 ·subst ey;obtain⟨z,hd,vs,rel,dd⟩:=jgH I.hok e;obtain⟨w',hw,rw'⟩:=RelO.some_of (v:=v) (o:=valueAt vs k) (by rw[l]; exact rel.val k);exact wpAny_getItem_of (jgG ry) dd.mapOf hw (h w' _ (I.tok _) rw')
 ·subst ey;cases (show u=Value.ref b from ry);obtain⟨z,hd,xs,rel,dd⟩:=jgJ I.hok e;obtain⟨w',hw,rw'⟩:=RelO.some_of (v:=v) (o:=(atKey xs k).map (·.2)) (by rw[l]; exact rel.val k);obtain⟨p,hp,hp2⟩:=Option.map_eq_some_iff.mp hw;refine wpAny_getItem_heap (Ze hu) (ja8 I.hok eb) dd hp ?_;rw[hp2];exact h w' _ (I.tok _) rw'
def jcs {ob:HO} (I:Inv X pins σ H s) (mu:Mut (H a)) (hs:Heap.SameBut a s.heap h') (he:∃ q,h'.get? a=some q) (new:ObjOk X.prog X.w (upd H a ob) h' a ob) :
  Inv X pins σ (upd H a ob) { s with heap:=h',toks:=t' }:=
 I.write (x:=a) (e:=a) mu (.inl rfl) (fun b q hb z=>(hs.2 b hb).trans z) he new
def jmG {kvs:List (Key×V)}{vs:List (Key×Value)} (z:kvs.length<=sizeLine) (hd:(a==sysModules)=false) (rel:KV kvs vs) (dd:h'.DictOf (zM P w) a vs) :
  ObjOk P w H' h' a (.dK kvs):=⟨z,hd,vs,rel,dd⟩
def jgL {Q:Unit->Shared->Prop} (hu:A.units+2<cLine) (I:Inv X pins σ H s) (g:DPut H a y v H') (ry:RelV y u) (rv:RelV v r) (h:∀ s',Inv X pins σ H' s'->Q () s') :
  wpAny (model X.prog X.w) A (setItem (.ref a) u r) Q E s:=by
 rcases g with⟨kvs,k,e,ey,l,eH⟩ | ⟨fl,kvs,k,b,e,ey,eb,l,eH⟩
 ·subst ey eH;obtain⟨z,hd,vs,rel,dd⟩:=jnR I.hok e;have hz:vs.length<=sizeLine:=by rw[<- rel.length]; exact z
  have hl:(jbS kvs k v).length<=sizeLine:=by have:=Wa kvs k v; omega
  refine wpAny_setItem_pairs (hsz:=hz) (jgG ry) dd fun h' dd' hs=>h _ ?_;have he:∃ q,h'.get? a=some q:=let ⟨q,_,_,hq,_⟩:=dd'; ⟨q,hq⟩;exact jcs I (by rw[e]; exact True.intro) hs he (jmG hl hd (rel.put k rv) dd')
 ·subst ey eH;cases (show u=Value.ref b from ry);obtain⟨z,hd,xs,rel,dd⟩:=jmF I.hok e;have hz:xs.length<=sizeLine:=by rw[<- Paired.length rel]; exact z
  have hl:(jbS kvs k v).length<=sizeLine:=by have:=Wa kvs k v; omega
  refine wpAny_setItem_heap (hsz:=hz) (Ze hu) (ja8 I.hok eb) dd fun h' dd' hs=>h _ ?_;obtain⟨q,es,ep,hq,h2,h3,h4,_,h5⟩:=dd';refine jcs I (by rw[e]; exact True.intro) hs ⟨q,hq⟩ ⟨hl,hd,_,(rel.put k eb rv).keeps fun c ys ec=>?_,q,es,ep,hq,h2,h3,h4,h5⟩;rw[km (jl0 ec e (fun z=>nomatch z))];exact ec
end
def jnS (i:Expr):Prop:=∀ ov iv,subscripted i false ov iv=operate [ov,iv] (getItem ov iv)
def jgM {slice:Expr}{id:String} 
  (hl:typeLookup (.type T) "__getitem__"=pure (some (.builtin id))) (hs:jnS slice)
  (h:wpAny (model prog w) A (eval value env) (fun o s₁=>wpAny (model prog w) A (eval slice env) (fun i s₂=>s₂.TypeIs o T/\wpAny (model prog w) A (getItem o i) Q E s₂) E s₁) E s) :
  wpAny (model prog w) A (eval (.Subscript value slice pos) env) Q E s:=by
 refine Subscript_ (wb h (fun o s₁ h₁=>wb h₁ (fun i s₂ h₂=>?_) fun _ _ x=>x) fun _ _ x=>x);obtain⟨hT,h₂⟩:=h₂;unfold subscriptTail;refine Xa ?_;rw[getitemInPython_of_ne hT.not_modules];refine Xa (wpAny_specialOf hT hl ?_);have fin:wpAny (model prog w) A (subscripted slice false o i) (fun r s₃=>wpAny (model prog w) A (letTemporaryGo value o r >>= fun _=>pure r) Q E s₃) E s₂:=by
  rw[hs o i];exact wpAny_operating (wb h₂ (fun r s₃ h₃=>Xa (wpAny_letTemporaryGo (Xb h₃))) fun _ _ x=>x)
 first
  | exact Xb (Xa fin)
  | exact Xa (Xb (Xa fin))
  | exact Xa fin
def jct {y:V}{o:Option V} (I:Inv X pins σ H s) (g:DGet H a y o):s.TypeIs (.ref a) "dict":=by
 rcases g with⟨kvs,k,e,_,_⟩ | ⟨fl,kvs,k,b,e,_,_,_⟩
 ·obtain⟨_,_,vs,_,dd⟩:=jgH I.hok e;exact dd.typeIs
 ·obtain⟨_,_,xs,_,dd⟩:=jgJ I.hok e;exact dd.typeIs
def jgN (td ty:TE):TE:=fun σ H Q=>td σ H fun x H1=>ty σ H1 fun y H2=>∃ a v,x=.ref a/\DGet H2 a y (some v)/\Q v H2
def jkR (td ty tv:TE):TS:=fun D σ H=>tv σ H fun v H1=>td σ H1 fun x H2=>ty σ H2 fun y H3=>∃ a H4,x=.ref a/\DPut H3 a y v H4/\D.nx σ H4
section
variable {o i:Expr}{tpos:Pos} 
def U0 (hu:X.A.units+2<cLine) (ho:PE X o td) (hi:PE X i ty) (hs:jnS i):PE X (.Subscript o i pos) (jgN td ty):=by
 intro pins s σ H Q I h;refine jgM PySem.F.slot_dict_getitem.lookup hs (thn (ho pins s σ H _ I h) fun u s1 ⟨x,H1,I1,rx,q1⟩=>thn (hi pins s1 σ H1 _ I1 q1) fun iv s2 ⟨y,H2,I2,ry,a,v,ex,g,q2⟩=>?_);subst ex;obtain rfl:u=Value.ref a:=rx;exact⟨jct I2 g,jgK hu I2 g ry fun w' s3 I3 rw'=>⟨v,H2,I3,rw',q2⟩⟩
def jgO (hu:X.A.units+2<cLine) (ho:PE X o td) (hi:PE X i ty) (hv:PE X value tv) (hs:swapsWith value (some (.Subscript o i pos')) pos.line X.env=pure false) :
  PS X (.Assign [.Subscript o i pos'] value pos) (jkR td ty tv):=by
 intro pins s σ H D I h;refine wpAny_Assign_Subscript (thn (hv pins s σ H _ I h) fun r s1 ⟨v,H1,I1,rv,q1⟩=>thn (ho pins s1 σ H1 _ I1 q1) fun u s2 ⟨x,H2,I2,rx,q2⟩=>thn (hi pins s2 σ H2 _ I2 q2) fun iv s3 ⟨y,H3,I3,ry,a,H4,ex,g,q3⟩=>?_) hs;subst ex;obtain rfl:u=Value.ref a:=rx;exact jgL hu I3 g ry rv fun s4 I4=>⟨σ,H4,I4,q3⟩
end
def jiB (h:Heap) (hb:sysModules<h.objs.size):ObjOk P w H (h.push { cls:=.type "dict",data:=.dict #[] }) h.objs.size (.dK []):=
 ⟨wa _,beq_eq_false_iff_ne.mpr (Ne.symm (XO hb)),[],.nil,Heap.DictOf.new h⟩
def jdW (h:Heap) (hb:sysModules<h.objs.size):ObjOk P w H (h.push { cls:=.type "dict",data:=.dict #[] }) h.objs.size (.dT fl []):=
 ⟨wa _,beq_eq_false_iff_ne.mpr (Ne.symm (XO hb)),[],.nil,_,#[],0,Xi _ rfl,⟨rfl,rfl,rfl⟩,rfl,rfl,List.nodup_nil⟩
def jjL:TE:=fun _ H Q=>∀ p,H p=none->Q (.ref p) (upd H p (.dK []))
def jjM (fl:Bool):TE:=fun _ H Q=>∀ p,H p=none->Q (.ref p) (upd H p (.dT fl []))
section
def jiC:PE X (.Dict [] [] pos) jjL:=fun pins s σ H Q I h=>
 wpAny_Dict_empty ⟨.ref s.heap.objs.size,_,I.laid (a:=s.heap.objs.size) (o:=.dK []) (t':=s.toks) (fun _ _ q=>Xd _ q) (Xe _) (jiB s.heap I.big),rfl,h _ (I.hok.fresh (Xe _))⟩
def jiD:PE X (.Dict [] [] pos) (jjM fl):=fun pins s σ H Q I h=>
 wpAny_Dict_empty ⟨.ref s.heap.objs.size,_,I.laid (a:=s.heap.objs.size) (o:=.dT fl []) (t':=s.toks) (fun _ _ q=>Xd _ q) (Xe _) (jdW s.heap I.big),rfl,h _ (I.hok.fresh (Xe _))⟩
end
structure M2 (X:Cx) (o:Expr) (m:Str) (apos:Pos) (e f:Expr) (cpos:Pos):Prop where
 base:attributeBase o m X.env (eval o X.env)=eval o X.env
 few:((backTo cpos (starEach [e,f] X.env)).all (fun x=>!x.1)&&(backToKw cpos (keywordEach [] X.env)).all (fun x=>x.1.isSome)
 &&decide (([e,f]:List Expr).length+([]:List Keyword).length+(if ([]:List Keyword).isEmpty then 0 else 1)<30))=true
 line:(apos.endLine==cpos.line)=true
 trees:backTo cpos (starEach [e,f] X.env)=[(false,eval e X.env),(false,eval f X.env)]
def IsD (H:Hp) (a:Addr):Prop:=(∃ kvs,Rd H a (.dK kvs)) \/ ∃ fl kvs,Rd H a (.dT fl kvs)
def jjN (I:Inv X pins σ H s) (d:IsD H a) :
  s.TypeIs (.ref a) "dict"/\(∀ b,Value.ref a=.ref b->∃ ob,s.heap.get? b=some ob/\ob.dict=none)/\(a==sysModules)=false:=by
 rcases d with⟨kvs,e⟩ | ⟨fl,kvs,e⟩
 ·obtain⟨_,hd,vs,_,dd⟩:=jgH I.hok e;refine⟨dd.typeIs,fun b q=>?_,hd⟩;cases q;obtain⟨ob,_,_,h1,h2,_⟩:=dd;exact⟨ob,h1,h2.2.1⟩
 ·obtain⟨_,hd,xs,_,dd⟩:=jgJ I.hok e;refine⟨dd.typeIs,fun b q=>?_,hd⟩;cases q;obtain⟨ob,_,_,h1,h2,_⟩:=dd;exact⟨ob,h1,h2.2.1⟩
section
variable {y d:V}{r:Value}{o:Option V} 
def jmH (hu:A.units+2<cLine) (I:Inv X pins σ H s) (g:DGet H a y o) (ry:RelV y u) (rd:RelV d r) (h:∀ w' s',Inv X pins σ H s'->RelV (o.getD d) w'->Q w' s') :
  wpAny (model X.prog X.w) A (call (.builtin "dict.get") [.ref a,u,r]) Q E s:=by
 rcases g with⟨kvs,k,e,ey,l⟩ | ⟨fl,kvs,k,b,e,ey,eb,l⟩
 ·subst ey;obtain⟨z,hd,vs,rel,dd⟩:=jgH I.hok e;refine call_meetsIn PySem.F.slot_dict_get dd.typeIs PySem.F.entry_dict_get (PySem.F.args_dict_get_3 _ _ _) (meets_dict_get_default (zM X.prog X.w) a (jgG ry) hd r) ⟨_,dd.mapOf,h _ _ (I.tok _) ?_⟩;rw[l];exact(rel.val k).getD rd
 ·subst ey;cases (show u=Value.ref b from ry);obtain⟨z,hd,xs,rel,dd⟩:=jgJ I.hok e;refine call_meetsIn PySem.F.slot_dict_get dd.typeIs PySem.F.entry_dict_get (PySem.F.args_dict_get_3 _ _ _) (meetsH_dict_get_default (kdT fl X.prog X.w) a b hd r) ⟨Ze hu,k,xs,ja8 I.hok eb,dd,h _ _ (I.tok _) ?_⟩;rw[l];exact(rel.val k).getD rd
end
def jgP (td ty tx:TE):TE:=fun σ H Q=>td σ H fun x H1=>∃ a,x=.ref a/\IsD H1 a/\ty σ H1 fun y H2=>tx σ H2 fun z H3=>∃ o,DGet H3 a y o/\Q (o.getD z) H3
section
variable {o f:Expr}{tx:TE}
def jiE (hu:X.A.units+2<cLine) (ho:PE X o td) (he:PE X e ty) (hf:PE X f tx) (m:M2 X o "get" apos e f cpos):PE X (.Call (.Attribute o "get" apos) [e,f] [] cpos) (jgP td ty tx):=by
 intro pins s σ H Q I h;refine wpAny_Call_method m.base m.few m.line PySem.F.plainAttrs_dict PySem.F.slot_dict_get PySem.F.type_dict_get (thn (ho pins s σ H _ I h) fun u s1 ⟨x,H1,I1,rx,a,ex,d,q1⟩=>?_);subst ex;obtain rfl:u=Value.ref a:=rx;obtain⟨t1,t2,_⟩:=jjN I1 d;refine⟨t1,t2,?_⟩;rw[m.trees];refine Calls.callWith_builtin rfl (Calls.evalArgs_plain (Calls.spliced_cons (thn (he pins s1 σ H1 _ I1 q1) fun iv s2 ⟨y,H2,I2,ry,q2⟩=>
  Calls.spliced_cons (thn (hf pins s2 σ H2 _ I2 q2) fun fv s3 ⟨z,H3,I3,rz,ov,g,q3⟩=>Calls.spliced_nil ?_))))
 exact jmH hu I3 g ry rz fun w' s4 I4 rw'=>⟨_,H3,I4,rw',q3⟩
end
end L2
namespace L3
open PySem PySem.Spec L2
def hu1 {m:Nat} (h:n+200<m):n+2<m:=by omega
section
variable [DecidableEq κ]
def jmI (l:List (κ×α)) (k:κ) (v:α):List (κ×α):=
 bif l.any (fun p=>decide (p.1=k)) then l.map (fun p=>bif decide (p.1=k) then (p.1,v) else p) else l++[(k,v)]
def ja9 (l:List (κ×α)) (k:κ):Option α:=(l.find? fun p=>decide (p.1=k)).map (·.2)
@[irreducible] def WV (l:List (κ×α)) (k:κ):Option α:=ja9 l k
@[irreducible] def jkS (l:List (κ×α)) (k:κ) (v:α):Option (List (κ×α)):=if l.length<16777216 then some (jmI l k v) else none
end
class Kk (κ:Type) where
 k:κ->Key
 inj:∀ {a b},k a=k b->a=b
 cd:Cd κ
 rep:∀ {K F a v},cd.rep K F a v->v=kV (k a)
instance:Kk Int:=⟨fun i=>.inl i,fun h=>Sum.inl.inj h,cI,fun h=>h⟩
instance:Kk Str:=⟨fun i=>.inr i,fun h=>Sum.inr.inj h,cS,fun h=>h⟩
section
variable [DecidableEq κ] [Kk κ] {F:Hp}{t:TE}{p:Pm α}{rs:Rs γ} 
def KvR (K:W.Frag) (F:Hp) (c:Cd α) (p:κ×α) (q:Key×V):Prop:=q.1=Kk.k p.1/\c.rep K F p.2 q.2
def KvR.mono {F:Hp}{p:κ×α}{q:Key×V} (s:Same F F') (h:KvR K F c p q):KvR K F' c p q:=⟨h.1,c.mono s h.2⟩
def jkT {a b:κ}:decide (Kk.k a=(Kk.k b:Key))=decide (a=b):=by
 by_cases h:a=b
 ·subst h; simp
 ·rw[Xk h,Xk fun e=>h (Kk.inj e)]
def jjO {F:Hp}{k:κ}:∀ {l:List (κ×α)}{kvs:List (Key×V)},Paired (KvR K F c) l kvs->(ja9 l k=none/\WU kvs (Kk.k k)=none) \/ ∃ x v,ja9 l k=some x/\WU kvs (Kk.k k)=some v/\c.rep K F x v
 | _,_,.nil=>.inl ⟨rfl,rfl⟩
 | p::l,q::kvs,.cons ⟨r1,r2⟩ s=>by
  by_cases h:p.1=k
  ·right
   refine⟨p.2,q.2,?_,Uu (by rw[r1,h]),r2⟩;unfold ja9;rw[X1,Xy h];rfl
  ·have e1:ja9 (p::l) k=ja9 l k:=by
    unfold ja9;rw[X1,Xk h]
   have e2:WU (q::kvs) (Kk.k k)=WU kvs (Kk.k k):=Uv (by rw[r1]; exact fun e=>h (Kk.inj e));rw[e1,e2];exact jjO s
def jjP {F:Hp}{k:κ}:∀ {l:List (κ×α)}{kvs:List (Key×V)},Paired (KvR K F c) l kvs->(kvs.any fun kv=>decide (kv.1=Kk.k k))=l.any fun p=>decide (p.1=k)
 | _,_,.nil=>rfl
 | p::l,q::kvs,.cons ⟨r1,r2⟩ s=>by
  rw[List.any_cons,List.any_cons,jjP s,r1,jkT]
def jjQ {F:Hp}{k:κ}{x:α} (r:c.rep K F x v):∀ {l:List (κ×α)}{kvs:List (Key×V)},Paired (KvR K F c) l kvs ->
  Paired (KvR K F c) (l.map fun p=>bif decide (p.1=k) then (p.1,x) else p) (kvs.map fun kv=>if kv.1=Kk.k k then (kv.1,v) else kv)
 | _,_,.nil=>.nil
 | p::l,q::kvs,.cons ⟨r1,r2⟩ s=>by
  rw[Xp,Xp];refine .cons ?_ (jjQ r s);by_cases h:p.1=k
  ·rw[Xy h,wc,if_pos (by rw[r1,h])];exact⟨r1,r⟩
  ·rw[Xk h,X7,if_neg (by rw[r1]; exact fun e=>h (Kk.inj e))];exact⟨r1,r2⟩
def jmJ {F:Hp}{k:κ}{x:α}{l:List (κ×α)}{kvs:List (Key×V)} (r:c.rep K F x v) (s:Paired (KvR K F c) l kvs):Paired (KvR K F c) (jmI l k x) (jbS kvs (Kk.k k) v):=by
 unfold jmI jbS;rw[jjP s];cases l.any fun p=>decide (p.1=k) with
 | true=>rw[wc,if_pos rfl]; exact jjQ r s
 | false=>rw[X7,if_neg (by decide)]; exact Paired.app s (.cons ⟨rfl,r⟩ .nil)
def pD (c:Cd α):Pm (List (κ×α)):=⟨fun K F H l v=>∃ a kvs,v=.ref a/\H a=some (.dK kvs)/\Paired (KvR K F c) l kvs,
 fun e ⟨a,xs,h1,h2,h3⟩=>⟨a,xs,h1,e.h _ _ h2,Paired.mapP h3 fun _ _=>KvR.mono e.f⟩⟩
def rD (c:Cd α):Rs (List (κ×α)):=⟨fun K H F2 H2 l v=>∃ a kvs,v=.ref a/\H a=none/\F2 a=none/\H2 a=some (.dK kvs)/\Paired (KvR K F2 c) l kvs,
 fun s ⟨a,xs,h1,h2,h⟩=>⟨a,xs,h1,s.free h2,h⟩⟩
structure OwnD (K:W.Frag) (He F H:Hp) (c:Cd α) (l:List (κ×α)) (a:Addr):Prop where
 e:He a=none
 f:F a=none
 h:∃ kvs,H a=some (.dK kvs)/\Paired (KvR K F c) l kvs
def OwnD.mono {l:List (κ×α)} (o:OwnD K He F H c l a) (E:Ext F H F' H'):OwnD K He F' H' c l a:=by
 obtain⟨xs,h1,h2⟩:=o.h;refine⟨o.e,?_,xs,E.h _ _ h1,Paired.mapP h2 fun _ _=>KvR.mono E.f⟩;cases e:F' a with
 | none=>rfl
 | some u=>
  rcases E.new a u e with z | z
  ·rw[o.f] at z; cases z
  ·rw[h1] at z; cases z
def OwnD.b {l:List (κ×α)} (o:OwnD K He F H c l a):(pD c).rel K F H l (.ref a):=let ⟨xs,h1,h2⟩:=o.h; ⟨a,xs,rfl,h1,h2⟩
def OwnD.chg {l:List (κ×α)}{b:Addr} (o:OwnD K He F H c l b) (C:Chg a F H F' H') (hne:b≠a):OwnD K He F' H' c l b:=by
 obtain⟨xs,h1,h2⟩:=o.h;refine⟨o.e,?_,xs,C.h _ _ hne h1,Paired.mapP h2 fun _ _=>KvR.mono C.f⟩;cases e:F' b with
 | none=>rfl
 | some u=>
  rcases C.new b u hne e with z | z
  ·rw[o.f] at z; cases z
  ·rw[h1] at z; cases z
def OwnD.ne {l:List (κ×α)}{b:Addr}{F0 H0:Hp} (o:OwnD K He F0 H0 c l b) (h:H0 a=none):b≠a:=by
 obtain⟨xs,h1,_⟩:=o.h;exact yp h1 h
def jkU:Ev K σ F H jjL (rD (κ:=κ) c) (some []):=by
 intro F1 H1 E z e Q k a ha;cases e;exact k _ F1 _ (Ext.newO E.sub ha) ⟨a,[],rfl,ha,E.sub.free ha,j_,.nil⟩
def Uw {mm_:Option α} (hd:Ev K σ F H td (pD c).rs ml) (hk:Ev K σ F H ty (rF Kk.cd) mk) (e_:mm_=(ml.bind fun l=>mk.bind fun k=>WV l k)):Ev K σ F H (jgN td ty) (rF c) mm_:=by
 subst e_;intro F1 H1 E z e Q k;obtain⟨l,el,e⟩:=bind_some e;obtain⟨y,ey,e⟩:=bind_some e;unfold WV at e;refine hd F1 H1 E l el _ ?_;rintro w F2 H2 E2 hl;refine hk F2 H2 (E.trans E2) y ey _ fun v F3 H3 E3 hv=>?_;obtain⟨a,kvs,rfl,h1,h2⟩:=(pD c).mono E3 hl;have ev:v=kV (Kk.k y):=Kk.rep hv;subst ev;rcases jjO (k:=y) h2 with⟨g1,g2⟩ | ⟨x,v,g1,g2,r⟩
 ·rw[g1] at e; cases e
 ·rw[g1] at e;cases e;refine⟨a,v,rfl,?_,k v F3 H3 (E2.trans E3) r⟩;rw[<- g2];exact DGet.k h1
def Wb {y:κ}{l:List (κ×α)}{mm_:Option α} (hd:Ev K σ F H td (pD c).rs (some l)) (hk:Ev K σ F H ty (rF Kk.cd) (some y)) (e_:mm_=WV l y):Ev K σ F H (jgN td ty) (rF c) mm_:=Uw hd hk e_
def jkV {m:Option (List (κ×α))}{f:List (κ×α)->Option δ}{r:δ} (he:Ev K σ F H te (rD c) m) (X:Ext Fe He F H) (hm:m.bind f=some r) (k:∀ l a F' H',f l=some r->Ext F H F' H'->Ext Fe He F' H'->H a=none->OwnD K He F' H' c l a->D.nx (σ.set i (some (.ref a))) H'):VQ te (ql i) D σ H:=by
 obtain⟨a,ea,hm⟩:=bind_some hm;refine he F H (Ext.refl X.sub) a ea _ ?_;rintro v F2 H2 E ⟨b,xs,rfl,h1,h2,h3,h4⟩;exact k a b F2 H2 hm E (X.trans E) h1 ⟨X.h.free h1,h2,xs,h3,h4⟩
def jjR {m:Option (List (κ×α))}{f:List (κ×α)->Option δ}{r:δ} (he:Ev K σ F H te (rD c) m) (X:Ext Fe He F H) (hm:m.bind f=some r) (k:∀ l a F' H',f l=some r->Ext F H F' H'->Ext Fe He F' H'->H a=none->OwnD K He F' H' c l a->u' D (σ.set i (some (.ref a))) H'):Ul (VQ te (ql i)) u' D σ H:=
 jkV (D:={ D with nx:=u' D }) he X hm k
def jiF {l:List (κ×α)}{xs:List (Key×V)} (X:Ext Fe He F H) (he:He a=none) (hf:F a=none) (h:Paired (KvR K F c) l xs):Ext Fe He F (upd H a (.dK xs))/\OwnD K He F (upd H a (.dK xs)) c l a:=
 ⟨X.upd he hf,he,hf,xs,j_,h⟩
def jkW {l:List (κ×α)}{f:List (κ×α)->Option δ}{r:δ} (hi:σ[k']?=some (some (.ref a))) (o:OwnD K He F H c l a) (hv:Ev K σ F H tv (rF c) mv) (hk:Ev K σ F H ty (rF Kk.cd) mk) (X:Ext Fe He F H) (hm:(mv.bind fun v=>mk.bind fun k=>jkS l k v).bind f=some r)
  (k:∀ l' F' H',f l'=some r->Chg a F H F' H'->Ext Fe He F' H'->OwnD K He F' H' c l' a->D.nx σ H'):jkR (JJ k') ty tv D σ H:=by
 obtain⟨l',el,hm⟩:=bind_some hm;obtain⟨x,ex,el⟩:=bind_some el;obtain⟨y,ey,el⟩:=bind_some el;unfold jkS at el;obtain⟨hl,rfl⟩:=jV el;refine hv F H (Ext.refl X.sub) x ex _ fun v F2 H2 E hvv=>⟨_,hi,hk F2 H2 E y ey _ fun w F3 H3 E3 hw=>?_⟩;have ew:w=kV (Kk.k y):=Kk.rep hw;subst ew;have E':=E.trans E3;have o2:=o.mono E';obtain⟨kvs,h1,h2⟩:=o2.h;obtain⟨X',o'⟩:=jiF (K:=K) (c:=c) (X.trans E') o.e o2.f (jmJ (k:=y) (c.mono E3.f hvv) h2);exact⟨a,_,rfl,DPut.k h1 (by rw[Xx,<- h2.length]; exact hl),k _ F3 _ hm (UW E') X' o'⟩
end
end L3
namespace L2
open PySem PySem.Spec PyProof.Rows
section
def jcu (K:W.Frag):V->List V->Hp->VK->Prop:=fun x vs H Q=>∃ (α:Type) (c:Cod α) (a:α) (l:List α) (p:Addr) (xs:List V) (y:V) (j:Nat),c.dp<=100/\x=.ref p/\vs=[y]/\c.rep K H a y/\H p=some (.lst xs)/\Paired (c.rep K H) l xs /\
 l[j]?=some a/\(∀ i b,i<j->l[i]?=some b->b≠a)/\Q (.int j) H
open Classical in
def jgQ (hu:X.A.units+200<cLine):MtM X "list.index" (jcu X.K):=by
 intro pins s σ H x vs v us Q I rx rv h;obtain⟨α,c,a,l,p,xs,y,j,hn,rfl,rfl,ra,hH,pr,hj,hb,q⟩:=h;cases rx;obtain⟨u,rfl,ru⟩:=rv.one;obtain⟨z,its,n,r,hl,e⟩:=I.lstM hH;have hz:=Xx;have hp:=pr.length;have hx:=r.length;have hjn:j<l.length:=(List.getElem?_eq_some_iff.mp hj).1;have at_:∀ i (hi:i<its.length),∃ b z,l[i]?=some b/\c.rep X.K H b z/\RelV z its[i]:=fun i hi=>by
  have h1:i<l.length:=by omega
  obtain⟨z,ez,rz⟩:=L3.Paired.at pr (Xc h1);obtain⟨w,ew,rw_⟩:=r.get ez;rw[Xc hi] at ew;cases ew;exact⟨l[i],z,Xc h1,rz,rw_⟩
 have hk:=(jb0 (X:=X) (l:=l) (us:=its) (k:=decide (a∈l)) hu I hn ra ru pr r (by simp)).1;refine call_meets F.slot_list_index ⟨_,e,rfl⟩ F.entry_list_index (F.args_list_index_2 _ _)
  (SeqAt.list_indexAt p its.toArray n none #[] u (fun w=>decide (∃ z,RelV z w/\c.rep X.K H a z)) j (by rw[Xg]; omega) (by omega) ?_ (fun i hi hlt=>?_)) ⟨e,hk,⟨.int j,H,I.tok _,⟨_,rfl⟩,q⟩⟩
 ·obtain⟨b,z,eb,rb,rz⟩:=at_ j (by omega);rw[hj] at eb;cases eb;simp only[List.getElem_toArray,Xu];exact⟨z,rz,rb⟩
 ·have hi':i<its.length:=by simpa using hi
  obtain⟨b,z,eb,rb,rz⟩:=at_ i hi';simp only[List.getElem_toArray,decide_eq_false_iff_not];rintro⟨z',rz',rb'⟩;have:z'=z:=rz'.inj rz;subst this;exact hb i b hlt eb (c.inj I rb rb')
end
end L2
namespace L3
open PySem PySem.Spec L2
section
variable {F:Hp}{t:TE} 
@[irreducible] def jcv [DecidableEq α] (l:List α) (k:α):Option Int:=(l.findIdx? fun x=>decide (x=k)).map fun j=>((j:Nat):Int)
def jeP [DecidableEq α] {k:α} (h:jcv l k=some z):∃ j:Nat,z=(j:Int)/\l[j]?=some k/\∀ i a,i<j->l[i]?=some a->a≠k:=by
 unfold jcv at h;cases e:l.findIdx? (fun x=>decide (x=k)) with
 | none=>rw[e] at h; cases h
 | some j=>
  rw[e] at h;cases h;obtain⟨hj,h1,h2⟩:=List.findIdx?_eq_some_iff_getElem.mp e;refine⟨j,rfl,?_,fun i a hi ha=>?_⟩
  ·rw[Xc hj];exact congrArg some (of_decide_eq_true h1)
  ·obtain⟨hi',rfl⟩:=List.getElem?_eq_some_iff.mp ha;have:=h2 i hi;simpa using this
def jcw [DecidableEq α] {mm_:Option Int}{mk:Option α} (hc:EqC n c) (hn:n<=100) (h:Ev K σ F H t (pB c).rs m) (hk:Ev K σ F H ta (rF c) mk) (e':mm_=(m.bind fun l=>mk.bind fun k=>jcv l k)):Ev K σ F H (tBM K "list" (jcu K) t (jJ ta xq)) (rF cI) mm_:=by
 subst e';intro F1 H1 E z e Q k;obtain⟨l,el,e⟩:=bind_some e;obtain⟨y,ey,e⟩:=bind_some e;obtain⟨x,rfl,hx,hb⟩:=jeP e;refine h F1 H1 E l el _ ?_;rintro v F2 H2 E2 ⟨a,xs,rfl,h1,h2⟩;refine⟨.inl ⟨rfl,_,SqL.of h1⟩,hk F2 H2 (E.trans E2) y ey _ fun w F3 H3 E3 hw=>?_⟩;have s3:Same F3 H3:=E3.sub;exact⟨α,c.cod hc,y,l,a,xs,w,x,hn,rfl,rfl,c.mono s3 hw,E3.h _ _ h1,Paired.mapP h2 fun _ _ hh=>c.mono (E3.f.trans s3) hh,hx,hb,k _ F3 H3 (E2.trans E3) rfl⟩
def Zf [DecidableEq α] {mm_:Option Int}{y:α} (hc:EqC n c) (hn:n<=100) (h:Ev K σ F H t (pB c).rs (some l)) (hk:Ev K σ F H ta (rF c) (some y)) (e':mm_=jcv l y):Ev K σ F H (tBM K "list" (jcu K) t (jJ ta xq)) (rF cI) mm_:=jcw hc hn h hk e'
end
section
@[irreducible] def jmK (l:List α) (k:Int):Option (List α):=if (-(2 ^ 63)<=k/\k<2 ^ 63)/\l.length * k.toNat<=16777216 then some (List.replicate k.toNat l).flatten else none
def Paired.rep {xs:List β} (h:Paired R l xs):∀ k:Nat,Paired R (List.replicate k l).flatten (List.replicate k xs).flatten
 | 0=>.nil
 | k+1=>by
  rw[List.replicate_succ,List.replicate_succ,List.flatten_cons,List.flatten_cons];exact Paired.app h (Paired.rep h k)
def jkX:Op2 K jop (pB c) (pF cI) (rO c) jmK:=by
 intro F H l m x y s hx hy z hz Q k;obtain⟨a,xs,rfl,h1,h2⟩:=hx;have ey:y=.int m:=hy;subst ey;unfold jmK at hz;obtain⟨⟨hc,hl⟩,rfl⟩:=jV hz;rw[h2.length] at hl;exact⟨a,m,xs,rfl,rfl,h1,hc.1,hc.2,by rw[Xx]; exact hl,fun p hp=>yO s (Paired.rep h2 _) k p hp⟩
end
end L3
namespace L2
open PySem PySem.Spec PyProof.Rows
structure FunD (K:W.Frag) (x qual:Str) (st:Stmt) (f:Addr) (fd:FuncData):Prop where
 ex:∃ (oc:Value) (od:Option Addr) (dV kV doc pm:Value) (an:Option Addr) (cdv ct:Value) (osl:Array (Option Value)),
  fd=W.fnOf x qual (yl st) (xf st) (jh st) dV kV doc pm an cdv ct/\K.lookup f=some ⟨oc,od,.func fd,osl⟩/\W.codeIn K cdv qual=true
 kp:W.keepIn K (.ref f)=true
section
def FunD.ok {f:Addr}{k:Nat} (F:FunD K x qual st f fd) (S:FnScope N ps (jh st)) (len:∀ vs H Q E,sp vs H Q E->vs.length=ps.length)
  (hbody:∀ (cdv:Value) (A:Around) (outer:List Env) (s:Shared) (H:Hp) (vs:List V) (Q:VK) (E:XK),Room k (A.deeper (envOfC qual (jh st) s.heap.objs.size f cdv))->sp vs H Q E ->
   ∃ t,PSs (jfG CX0 P w K mg base N qual (jh st) f cdv A outer s H E).nox (xf st) t/\t { nx:=fun _ H'=>Q .non H',rt:=Q } (GV N vs) H):FnOk P w K mg base CX0 (k+1) f fd ps sp:=by
 obtain⟨oc,od,dV,kV,doc,pm,an,cdv,ct,osl,rfl,lk,hcd⟩:=F.ex;refine jl7 lk hcd S len fun A outer s H vs Q E hr hsp=>?_;obtain⟨t,h,q⟩:=hbody cdv A outer s H vs Q E hr hsp;exact⟨t,h.nox,q⟩
def jkY {f:Addr}{dV kV ct:Value} (l:K.lookup f=some ⟨oc,od,.func (W.fnOf x qual (yl st) (xf st) (jh st) dV kV doc pm an cdv ct),osl⟩)
  (c:W.codeIn K cdv qual=true) (k:W.keepIn K (.ref f)=true):FunD K x qual st f (W.fnOf x qual (yl st) (xf st) (jh st) dV kV doc pm an cdv ct):=⟨⟨oc,od,dV,kV,doc,pm,an,cdv,ct,osl,rfl,l,c⟩,k⟩
def jkZ {T:Addr} (hd:fd.defaults=.ref T) (lT:K.lookup T=some o) (hs:o.data=.seq items n)
  (h:∀ us:List Value,us.length=ps.length->∃ k:Option (Array Value)->Sem (List (Str×Value)),bindArgs fd ⟨us,[]⟩=seqItems? fd.defaults >>= k/\k (some items)=pure (ps.zip us)):Binds K fd ps []:=fun s us KX hl=>by
 rw[List.append_nil] at hl ⊢;obtain⟨k,h1,h2⟩:=h us hl;exact .of_defaults hd (KX _ _ lT) hs h1 h2
end
def Itv (K:W.Frag) (a:Addr) (n:Nat):It:=
 ⟨fun i H=>∃ xs x,SqL K H a xs/\xs.length=n/\i<n/\xs[n-1-i]?=some x,fun i H x H'=>H'=H/\∀ xs,SqL K H a xs->xs[n-1-i]?=some x,fun i H=>n=i⟩
def jiG (a it:Addr) (n:Nat):Turn P w K tg (Itv K a n) [it] it (fun i h=>h.IsRevIter it a ((n:Int)-1-(i:Nat))) where
 mem:=by simp
 obj:=fun i h st b hb=>by
  have e:b=it:=by simpa using hb
  subst e;obtain⟨o,e,c,d⟩:=st;exact⟨o,e,fun v z=>by rw[d] at z; cases z⟩
 keep:=fun i h h' st k=>st.at fun o e=>k it (by simp) o e
 item:=by
  intro X hP hw hK hc i pins s σ H E I hf st hg;subst hP hw hK;obtain⟨xs,x,hq,hn,hi,hx⟩:=hg;obtain⟨its,rv,p,hz⟩:=I.list hq;obtain⟨u,hu,ru⟩:=rv.get hx;obtain⟨f0,f1,f2,f3,f4,f5⟩:=hf it (by simp);have e1:(n:Int)-1-(i:Nat)=((n-1-i:Nat):Int):=by omega
  rw[e1] at st;refine wpAny_pyNext_rev_item st p.isList (x:=u) (by simpa using hu) fun h' st' sb=>?_;have I1:Inv X pins σ H { s with heap:=h' }:=I.turned (t':=s.toks) (fun b o hb e=>(sb.2 b hb).trans e) f0 f1 f3 f4 f5
  have e2:((n-1-i:Nat):Int)-1=(n:Int)-1-((i+1:Nat):Int):=by omega
  rw[e2] at st';obtain⟨o,e,c,d⟩:=id st';exact⟨u,rfl,jaD (s:={ s with heap:=h' }) e c d (by decide) ⟨x,H,I1,ru,⟨rfl,fun ys hy=>by rw[I.list_inj hy hq]; exact hx⟩,st',fun b hb=>(hf b hb).1⟩⟩
 done:=by
  intro X hP hw hK hc i pins s σ H E I hf st hg;subst hP hw hK;have hg:n=i:=hg;obtain⟨f0,f1,f2,f3,f4,f5⟩:=hf it (by simp);have e1:(n:Int)-1-(i:Nat)=-1:=by omega
  rw[e1] at st;exact wpAny_pyNext_rev_end (I.ok.hd hc) st fun h' eb=>⟨rfl,I.turned (t':=s.toks) (fun b o hb e=>eb b o hb e) f0 f1 f3 f4 f5⟩
 self:=fun _ _ _ _ _ st h=>wpAny_pyIter_revIter st h
section
def jnT (K:W.Frag) (tl:TE):TI:=fun σ H R=>tl σ H fun x H1=>∃ a xs,x=.ref a/\SqL K H1 a xs/\R (Itv K a xs.length) H1
def jmL {a:Expr}{p:Pos} (hg:Gl X "reversed") (hm:X.mg "reversed"=none) (ha:PE X a te) (hs:starEach [a] X.env=[(false,eval a X.env)]:=by rfl):PI X tg (.Call (.Name "reversed" p) [a] [] pos) (jnT X.K te):=by
 intro pins s σ H R I h;refine Call_ (JM I hg hm boot_reversed (XA ?_ hs rfl));rw[hs];show wpAny _ _ (spliced ((false,eval a X.env)::[])) _ _ s;refine Calls.spliced_cons (thn (ha pins s σ H _ I h) fun u s1 ⟨v,H1,I1,r1,q1⟩=>Calls.spliced_nil ?_);obtain⟨l,xs,rfl,hq,q⟩:=q1;cases r1;obtain⟨its,rv,pl,hz⟩:=I1.list hq;have hlen:=rv.length;refine call_reversed_list pl.isList ?_;have hit:(s1.heap.push (revObj l ((its.toArray.size:Int)-1))).IsRevIter s1.heap.objs.size l ((its.toArray.size:Int)-1):=⟨_,Xi _ rfl,rfl,rfl⟩;refine wpAny_pyIter_revIter (s:={ s1 with heap:=s1.heap.push (revObj l ((its.toArray.size:Int)-1)) }) hit ?_
 refine⟨s1.heap.objs.size,[s1.heap.objs.size],_,_,H1,rfl,I1.kept (t':=s1.toks) fun b o e=>Xd _ e,jiG l _ xs.length,?_,fun b hb=>?_,q⟩
 ·have e:((its.toArray.size:Nat):Int)-1=(xs.length:Int)-1-((0:Nat):Int):=by rw[Xg,hlen]; omega
  rw[e] at hit;rw[e];exact hit
 ·have e:b=s1.heap.objs.size:=by simpa using hb
  subst e;exact I1.fpOk (Xe _) (I1.hok.fresh (Xe _))
end
end L2
namespace L3
open PySem PySem.Spec L2
section
variable {F:Hp}{t:TE} 
def jmM (h:∀ F H,G F H->SqL K H a xs/\Same F1 F/\Same F H) (hp:Paired (c.rep K F1) l xs):ItOk K (Itv K a xs.length) c l.reverse G where
 go:=fun i F H g hi=>by
  rw[List.length_reverse,hp.length] at hi;exact⟨xs,xs[xs.length-1-i]'(by omega),(h F H g).1,rfl,hi,Xc _⟩
 yld:=fun i F H x H' g y b hb=>by
  obtain⟨e,y⟩:=y;subst e;obtain⟨s1,s2,s3⟩:=h F _ g;have hi:i<l.length:=by
   have:=(List.getElem?_eq_some_iff.mp hb).1;simpa using this
  rw[List.getElem?_reverse hi] at hb;obtain⟨v,hv,r⟩:=Paired.at hp hb;have:=y xs s1;rw[<- hp.length,hv] at this;cases this;exact⟨F,Ext.refl s3,c.mono s2 r⟩
 stop:=fun F H g=>by rw[List.length_reverse]; exact hp.length.symm
def jmN (h:Ev K σ F H t (rF (cL c)) m):Ei K σ F H Fe He (jnT K t) c (m.bind fun l=>some l.reverse):=by
 intro X l e R k;obtain⟨l0,e0,e⟩:=bind_some e;cases e;refine h F H (Ext.refl X.sub) l0 e0 _ ?_;rintro v F2 H2 E ⟨a,xs,rfl,h1,h2⟩;exact⟨a,xs,rfl,SqL.of (E.sub _ _ h1),k _ F2 H2 E (jmM (F1:=F2) (fun F' H' g=>⟨SqL.of (g.1.sub _ _ (g.2 _ _ h1)),g.2,g.1.sub⟩) h2)⟩
def jiH (h:Ev K σ F H t (rF (cL c)) m) (e_:mm_=m.bind fun l=>some l.reverse):Ei K σ F H Fe He (jnT K t) c mm_:=e_ ▸ jmN h
end
end L3
namespace L2
open PySem PySem.Spec PyProof.Rows PySem.W
section
variable {cmp:Nat->Nat->(Bool->Shared->Prop)->Shared->Prop} 
def ja_ (cmp:Nat->Nat->(Bool->Shared->Prop)->Shared->Prop) (key:Nat->Int) (n:Nat) (s:Shared):Prop:=∀ i j (C:Bool->Shared->Prop),i<n->j<n->C (decide (key i<key j)) s->cmp i j C s
def KP (key:Nat->Int) (p:Array Nat) (i:Nat):Int:=key (p.getD i 0)
def Upw (key:Nat->Int) (p:Array Nat) (m:Nat):Prop:=∀ i j,i<=j->j<m->KP key p i<=KP key p j
def Dnw (key:Nat->Int) (p:Array Nat) (m:Nat):Prop:=∀ i j,i<=j->j<m->KP key p j<=KP key p i
def PmN (n:Nat) (p:Array Nat):Prop:=p.Perm (List.range n).toArray
def PmN.size (h:PmN n p):p.size=n:=by
 have:=Array.Perm.size_eq h;simpa using this
def PmN.lt (h:PmN n p) (hi:i<n):p.getD i 0<n:=by
 have hs:=h.size;have hi':i<p.size:=by omega
 have hm:p[i]∈(List.range n):=by
  have h':p.toList.Perm (List.range n):=by simpa using Array.perm_iff_toList_perm.mp h
  exact h'.mem_iff.mp (by simp)
 have e:p.getD i 0=p[i]:=by simp[Array.getD,hi']
 rw[e];exact List.mem_range.mp hm
def G0 {q:Array Nat}{j:Nat} (h:p[i]?=q[j]?):p.getD i 0=q.getD j 0:=by
 rw[Array.getD_eq_getD_getElem?,Array.getD_eq_getD_getElem?,h]
def PmN.rev (h:PmN n p) (i j:Nat):PmN n (kas_rev p i j):=(mirror_perm p i j _).trans h
def PmN.bub (h:PmN n p) (i j:Nat):PmN n (bubble p i j):=(bubble_perm p i j).trans h
def jba {j:Nat} (hj:j<=p.size) (k:Nat):KP key (kas_rev p i j) k=if i<=k/\k<j then KP key p (i+j-1-k) else KP key p k:=by
 have e:=getElem?_mirror_all (i:=i) hj k;unfold KP kas_rev;split at e <;> rename_i q
 ·rw[if_pos q,G0 e]
 ·rw[if_neg q,G0 e]
def jjS {k l:Nat} (hk:k<p.size) (hl:l<=k) (i:Nat):KP key (bubble p k (k-l)) i=if i=l then KP key p k else if l<i/\i<=k then KP key p (i-1) else KP key p i:=by
 have e:=getElem?_bubble hk (k-l) (by omega) i;rw[show k-(k-l)=l by omega] at e;unfold KP;split at e <;> rename_i q
 ·rw[if_pos q,G0 e]
 ·split at e <;> rename_i q2
  ·rw[if_neg q,if_pos q2,G0 e]
  ·rw[if_neg q,if_neg q2,G0 e]
def jgR (ha:ja_ cmp key n s) (hp:PmN n p) {Q:Nat->Shared->Prop}:∀ f a,1<=a->a+f<=n->Upw key p a ->
  (∀ m,a<=m->m<=a+f->Upw key p m->(m<a+f->KP key p m<KP key p (m-1))->Q m s)->(kas_asc p f a).kasWp cmp Q s
 | 0,a,h1,h2,hu,hq=>hq a (Xe _) (by omega) hu (fun h=>by omega)
 | f+1,a,h1,h2,hu,hq=>by
  refine ha _ _ _ (hp.lt (by omega)) (hp.lt (by omega)) ?_;by_cases h:key (p.getD a 0)<key (p.getD (a-1) 0)
  ·rw[Xy h]; dsimp only; rw[if_pos rfl];exact hq a (Xe _) (by omega) hu fun _=>h
  ·rw[Xk h]; dsimp only; rw[if_neg Xh];refine jgR ha hp f (a+1) (by omega) (by omega) (fun i j hij hj=>?_) fun m g1 g2 g3 g4=>hq m (by omega) (by omega) g3 (fun z=>g4 (by omega));by_cases hja:j=a
   ·subst hja;have h':KP key p (j-1)<=KP key p j:=by unfold KP; omega
    by_cases hi:i=j
    ·subst hi; exact Int.le_refl _
    ·exact Int.le_trans (hu i (j-1) (by omega) (by omega)) h'
   ·exact hu i j hij (by omega)
def EqL (key:Nat->Int) (p:Array Nat) (a q:Nat):Prop:=∀ k,a-(q+1)<=k->k<a->KP key p k=KP key p (a-1)
def jgS {a q:Nat} (ha:a<=p.size) (hq:q+1<=a) (h:EqL key p a q) (k:Nat):KP key (kas_rev p (a-(q+1)) a) k=KP key p k:=by
 rw[jba ha];split
 ·rename_i z
  rw[h k (by omega) (by omega),h _ (by omega) (by omega)]
 ·rfl
def jcx (hA:ja_ cmp key n s) {Q:Array Nat×Nat×Nat->Shared->Prop}:∀ f (p:Array Nat) a q,PmN n p->1<=a->a+f<=n->q+1<=a->Dnw key p a->EqL key p a q ->
  (∀ p' a' q',PmN n p'->a<=a'->a'<=a+f->q'+1<=a'->Dnw key p' a'->EqL key p' a' q'->Q (p',a',q') s)->(kas_desc f p a q).kasWp cmp Q s
 | 0,p,a,q,hp,h1,h2,h3,hd,he,hq=>hq p a q hp (Xe _) (by omega) h3 hd he
 | f+1,p,a,q,hp,h1,h2,h3,hd,he,hq=>by
  have hsz:=hp.size;have step:∀ p',PmN n p'->(∀ k,KP key p' k=KP key p k)->KP key p a<KP key p (a-1)->(kas_desc f p' (a+1) 0).kasWp cmp Q s:=by
   intro p' hp' hk hlt;refine jcx hA f p' (a+1) 0 hp' (by omega) (by omega) (by omega) (fun i j hij hj=>?_) (fun k k1 k2=>by rw[show k=a by omega]; rfl) fun p2 a2 q2 g1 g2 g3 g4 g5 g6=>hq p2 a2 q2 g1 (by omega) (by omega) g4 g5 g6;rw[hk,hk];by_cases hja:j=a
   ·subst hja;by_cases hi:i=j
    ·subst hi; exact Int.le_refl _
    ·exact Int.le_trans (Int.le_of_lt hlt) (hd i (j-1) (by omega) (by omega))
   ·exact hd i j hij (by omega)
  refine hA _ _ _ (hp.lt (by omega)) (hp.lt (by omega)) ?_;by_cases h:key (p.getD a 0)<key (p.getD (a-1) 0)
  ·rw[Xy h]; dsimp only; rw[if_pos rfl];split
   ·exact step _ (hp.rev _ _) (jgS (by omega) h3 he) h
   ·exact step p hp (fun _=>rfl) h
  ·rw[Xk h]; dsimp only; rw[if_neg Xh];refine hA _ _ _ (hp.lt (by omega)) (hp.lt (by omega)) ?_;by_cases h':key (p.getD (a-1) 0)<key (p.getD a 0)
   ·rw[Xy h']; dsimp only; rw[if_pos rfl];exact hq p a q hp (Xe _) (by omega) h3 hd he
   ·rw[Xk h']; dsimp only; rw[if_neg Xh];have heq:KP key p a=KP key p (a-1):=by unfold KP; omega
    refine jcx hA f p (a+1) (q+1) hp (by omega) (by omega) (by omega) (fun i j hij hj=>?_) (fun k k1 k2=>?_) fun p2 a2 q2 g1 g2 g3 g4 g5 g6=>hq p2 a2 q2 g1 (by omega) (by omega) g4 g5 g6
    ·by_cases hja:j=a
     ·subst hja;by_cases hi:i=j
      ·subst hi; exact Int.le_refl _
      ·rw[heq]; exact hd i (j-1) (by omega) (by omega)
     ·exact hd i j hij (by omega)
    ·rw[Nat.add_sub_cancel];by_cases hka:k=a
     ·rw[hka]
     ·rw[heq]; exact he k (by omega) (by omega)
def jdX (hA:ja_ cmp key n s) {a:Nat} (hp:PmN n p) (h1:1<=a) (h2:a<=n) (hd:Dnw key p a) {Q:Nat×Array Nat->Shared->Prop}
  (hq:∀ m p',PmN n p'->a<=m->m<=n->Upw key p' m->Q (m,p') s):(kas_tail3 a n p).kasWp cmp Q s:=by
 have hsz:=hp.size;unfold kas_tail3;rw[KasT.kasWp_bind];refine jgR hA (hp.rev 0 a) _ a h1 (by omega) (fun i j hij hj=>?_) fun m g1 g2 g3 _=>hq m _ (hp.rev 0 a) g1 (by omega) g3;rw[jba (by omega),jba (by omega),if_pos (by omega),if_pos (by omega)];exact hd _ _ (by omega) (by omega)
def Wc (hA:ja_ cmp key n s) {a:Nat} (hp:PmN n p) (h1:1<=a) (h2:a+1<=n) (hd:Dnw key p (a+1)) {Q:Nat×Array Nat->Shared->Prop}
  (hq:∀ m p',PmN n p'->1<=m->m<=n->Upw key p' m->Q (m,p') s):(kas_descPart a n p).kasWp cmp Q s:=by
 unfold kas_descPart;rw[KasT.kasWp_bind];refine jcx hA _ p (a+1) 0 hp (by omega) (by omega) (by omega) hd (fun k k1 k2=>by rw[show k=a by omega]; rfl) fun p' a' q' g1 g2 g3 g4 g5 g6=>?_;have hsz:=g1.size;dsimp only;split
 ·refine jdX hA (g1.rev _ _) (by omega) (by omega) (fun i j hij hj=>?_) fun m p2 k1 k2 k3 k4=>hq m p2 k1 (by omega) k3 k4;rw[jgS (by omega) g4 g6,jgS (by omega) g4 g6];exact g5 i j hij hj
 ·exact jdX hA g1 (by omega) (by omega) g5 fun m p2 k1 k2 k3 k4=>hq m p2 k1 (by omega) k3 k4
def jiI (hA:ja_ cmp key n s) (hp:PmN n p) (h1:1<=n) {Q:Nat×Array Nat->Shared->Prop}
  (hq:∀ m p',PmN n p'->1<=m->m<=n->Upw key p' m->Q (m,p') s):(kas_count n p).kasWp cmp Q s:=by
 have hsz:=hp.size;unfold kas_count;rw[KasT.kasWp_bind];refine jgR hA hp _ 1 (Xe _) (by omega) (fun i j hij hj=>by rw[show i=j by omega]; exact Int.le_refl _) fun m g1 g2 g3 g4=>?_
 (try dsimp only)
 split
 ·exact hq m p hp g1 (by omega) g3
 ·rename_i hne
  have hmn:m≠n:=fun e=>hne (by simp[e]);have hlt:=g4 (by omega);split
  ·refine hA _ _ _ (hp.lt (by omega)) (hp.lt (by omega)) ?_;by_cases h:key (p.getD 0 0)<key (p.getD (m-1) 0)
   ·rw[Xy h]; dsimp only; rw[if_pos rfl];exact hq m p hp g1 (by omega) g3
   ·rw[Xk h]; dsimp only; rw[if_neg Xh];have h0:KP key p (m-1)<=KP key p 0:=by unfold KP; omega
    have all:∀ k,k<m->KP key p k=KP key p (m-1):=fun k hk=>by
     have a1:=g3 0 k (by omega) hk;have a2:=g3 k (m-1) (by omega) (by omega);omega
    have all2:∀ k,k<m->KP key (kas_rev p 0 m) k=KP key p (m-1):=fun k hk=>by
     rw[jba (by omega),if_pos (by omega)];exact all _ (by omega)
    refine Wc hA (hp.rev 0 m) g1 (by omega) (fun i j hij hj=>?_) hq;by_cases hjm:j=m
    ·subst hjm;have ej:KP key (kas_rev p 0 j) j=KP key p j:=by rw[jba (by omega),if_neg (by omega)]
     by_cases hi:i=j
     ·subst hi; exact Int.le_refl _
     ·rw[ej,all2 i (by omega)]; omega
    ·rw[all2 i (by omega),all2 j (by omega)]; exact Int.le_refl _
  ·have hm1:m=1:=by omega
   subst hm1;refine Wc hA hp g1 (by omega) (fun i j hij hj=>?_) hq;by_cases hij':i=j
   ·subst hij'; exact Int.le_refl _
   ·rw[show j=1 by omega,show i=0 by omega];exact Int.le_of_lt hlt
def Zg (hA:ja_ cmp key n s) (hp:PmN n p) {k:Nat} (hk:k<n) (hu:Upw key p k) {Q:Nat->Shared->Prop}
  (hq:∀ l,l<=k->(∀ i,i<l->KP key p i<=KP key p k)->(∀ i,l<=i->i<k->KP key p k<=KP key p i)->Q l s):∀ f l r,l<=r->r<=k->r-l<=f->(∀ i,i<l->KP key p i<=KP key p k)->(∀ i,r<=i->i<k->KP key p k<=KP key p i)->(kas_place p k f l r).kasWp cmp Q s
 | 0,l,r,h1,h2,h3,hl,hr=>hq l (by omega) hl fun i hi=>hr i (by omega)
 | f+1,l,r,h1,h2,h3,hl,hr=>by
  unfold kas_place;by_cases h:l ≥ r
  ·rw[if_pos h];exact hq l (by omega) hl fun i hi=>hr i (by omega)
  ·rw[if_neg h];refine hA _ _ _ (hp.lt (by omega)) (hp.lt (by omega)) ?_;by_cases hc:key (p.getD k 0)<key (p.getD ((l+r) / 2) 0)
   ·rw[Xy hc]; dsimp only; rw[if_pos rfl];exact Zg hA hp hk hu hq f l _ (by omega) (by omega) (by omega) hl fun i hi hik=>Int.le_trans (Int.le_of_lt hc) (hu _ i hi hik)
   ·rw[Xk hc]; dsimp only; rw[if_neg Xh];have hc':KP key p ((l+r) / 2)<=KP key p k:=by unfold KP; omega
    exact Zg hA hp hk hu hq f _ r (by omega) (by omega) (by omega) (fun i hi=>Int.le_trans (hu i _ (by omega) (by omega)) hc') hr
def jjT (hA:ja_ cmp key n s) {Q:Array Nat->Shared->Prop} (hq:∀ p,PmN n p->Upw key p n->Q p s):∀ f (p:Array Nat) k,k+f=n->PmN n p->Upw key p k->(kas_bin f p k).kasWp cmp Q s
 | 0,p,k,h,hp,hu=>hq p hp (by rw[<- h]; exact hu)
 | f+1,p,k,h,hp,hu=>by
  have hsz:=hp.size;unfold kas_bin;rw[KasT.kasWp_bind];refine Zg hA hp (by omega) hu (fun l g1 g2 g3=>?_) k 0 k (by omega) (Xe _) (by omega) (fun i hi=>by omega) (fun i h1 h2=>by omega);refine jjT hA hq f _ (k+1) (by omega) (hp.bub _ _) fun i j hij hj=>?_;rw[jjS (by omega) g1,jjS (by omega) g1]
  repeat' split
  all_goals first
   | (exfalso; omega)
   | exact Int.le_refl _
   | exact g2 _ (by omega)
   | exact g3 _ (by omega) (by omega)
   | exact hu _ _ (by omega) (by omega)
def jk0 (hA:ja_ cmp key n s) (h1:1<=n) {Q:Array Nat->Shared->Prop} (hq:∀ p,PmN n p->Upw key p n->Q p s):(kas_sort n).kasWp cmp Q s:=by
 unfold kas_sort;rw[KasT.kasWp_bind];refine jiI hA (Array.Perm.refl _) h1 fun m p hp g1 g2 g3=>?_;dsimp only;split
 ·rename_i hlt
  rw[show max m 1=m by omega];exact jjT hA hq _ p m (by omega) hp g3
 ·rw[show m=n by omega] at g3;exact hq p hp g3
end
section
def PrV (h:Heap) (v:Value) (q:Int×Int):Prop:=∃ a o t u n,v=.ref a/\h.get? a=some o/\o.cls=.type "tuple"/\o.data=.seq #[.int q.1 t,.int q.2 u] n
def PrV.keeps {v:Value}{q:Int×Int} (x:PrV h v q) (k:∀ b o,h.get? b=some o->o.cls=.type "tuple"->h'.get? b=some o):PrV h' v q:=by
 obtain⟨a,o,t,u,n,rfl,e,hc,hd⟩:=x;exact⟨a,o,t,u,n,rfl,k a o e hc,hc,hd⟩
def jjU (p q:Int×Int):Bool:=if p.1=q.1 then decide (p.2<q.2) else decide (p.1<q.1)
def jgT {b:Bool}{x:Int}{t u:Tok}{Q:Bool->Shared->Prop} (h:Q (decide (x<y)) s):wpAny (model prog w) A (oneLt' b (.int x t) (.int y u)) Q E s:=by
 cases b with
 | true=>exact oneLt_int h
 | false=>exact kat_one _ _ (lt_int h)
def jiJ {b:Bool}{v v':Value}{q:Int×Int}{Q:Bool->Shared->Prop} (h1:PrV s.heap v q) (h2:PrV s.heap v' q') (h:Q (jjU q q') s):wpAny (model prog w) A (keyLt' (tuples' b) v v') Q E s:=by
 obtain⟨a,o,t,u,n,rfl,e,hc,hd⟩:=h1;obtain⟨a',o',t',u',n',rfl,e',hc',hd'⟩:=h2;unfold jjU at h;refine kat_lt e hd e' hd' (kat_cons (wpAny_eqBool_int ?_));by_cases g:q.1=q'.1
 ·rw[if_pos g] at h;rw[show (q.1==q'.1)=true by simpa using g];refine kat_yes (kat_cons (wpAny_eqBool_int ?_));by_cases g2:q.2=q'.2
  ·rw[show (q.2==q'.2)=true by simpa using g2];refine kat_yes (kat_nil ?_);rw[show decide (q.2<q'.2)=false by simp[g2]] at h;exact h
  ·rw[show (q.2==q'.2)=false by simpa using g2];exact kat_no (jgT h)
 ·rw[if_neg g] at h;rw[show (q.1==q'.1)=false by simpa using g];exact kat_no (jgT h)
def jjV {h:Heap}:∀ {vs:List Value}{ps:List (Int×Int)},vs.length=ps.length->(∀ (i:Nat) v q,vs[i]?=some v->ps[i]?=some q->PrV h v q)->∃ fs:List Value,KatTups h vs fs/\fs.length=vs.length/\∀ v∈fs,∃ i t,v=.int i t
 | [],[],_,_=>⟨[],KatTups.nil,rfl,fun _ h=>nomatch h⟩
 | v::vs,q::ps,hl,hp=>by
  obtain⟨fs,k,kl,ki⟩:=jjV (vs:=vs) (ps:=ps) (by simpa using hl) fun i v q e1 e2=>hp (i+1) v q e1 e2;obtain⟨a,o,t,u,n,rfl,e,hc,hd⟩:=hp 0 v q rfl rfl;refine⟨.int q.1 t::fs,KatTups.cons e hc hd rfl k,by simp[kl],fun z hz=>?_⟩;rcases List.mem_cons.mp hz with rfl | hz
  ·exact⟨_,_,rfl⟩
  ·exact ki z hz
def W1 (vs:List Value):(List.range vs.length).map (fun i=>vs.getD i Value.none)=vs:=by
 refine List.ext_getElem (by simp) fun i h1 h2=>?_;simp only[List.getElem_map,List.getElem_range,XZ,Xc h2,Option.getD_some]
def Wd {ps:List (Int×Int)}{P:PySem.Fin->Shared->Prop} (ho:s.heap.get? a=some (seqObj "list" vs.toArray n)) (hl:vs.length=ps.length)
  (hp:∀ (i:Nat) v q,vs[i]?=some v->ps[i]?=some q->PrV s.heap v q) (hk:∀ (i j:Nat) q q',ps[i]?=some q->ps[j]?=some q'->decide (key i<key j)=jjU q q') (h64:vs.length<64)
  (h:∀ p,PmN vs.length p->Upw key p vs.length->P (.done (.ret .none)) { s with heap:=sortedHeap s.heap a vs (p.toList.map fun i=>vs.getD i Value.none).toArray }) :
  wpAny (model prog w) A (Builtin.«list.sort» ⟨[.ref a],[]⟩) P E s:=by
 rw[list_sort_plain];have la:a<s.heap.objs.size:=Xl ho;refine Xa (listItems_at ho rfl (Xa (listUpdate_at ho rfl ?_ (by rw[Xg,Xx]; omega) (wa _))));obtain⟨e1,ho1⟩:∃ e1,(s.heap.update a (Obj.mapSeq fun _=>(#[]:Array Value))).get? a=some (seqObj "list" #[] e1):=⟨_,get?_update_seq ho fun _=>#[]⟩;refine Xa (seqEpoch_at ho1 rfl (Xa (wpAny_newTuple (Xa (wpAny_newList (X8 ?_) (wa _))) (by show vs.length<=_; rw[Xx]; omega))));have ho6:(((s.heap.update a (Obj.mapSeq fun _=>(#[]:Array Value))).push (seqObj "tuple" vs.toArray 0)).push (seqObj "list" #[] 0)).get? a=some (seqObj "list" #[] e1):=Xd _ (Xd _ ho1);show wpAny (model prog w) A _ P E { s with heap:=((s.heap.update a (Obj.mapSeq fun _=>(#[]:Array Value))).push (seqObj "tuple" vs.toArray 0)).push (seqObj "list" #[] 0) }
 dsimp only;have tp:∀ (i:Nat) v q,vs[i]?=some v->ps[i]?=some q->PrV (((s.heap.update a (Obj.mapSeq fun _=>(#[]:Array Value))).push (seqObj "tuple" vs.toArray 0)).push (seqObj "list" #[] 0)) v q:=fun i v q e e'=>(hp i v q e e').keeps fun b o eb hb=>by
  refine Xd _ (Xd _ ?_);rw[Heap.get?_update_ne _ _ _ _ ?_]
  ·exact eb
  ·rintro rfl;rw[ho] at eb;cases eb;exact absurd hb (by simp)
 have fin:∀ (st:SortSt) (out:Array Value) (p:Array Nat),(arrOf st).map (·.2)=out->failedOf st=none->PmN vs.length p->Upw key p vs.length->out=(p.toList.map fun i=>vs.getD i Value.none).toArray ->
   wpAny (model prog w) A (do
    let touched:=(<- seqEpoch a) != e1
    Builtin.List.listUpdate (.ref a) fun _=>(arrOf st).map (·.2)
    if let some e:=failedOf st then rule "list.sort.comparison-raised"; throw e
    if touched then rule "list.sort.modified"; raiseError "ValueError" "list modified during sort"
    ret .none) P E { s with heap:=((s.heap.update a (Obj.mapSeq fun _=>(#[]:Array Value))).push (seqObj "tuple" vs.toArray 0)).push (seqObj "list" #[] 0) }:=by
  intro st out p h1 h2 h3 h4 h5;rw[h1,h2];refine Xa (seqEpoch_at ho6 rfl (Xa (listUpdate_at ho6 rfl ?_ (wa _) ?_)))
  ·simp only[bne_self_eq_false,XF,XY];rw[h5];exact Xb (h p h3 h4)
  ·rw[h5,Xg,Xj,Xt,h3.size,Xx];omega
 by_cases h2:vs.toArray.size<2
 ·rw[if_pos h2,if_pos h2];refine Xa (Xb ?_);rw[StateT.run_pure];refine Xa (Xb ?_);refine fin (SortSt.mk' general' (vs.toArray.zip vs.toArray) #[] 7 none) vs.toArray (List.range vs.length).toArray ?_ rfl (Array.Perm.refl _) (fun i j hij hj=>?_) (by rw[W1])
  ·show (vs.toArray.zip vs.toArray).map (·.2)=vs.toArray;rw[List.zip_toArray,List.map_toArray,List.map_snd_zip (Xe _)]
  ·rw[Xg] at h2;rw[show i=j by omega];exact Int.le_refl _
 ·rw[if_neg h2,if_neg h2];rw[Xg] at h2;obtain⟨fs,kt,kl,ki⟩:=jjV hl tp;refine Xa (kat_kind (T:=.type "int") kt (by omega) (fun v hv=>?_) (by rfl) ?_)
  ·obtain⟨i,t,rfl⟩:=ki v hv;exact Looks.now
  refine Xa (wb (kat_run (ks:=vs) (Q:=fun st s'=>s'={ s with heap:=((s.heap.update a (Obj.mapSeq fun _=>(#[]:Array Value))).push (seqObj "tuple" vs.toArray 0)).push (seqObj "list" #[] 0) }/\failedOf st=none/\∃ p,(arrOf st).map (·.2)=(p.toList.map fun i=>vs.getD i Value.none).toArray/\PmN vs.length p/\Upw key p vs.length)
   (G:=fun p s'=>s'={ s with heap:=((s.heap.update a (Obj.mapSeq fun _=>(#[]:Array Value))).push (seqObj "tuple" vs.toArray 0)).push (seqObj "list" #[] 0) }/\PmN vs.length p/\Upw key p vs.length) rfl (by omega) h64 (fun p st s' a1 a2 a3 a4=>⟨a4.1,a3,p,kat_snds rfl a2,a4.2.1,a4.2.2⟩) ?_) ?_ fun _ _ e=>e)
  ·refine jk0 (key:=key) (fun i j C hi hj hc=>?_) (by omega) fun p g1 g2=>⟨rfl,g1,g2⟩;show kas_ask prog w A _ vs i j C _;unfold kas_ask;have ei:vs[i]?=some (vs.getD i Value.none):=by rw[XZ,Xc hi]; rfl
   have ej:vs[j]?=some (vs.getD j Value.none):=by rw[XZ,Xc hj]; rfl
   have qi:ps[i]?=some (ps[i]'(by omega)):=Xc _;have qj:ps[j]?=some (ps[j]'(by omega)):=Xc _;rw[hk i j _ _ qi qj] at hc;exact jiJ (tp i _ _ ei qi) (tp j _ _ ej qj) hc
  ·rintro⟨⟨⟩,st⟩ s' ⟨rfl,hf,p,hm,g1,g2⟩;exact fin st _ p hm hf g1 g2 rfl
end
section
def jdY {p q:Int×Int}:jjU p q=true ↔ p.1<q.1 \/ (p.1=q.1/\p.2<q.2):=by
 unfold jjU;by_cases h:p.1=q.1
 ·rw[if_pos h]; simp[h]
 ·rw[if_neg h];simp only[Xu];constructor
  ·exact fun z=>.inl z
  ·rintro (z | ⟨z,_⟩)
   ·exact z
   ·exact absurd z h
def leP (p q:Int×Int):Bool:=!jjU q p
def U1 {p q:Int×Int}:leP p q=true ↔ p.1<q.1 \/ (p.1=q.1/\p.2<=q.2):=by
 unfold leP;rw[Bool.not_eq_true',<- Bool.not_eq_true,jdY];omega
def jlN (l:List (Int×Int)):List (Int×Int):=l.mergeSort leP
def jgU (l:List (Int×Int)):(jlN l).Perm l:=List.mergeSort_perm l _
def jk1 (l:List (Int×Int)):(jlN l).Pairwise fun p q=>leP p q=true:=
 List.pairwise_mergeSort (fun a b c h1 h2=>by rw[U1] at *; omega) (fun a b=>by rw[Bool.or_eq_true,U1,U1]; omega) l
def jgV {l m:List (Int×Int)} (h:m.Perm l) (hs:m.Pairwise fun p q=>leP p q=true):m=jlN l:=
 List.Perm.eq_of_pairwise (le:=fun p q=>leP p q=true) (fun a b _ _ h1 h2=>by
  rw[U1] at h1 h2;exact Prod.ext (by omega) (by omega)) hs (jk1 l) (h.trans (jgU l).symm)
def bnd:List (Int×Int)->Nat
 | []=>0
 | q::l=>q.2.natAbs+bnd l
def jgW:∀ {l:List (Int×Int)}{q:Int×Int},q∈l->q.2.natAbs<=bnd l
 | a::l,q,h=>by
  unfold bnd;rcases List.mem_cons.mp h with rfl | h
  ·omega
  ·have:=jgW h; omega
def jjW (ps:List (Int×Int)) (i:Nat):Int:=(ps.getD i (0,0)).1 * (2 * (bnd ps:Int)+1)+(ps.getD i (0,0)).2
def jgX {ps:List (Int×Int)}{q:Int×Int} (h:ps[i]?=some q):jjW ps i=q.1 * (2 * (bnd ps:Int)+1)+q.2:=by
 unfold jjW;rw[XZ,h];rfl
def jcy {ps:List (Int×Int)}{j:Nat}{q:Int×Int} (h:ps[i]?=some q) (h':ps[j]?=some q'):jjW ps i<jjW ps j ↔ jjU q q'=true:=by
 rw[jgX h,jgX h',jdY];have b1:=jgW (List.mem_of_getElem? h);have b2:=jgW (List.mem_of_getElem? h');generalize (bnd ps)=B at *;have hM:(0:Int)<=2 * (B:Int)+1:=by omega
 rcases Int.lt_trichotomy q.1 q'.1 with g | g | g
 ·have:=Int.mul_le_mul_of_nonneg_right (show (1:Int)<=q'.1-q.1 by omega) hM;rw[Int.sub_mul] at this;constructor
  ·intro _; exact .inl g
  ·intro _; omega
 ·rw[g];constructor
  ·intro z; exact .inr ⟨rfl,by omega⟩
  ·rintro (z | ⟨_,z⟩) <;> omega
 ·have:=Int.mul_le_mul_of_nonneg_right (show (1:Int)<=q.1-q'.1 by omega) hM;rw[Int.sub_mul] at this;constructor
  ·intro z; omega
  ·rintro (z | ⟨z,_⟩) <;> omega
def jgY (r:Vals xs its):∀ ns:List Nat,(∀ i∈ns,i<xs.length)->Vals (ns.map fun i=>xs.getD i .non) (ns.map fun i=>its.getD i .none)
 | [],_=>.nil
 | i::ns,h=>by
  have hi:=h i Xo;obtain⟨u,eu,ru⟩:=r.get (Xc hi);refine .cons ?_ (jgY r ns fun j hj=>h j (Xn _ hj));show RelV (xs.getD i V.non) (its.getD i Value.none);rw[XZ,XZ,Xc hi,eu];exact ru
def jgZ {ps:List (Int×Int)} (h:xs.length=ps.length):(List.range ps.length).map (fun i=>(xs.getD i .non,ps.getD i (0,0)))=xs.zip ps:=by
 refine List.ext_getElem (by simp[h]) fun i h1 h2=>?_;have hp:i<ps.length:=by simpa using h1
 simp[h,hp]
end
section
def jbb {l:Addr}{ps:List (Int×Int)} (hl:s.heap.IsList l vs.toArray) (hn:vs.length=ps.length)
  (hp:∀ (i:Nat) v q,vs[i]?=some v->ps[i]?=some q->PrV s.heap v q) (h64:vs.length<64)
  (h:∀ p,PmN vs.length p->Upw (jjW ps) p vs.length->Q (.ref (s.heap.objs.size+1)) { s with heap:=sortedAll s.heap vs (p.toList.map fun i=>vs.getD i Value.none).toArray }) :
  wpAny (model prog w) A (call (.builtin "sorted") [.ref l]) Q E s:=by
 refine Calls.call_function_entry kind_sorted plain_sorted entry_sorted (args_sorted1 _) ?_;unfold Builtin.«sorted»;refine Xa (m:=checkCount "sorted" 1 1 _) (Xb (Xa (collect_list hl (Xa (wpAny_newList ?_ (by rw[Xx]; omega))) (by rw[Xx]; omega))));have sz:((s.heap.push (seqObj "list" #[] 0)).update s.heap.objs.size (Obj.mapSeq (·++vs.toArray))).objs.size=s.heap.objs.size+1:=by rw[Heap.size_update,size_push']
 have hL:(((s.heap.push (seqObj "list" #[] 0)).update s.heap.objs.size (Obj.mapSeq (·++vs.toArray))).push (seqObj "list" vs.toArray 0)).get? (s.heap.objs.size+1)=some (seqObj "list" vs.toArray 0):=by rw[<- sz]; exact Xi _ rfl
 have keep:∀ b o,s.heap.get? b=some o->(((s.heap.push (seqObj "list" #[] 0)).update s.heap.objs.size (Obj.mapSeq (·++vs.toArray))).push (seqObj "list" vs.toArray 0)).get? b=some o:=fun b o q=>by
  have lt:b<s.heap.objs.size:=Xl q;refine Xd _ ?_;rw[Heap.get?_update_ne _ _ _ _ (XO lt)];exact Xd _ q
 show wpAny _ _ _ _ _ { s with heap:=((s.heap.push (seqObj "list" #[] 0)).update s.heap.objs.size (Obj.mapSeq (·++vs.toArray))).push (seqObj "list" vs.toArray 0) }
 rw[sz];refine Xa (X8 (XH slot_list_sort ⟨_,hL,rfl⟩ entry_list_sort (Wd (key:=jjW ps) hL hn (fun i v q e1 e2=>(hp i v q e1 e2).keeps fun b o eb _=>keep b o eb) (fun i j q q' e1 e2=>?_) h64 fun p a1 a2=>⟨_,rfl,?_⟩) (args_list_sort _)))
 ·by_cases g:jjW ps i<jjW ps j
  ·rw[Xy g,(jcy e1 e2).mp g]
  ·rw[Xk g];cases q3:jjU q q' with
   | true=>exact absurd ((jcy e1 e2).mpr q3) g
   | false=>rfl
 ·exact Xb ⟨_,rfl,h p a1 a2⟩
end
section
def jbc:GS X (.builtin "sorted") (fun xs H Q=>∃ p vs ps,xs=[.ref p]/\SqL X.K H p vs/\vs.length=ps.length/\(∀ (i:Nat) v (q:Int×Int),vs[i]?=some v->ps[i]?=some q->∃ a,v=.ref a/\SqT X.K H a [.int q.1,.int q.2])/\ps.length<64 /\
  ∀ l (zs:List (V×Int×Int)),H l=none->zs.Perm (vs.zip ps)->zs.map (·.2)=jlN ps->Q (.ref l) (upd H l (.lst (zs.map (·.1))))):=by
 intro pins s σ H xs us Q I r h;obtain⟨p,vs,ps,rfl,hq,hl,hp,hn,q⟩:=h;obtain⟨u,rfl,rx⟩:=US r;cases rx;obtain⟨its,rv,pl,hz⟩:=I.list hq;have hlen:=rv.length;refine jbb (ps:=ps) pl.isList (by omega) (fun i v z e1 e2=>?_) (by omega) fun pm g1 g2=>?_
 ·have hi:i<vs.length:=by rw[hlen]; exact (List.getElem?_eq_some_iff.mp e1).1
  obtain⟨a,ea,ht⟩:=hp i _ z (Xc hi) e2;obtain⟨u,eu,ru⟩:=rv.get (Xc hi);rw[e1] at eu;cases eu;rw[ea] at ru;cases ru;obtain⟨its2,rv2,⟨o,eo,hc,n,hd⟩,_⟩:=I.tuple ht;obtain⟨u1,u2,rfl,r1,r2⟩:=rv2.two;obtain⟨t,rfl⟩:=r1;obtain⟨t',rfl⟩:=r2;exact⟨a,o,t,t',n,rfl,eo,hc,hd⟩
 ·obtain⟨e,he⟩:=sortedAll_at s.heap its (pm.toList.map fun i=>its.getD i Value.none).toArray;have hr:pm.toList.Perm (List.range ps.length):=by
   have:=Array.perm_iff_toList_perm.mp g1;rw[<- hlen,hl] at this;simpa using this
  have hin:∀ i∈pm.toList,i<ps.length:=fun i hi=>List.mem_range.mp (hr.mem_iff.mp hi);have hv:=jgY rv pm.toList fun i hi=>by have:=hin i hi; omega
  have hsz:=g1.size;refine⟨.ref _,_,I.laid (o:=.lst (pm.toList.map fun i=>vs.getD i .non)) (t':=s.toks) (fun b o eb=>sortedAll_old eb) (Nat.le_succ _) ⟨?_,_,e,hv,he⟩,rfl,?_⟩
  ·rw[Xj,hr.length_eq,List.length_range];omega
  ·have:=q (s.heap.objs.size+1) (pm.toList.map fun i=>(vs.getD i .non,ps.getD i (0,0))) (I.hok.fresh (Nat.le_succ _)) ?_ ?_
   ·rw[List.map_map] at this;exact this
   ·rw[<- jgZ hl];exact hr.map _
   ·rw[List.map_map];refine jgV ?_ ?_
    ·have e2:(List.range ps.length).map (fun i=>ps.getD i (0,0))=ps:=by
      refine List.ext_getElem (by simp) fun i h1 h2=>?_;simp[h2]
     have:=hr.map fun i=>ps.getD i (0,0);rw[e2] at this;exact this
    ·rw[List.pairwise_iff_getElem];intro i j hi hj hij;simp only[Xj,Xt] at hi hj;simp only[List.getElem_map,Array.getElem_toList,Function.comp];have k:=g2 i j (by omega) (by omega);unfold KP at k;have gi:pm.getD i 0=pm[i]:=by simp[Array.getD,hi]
     have gj:pm.getD j 0=pm[j]:=by simp[Array.getD,hj]
     rw[gi,gj] at k;have li:pm[i]<ps.length:=hin _ (by simp);have lj:pm[j]<ps.length:=hin _ (by simp);have ai:ps[pm[i]]?=some (ps.getD pm[i] (0,0)):=by simp[li]
     have aj:ps[pm[j]]?=some (ps.getD pm[j] (0,0)):=by simp[lj]
     have nk:=mt (jcy aj ai).mpr (by omega);unfold leP;rw[Bool.not_eq_true',<- Bool.not_eq_true];exact nk
end
end L2
namespace L3
open PySem PySem.Spec L2
section
variable {F:Hp}{t:TE}{p:Pm α}{rs:Rs γ}{i:Int}
@[irreducible] def jg0 (l:List (Int×Int)):Option (List (Int×Int)):=if l.length<64 then some (jlN l) else none
def Yv:∀ {l:List α}{xs:List β},Paired R l xs->l.length=xs.length
 | _,_,.nil=>rfl
 | _,_,.cons _ s=>by rw[XX,XX,Yv s]
def jeQ {xs:List β} (h:Paired R l xs):∀ z∈xs.zip l,R z.2 z.1:=by
 induction h with
 | nil=>intro z hz; cases hz
 | cons r s ih=>
  intro z hz;rcases List.mem_cons.mp hz with rfl | hz
  ·exact r
  ·exact ih z hz
def Vs {R:α->β->Prop}:∀ {zs:List (β×α)},(∀ z∈zs,R z.2 z.1)->Paired R (zs.map (·.2)) (zs.map (·.1))
 | [],_=>.nil
 | z::zs,h=>.cons (h z Xo) (Vs fun y hy=>h y (Xn _ hy))
def jg1:Op1 K (fun x H Q=>∃ p vs ps,[x]=[V.ref p]/\SqL K H p vs/\vs.length=ps.length/\(∀ (i:Nat) v (q:Int×Int),vs[i]?=some v->ps[i]?=some q->∃ a,v=.ref a/\SqT K H a [.int q.1,.int q.2])/\ps.length<64 /\
  ∀ l (zs:List (V×Int×Int)),H l=none->zs.Perm (vs.zip ps)->zs.map (·.2)=jlN ps->Q (.ref l) (upd H l (.lst (zs.map (·.1))))) (pR (cP cI cI)) (rO (cP cI cI)) (fun l=>jg0 l):=by
 intro F H l x s hx z hz Q k;obtain⟨p,xs,rfl,h1,h2⟩:=hx;unfold jg0 at hz;obtain⟨hn,rfl⟩:=jV hz;refine⟨p,xs,l,rfl,h1,(Yv h2).symm,fun i v q e1 e2=>?_,hn,fun a zs ha hp hs=>?_⟩
 ·obtain⟨v',e3,r⟩:=Paired.at h2 e2;rw[e1] at e3;cases e3;obtain⟨a,u,w,rfl,hF,ru,rw'⟩:=r;have eu:u=.int q.1:=ru;have ew:w=.int q.2:=rw';subst eu ew;exact⟨a,rfl,.inl (.inl (s _ _ hF))⟩
 ·have:=Vs (R:=(cP cI cI).rep K F) (zs:=zs) fun z hz=>jeQ h2 z (hp.mem_iff.mp hz);rw[hs] at this;exact yO s this k a ha
end
section
variable [DecidableEq κ] [Kk κ] {F:Hp}{t:TE} 
def jmO {m:Option (List (κ×α))} (h:Ev K σ F H t (rD c) m):Ev K σ F H t (pD c).rs m:=V5 h (fun _ ⟨a,xs,h0,_,_,h3,h4⟩=>⟨a,xs,h0,h3,h4⟩)
def jk2 {l r:List (κ×α)} (hi:σ[i]?=some (some (.ref a))) (o:OwnD K He F H c l a) (X:Ext Fe He F H) (hm:some l=some r) (k:∀ v F' H',Ext Fe He F' H'->(rD c).rel K He F' H' r v->D.rt v H'):jlI (JJ i) D σ H:=by
 cases hm;obtain⟨xs,h1,h2⟩:=o.h;exact⟨_,hi,k _ F H X ⟨a,xs,rfl,o.e,o.f,h1,h2⟩⟩
end
end L3
namespace L2
open PySem PySem.Spec PyProof.Rows
def jg2:∀ {ws:List Str}{us:List Value},Vals (ws.map V.str) us->∃ l:List (Str×Tok),us=strValues l/\l.map (·.1)=ws
 | [],[],_=>⟨[],rfl,rfl⟩
 | w::ws,u::us,.cons h r=>by
  obtain⟨l,e,m⟩:=jg2 r;obtain⟨t,rfl⟩:=h;exact⟨(w,t)::l,by rw[e]; rfl,by rw[Xp,m]⟩
def Zh (sep:Str) (ws:List Str):Bool:=!(Builtin.Str.tooLong (ws.toArray.foldl (·+·.length+sep.length) 0))&&decide ((Builtin.Str.glued sep ws).length<=sizeLine)
def jmP (K:W.Frag) (x:V) (vs:List V) (H:Hp) (Q:VK):Prop:=∃ sep p ws,x=.str sep/\vs=[.ref p]/\SqL K H p (ws.map V.str)/\Zh sep ws=true/\Q (.str (Builtin.Str.glued sep ws)) H
section
def U2:MtR X "str.join" (jmP X.K):=by
 intro pins s σ H x xs v us Q I rx rv h;obtain⟨sep,p,ws,rfl,rfl,hq,hf,q⟩:=h;obtain⟨t,rfl⟩:=rx;obtain⟨u,rfl,ru⟩:=rv.one;cases ru;obtain⟨its,r,pl,hz⟩:=I.list hq;obtain⟨l,rfl,rfl⟩:=jg2 r;unfold Zh at hf;rw[XB,Bool.not_eq_true',Xu] at hf;refine call_meets F.slot_str_join (typeIs_str s sep t) F.entry_str_join (F.args_str_join_2 _ _) (meets_str_join_list sep t p l hf.1) ⟨pl.isList,?_⟩
 match l,hf.2,q with
 | [],hl,q=>exact ⟨hl,⟨.str _,H,I.tok _,⟨_,rfl⟩,q⟩⟩
 | [a],hl,q=>exact ⟨.str _,H,I,⟨_,rfl⟩,q⟩
 | a::b::r,hl,q=>exact ⟨hl,⟨.str _,H,I.tok _,⟨_,rfl⟩,q⟩⟩
end
abbrev TJ:=St->Hp->Str->(Str->Hp->Prop)->Prop
def PJ (X:Cx) (es:List Expr) (t:TJ):Prop:=
 ∀ (pins:List (Addr×Obj)) (s:Shared) (σ:St) (H:Hp) (acc:Str) (Q:Str->Hp->Prop),Inv X pins σ H s->t σ H acc Q ->
  Joins (model X.prog X.w) X.A X.xe (evalEach es X.env) acc (fun out s1=>∃ H1,Inv X pins σ H1 s1/\Q out H1) s
def jot:TJ:=fun _ H acc Q=>Q acc H
def jou (x:Str) (r:TJ):TJ:=fun σ H acc Q=>(acc++x).length<=sizeLine/\r σ H (acc++x) Q
def jov (te:TE) (r:TJ):TJ:=fun σ H acc Q=>te σ H fun v H1=>∃ i:Int,v=.int i/\i.natAbs.log2<1920/\(acc++(toString i:Str)).length<=sizeLine/\r σ H1 (acc++(toString i:Str)) Q
def jmQ (t:TJ):TE:=fun σ H Q=>t σ H Str.empty fun out H1=>out.length<=sizeLine/\Q (.str out) H1
section
variable {a b:Expr}{t:TJ} 
def jg3:PJ X [] jot:=fun _ _ _ H _ _ I h=>⟨H,I,h⟩
def jg4 {j} (r:PJ X es t):PJ X (.Constant (.str x) j pos::es) (jou x t):=by
 intro pins s σ H acc Q I h;show wpAny _ _ (eval (.Constant (.str x) j pos) X.env) _ _ s;exact Calls.Constant_str ⟨x,_,rfl,h.1,r pins _ σ H _ Q (I.tok _) h.2⟩
def Yw (he:PE X e te) (r:PJ X es t):PJ X (.FormattedValue e (-1) none pos::es) (jov te t):=by
 intro pins s σ H acc Q I h;show wpAny _ _ (eval (.FormattedValue e (-1) none pos) X.env) _ _ s;refine wpAny_FormattedValue_plain (thn (he pins s σ H _ I h) fun v s1 ⟨w,H1,I1,rw_,i,ew,hd,hl,q⟩=>?_);subst ew;obtain⟨tk,rfl⟩:=rw_;exact wpAny_formatField_int hd ⟨_,_,rfl,hl,r pins _ σ H1 _ Q ((I1.tok _).tok _) q⟩
def Yx {Q Q':Str->Shared->Prop} (k:∀ out s,Q out s->Q' out s):∀ (l:List (Sem Value)) (acc:Str) (s:Shared),Joins M A E l acc Q s->Joins M A E l acc Q' s
 | [],acc,s,h=>k acc s h
 | x::r,acc,s,h=>wb h (fun v s1 ⟨y,t,e,hl,hr⟩=>⟨y,t,e,hl,Yx k r _ s1 hr⟩) fun _ _ z=>z
def jcz (h:PJ X (a::b::es) t):PE X (.JoinedStr (a::b::es) pos) (jmQ t):=by
 intro pins s σ H Q I hq;refine wpAny_JoinedStr ?_;have:=h pins s σ H Str.empty _ I hq;exact Yx (fun out s1 ⟨H1,I1,hl,q⟩=>⟨hl,⟨.str out,H1,I1.tok _,⟨_,rfl⟩,q⟩⟩) _ _ _ this
end
end L2
namespace L3
open PySem PySem.Spec L2
@[irreducible] def JL (i:Int):Option Str:=if i.natAbs.log2<1920 then some (toString i:Str) else none
@[irreducible] def xr (a b:Str):Option Str:=if a.length+b.length<=sizeLine then some (a++b) else none
@[irreducible] def Zi (sep:Str) (ws:List Str):Option Str:=if Zh sep ws=true then some (Builtin.Str.glued sep ws) else none
section
variable {F:Hp}{t:TE}{ma mb:Option Str} 
def zC:Op1 K (fun x H Q=>∃ i,[x]=[V.int i]/\i.natAbs.log2<1920/\Q (.str (toString i)) H) (pF cI) (rF cS) (fun i=>JL i):=by
 intro F H a x s hx z hz Q k;cases hx;unfold JL at hz;obtain⟨hd,rfl⟩:=jV hz;exact⟨a,rfl,hd,k _ F H (Ext.refl s) rfl⟩
def JG:Op2 K (fun x y H Q=>∃ i j,x=.str i/\y=.str j/\i.length+j.length<=sizeLine/\Q (.str (i++j)) H) (pF cS) (pF cS) (rF cS) (fun a b=>xr a b):=by
 intro F H a b x y s hx hy z hz Q k;cases hx; cases hy;unfold xr at hz;obtain⟨hd,rfl⟩:=jV hz;exact⟨a,b,rfl,rfl,hd,k _ F H (Ext.refl s) rfl⟩
@[irreducible] def jlO (a:Str):Option Str:=if a.length<=sizeLine then some a else none
def EvJ (K:W.Frag) (σ:St) (F H:Hp) (t:TJ) (m:Str->Option Str):Prop:=
 ∀ F1 H1,Ext F H F1 H1->∀ acc out,m acc=some out->∀ Q:Str->Hp->Prop,(∀ F2 H2,Ext F1 H1 F2 H2->out.length<=sizeLine->Q out H2)->t σ H1 acc Q
def jg5:EvJ K σ F H jot (fun acc=>jlO acc):=fun F1 H1 E acc out h Q k=>by
 unfold jlO at h;obtain⟨hd,rfl⟩:=jV h;exact k F1 H1 (Ext.refl E.sub) hd
def jg6 {r:TJ}{m:Str->Option Str} (h:EvJ K σ F H r m):EvJ K σ F H (jou x r) (fun acc=>(xr acc x).bind m):=fun F1 H1 E acc out e Q k=>by
 obtain⟨a,ea,e⟩:=bind_some e;unfold xr at ea;obtain⟨hl,rfl⟩:=jV ea;exact⟨by rw[strLen_append]; exact hl,h F1 H1 E _ out e Q k⟩
def Yy {r:TJ}{m:Str->Option Str} (hi:Ev K σ F H t (rF cI) mi) (h:EvJ K σ F H r m):EvJ K σ F H (jov t r) (fun acc=>mi.bind fun i=>(JL i).bind fun y=>(xr acc y).bind m):=fun F1 H1 E acc out e Q k=>by
 obtain⟨i,ei,e⟩:=bind_some e;obtain⟨y,ey,e⟩:=bind_some e;obtain⟨a,ea,e⟩:=bind_some e;refine hi F1 H1 E i ei _ fun v F2 H2 E2 hv=>?_;obtain rfl:v=.int i:=hv;unfold JL at ey;unfold xr at ea;obtain⟨hd,rfl⟩:=jV ey;obtain⟨hl,rfl⟩:=jV ea;exact⟨i,rfl,hd,by rw[strLen_append]; exact hl,h F2 H2 (E.trans E2) _ out e Q fun F3 H3 E3=>k F3 H3 (E2.trans E3)⟩
def jcA {r:TJ}{m:Str->Option Str} (h:EvJ K σ F H r m) {mm_:Option Str} (e':mm_=m Str.empty):Ev K σ F H (jmQ r) (rF cS) mm_:=by
 subst e';intro F1 H1 E out e Q k;exact h F1 H1 E Str.empty out e _ fun F2 H2 E2 hl=>⟨hl,k _ F2 H2 E2 rfl⟩
def We:∀ {l:List Str}{xs:List V},Paired (cS.rep K H) l xs->xs=l.map V.str
 | _,_,.nil=>rfl
 | _,_,.cons h r=>by
  rw[Xp,<- We r];congr 1
def Qz {m:Option (List Str)}{sep:Str}{ts:TE} (hs:Ev K σ F H ts (rF cS) (some sep)) (ht:Ev K σ F H t (pR cS).rs m) {mm_:Option Str} (e':mm_=m.bind fun l=>Zi sep l):Ev K σ F H (tBM K "str" (jmP K) ts (jJ t xq)) (rF cS) mm_:=by
 subst e';intro F1 H1 E out e Q k;obtain⟨l,el,e⟩:=bind_some e;refine hs F1 H1 E sep rfl _ fun v F2 H2 E2 hv=>?_;obtain rfl:v=.str sep:=hv;refine⟨rfl,?_⟩;refine ht F2 H2 (E.trans E2) l el _ fun v F3 H3 E3 hv=>?_;obtain⟨p,xs,rfl,h1,h2⟩:=hv;rw[We h2] at h1;unfold Zi at e;obtain⟨hf,rfl⟩:=jV e;exact⟨sep,p,l,rfl,rfl,h1,hf,k _ F3 H3 (E2.trans E3) rfl⟩
end
@[irreducible] def jmR (l:List α):Option (α×List α):=l.getLast?.bind fun x=>some (x,l.dropLast)
def jcB {xs:List β} (h:Paired R l xs) {x:α} (e:l.getLast?=some x):∃ y,xs[xs.length-1]?=some y/\R x y:=by
 rw[List.getLast?_eq_getElem?] at e;have:=L3.Paired.at h e
 rwa [h.length] at this
def JY:∀ {l:List α}{xs:List β},Paired R l xs->Paired R l.dropLast xs.dropLast
 | _,_,.nil=>.nil
 | [_],[_],.cons _ .nil=>.nil
 | _::_::_,_::_::_,.cons h (.cons h2 r)=>.cons h (JY (.cons h2 r))
end L3
namespace L2
open PySem PySem.Spec PyProof.Rows
section
def jiK {d:Addr}{es:Array DictEntry}{Q:Option Value->Shared->Prop} (hI:s.heap.IsKeyIter it d i n ep) (ho:s.heap.get? d=some o) (hD:o.data=.dict es ep) (hn:es.size=n) (hi:i<es.size)
  (k:∀ h',h'.IsKeyIter it d (i+1) n ep->Heap.SameBut it s.heap h'->Q (some es[i].key) { s with heap:=h' }):wpAny (model prog w) A (pyNext (.ref it)) Q E s:=by
 obtain⟨oi,gi,ci,di⟩:=id hI;have tI:=hI.typeIs;unfold pyNext;refine Xa (wpAny_attempt (wpAny_callSpecial?_slot (name:=Str.ofString "__next__") tI F.slot_dict_keyiterator_next (XH F.slot_dict_keyiterator_next tI F.entry_dict_keyiterator_next ?_ (F.args_dict_keyiterator_next_1 _))));refine Xa (Xb (Xa (Xa ?_)))
 first | refine Xa (wpAny_typeNameOfWhole_keyiter tI (Xb ?_)) | refine Xa (wpAny_typeNameOf_keyiter tI (Xb ?_))
 refine Xa (wpAny_fieldsOf gi di ?_);have no:Builtin.Dict_items.ownsTuple "dict_keyiterator"=false:=by decide
 rw[no];simp only[XF,XY];show wpAny _ _ (if (Value.ref d==Value.none)=true then _ else _) _ _ s;rw[if_neg (show ¬ ((Value.ref d==Value.none)=true) from Xh)];refine Xa (Xb (Xa (wpAny_dictEntries ho hD ?_)));rw[if_neg (by rw[hn]; simp)];refine Xa (Xb (Xa (wpAny_dictEpoch ho hD ?_)));rw[if_neg (by simp)];refine Xb ?_;have ni:¬ ((i:Int)<0):=by omega
 simp only[ni,XY,XR,Array.getElem?_eq_getElem hi];refine Xa ?_
 first | refine Xa (wpAny_typeNameOfWhole_keyiter tI (Xb ?_)) | refine Xa (wpAny_typeNameOf_keyiter tI (Xb ?_))
 refine Xa (wpAny_isOneOf_keyiter tI ?_);show wpAny _ _ (setField (.ref it) 1 (rawInt ((i:Int)+1)) >>= _) _ _ s;refine Xa (wpAny_setField gi di (by simp) ?_);have hI2:(s.heap.update it (Obj.mapFields (·.setIfInBounds 1 (rawInt ((i:Int)+1))))).IsKeyIter it d (i+1) n ep:=
  ⟨_,Heap.get?_update_self _ gi (Obj.isFreed_of_fields (Obj.data_mapFields di _)),(Obj.cls_mapFields ..).trans ci,by rw[Obj.data_mapFields di]; simp[rawInt]⟩
 refine Xa (X8 (Xa (wpAny_isOneOf_keyiter (s:={ s with heap:=s.heap.update it (Obj.mapFields (·.setIfInBounds 1 (rawInt ((i:Int)+1)))) }) hI2.typeIs ?_)))
 show wpAny _ _ (pure es[i].key) _ _ _;exact Xb (Xb ⟨_,rfl,Xb (k _ hI2 (Heap.SameBut.update ..))⟩)
def jg7 {d:Addr}{es:Array DictEntry}{Q:Option Value->Shared->Prop} (hh:A.handled=none) (hI:s.heap.IsKeyIter it d i n ep) (ho:s.heap.get? d=some o) (hD:o.data=.dict es ep) (hn:es.size=n) (hi:es.size<=i)
  (k:∀ h',Heap.ExtBut it s.heap h'->Q none { s with heap:=h' }):wpAny (model prog w) A (pyNext (.ref it)) Q E s:=by
 obtain⟨oi,gi,ci,di⟩:=id hI;have tI:=hI.typeIs;unfold pyNext;refine Xa (wpAny_attempt (wpAny_callSpecial?_slot (name:=Str.ofString "__next__") tI F.slot_dict_keyiterator_next (XH F.slot_dict_keyiterator_next tI F.entry_dict_keyiterator_next ?_ (F.args_dict_keyiterator_next_1 _))));refine Xa (Xb (Xa (Xa ?_)))
 first | refine Xa (wpAny_typeNameOfWhole_keyiter tI (Xb ?_)) | refine Xa (wpAny_typeNameOf_keyiter tI (Xb ?_))
 refine Xa (wpAny_fieldsOf gi di ?_);have no:Builtin.Dict_items.ownsTuple "dict_keyiterator"=false:=by decide
 rw[no];simp only[XF,XY];show wpAny _ _ (if (Value.ref d==Value.none)=true then _ else _) _ _ s;rw[if_neg (show ¬ ((Value.ref d==Value.none)=true) from Xh)];refine Xa (Xb (Xa (wpAny_dictEntries ho hD ?_)));rw[if_neg (by rw[hn]; simp)];refine Xa (Xb (Xa (wpAny_dictEpoch ho hD ?_)));rw[if_neg (by simp)];refine Xb ?_;have ni:¬ ((i:Int)<0):=by omega
 simp only[ni,XY,XR,Array.getElem?_eq_none hi];refine Xa ?_
 first | refine Xa (wpAny_typeNameOfWhole_keyiter tI (Xb ?_)) | refine Xa (wpAny_typeNameOf_keyiter tI (Xb ?_))
 show wpAny _ _ (setField (.ref it) 0 .none >>= _) _ _ s;refine Xa (wpAny_setField gi di (by simp) ?_);show wpAny _ _ (newExc (.type "StopIteration") [] >>= _) _ _ _;refine Xa ?_;simp only[newExc,newTuple];refine Xa (XN (Xa (m:=firstArgMember _ _) (wpAny_of_eq (a:=Value.none) (by first | rfl | (simp only[firstArgMember]; rfl)) (XN ?_ (by size_fits)))) (by size_fits))
 simp only[raiseNew];refine Xa (wpAny_handled ?_);have h0:A.in1.handled=none:=hh;rw[h0];refine Xa (Xb (wpAny_throw ?_));refine Xa (wpAny_isInstance (T:="StopIteration") (b:=true) ⟨_,Xi _ rfl,rfl⟩ isSubtype_stop (Xb (k _ ?_)));exact((Heap.SameBut.update ..).extBut.push _).push _
def jiL {d:Addr}{es:Array DictEntry} (hd:(d==sysModules)=false) (ho:s.heap.get? d=some o) (hc:o.ExactDict) (hD:o.data=.dict es ep)
  (k:Q (.ref s.heap.objs.size) { s with heap:=s.heap.push { cls:=.type "dict_keyiterator",data:=.fields #[.ref d,.int 0 0,.int es.size 0,.int ep 0] } }):wpAny (model prog w) A (pyIter (.ref d)) Q E s:=by
 have tD:s.TypeIs (.ref d) "dict":=⟨o,ho,hc.1⟩;refine wpAny_pyIter_slot tD F.slot_dict_iter (XH F.slot_dict_iter tD F.entry_dict_iter ?_ (F.args_dict_iter_1 _));unfold Builtin.«dict.__iter__»;refine Xa ?_;unfold Builtin.Dict.dictSlotNone;refine Xa (wpAny_notOrdered_dict tD ?_);show wpAny _ _ (pure (Value.ref d)) _ _ s;refine Xb ?_;show wpAny _ _ (Builtin.Dict.showsAll d >>= _) _ _ s;unfold Builtin.Dict.showsAll;rw[if_neg (by rw[hd]; exact Xh)];refine Xa (Xb (Xa (wpAny_dictEntries ho hD (Xa (wpAny_dictEpoch ho hD ?_)))));refine Xa (XN (Xb ⟨_,rfl,"dict_keyiterator",_,⟨_,Xi _ rfl,rfl⟩,F.slot_dict_keyiterator_next.lookup,?_⟩));simpa [rawInt] using k
end
section
def Inv.dt (I:Inv X pins σ H s) (e:H a=some (.frz o (.dT fl kvs))):s.heap.get? a=some o/\(a==sysModules)=false/\∃ es ep,o.ExactDict/\o.data=.dict es ep/\es.size=kvs.length /\
  ∀ (i:Nat) (hi:i<es.size) (kv:List Key×V),kvs[i]?=some kv->∃ b,es[i].key=.ref b/\TupK fl H kv.1 b:=by
 obtain⟨h1,z,y,xs,r,o',es,ep,h2,h3,h4,h5,h6⟩:=I.hok a _ e;rw[h1] at h2;cases h2;have hl:es.size=xs.length:=by rw[<- Xt,h5,Xj]
 refine⟨h1,y,es,ep,h3,h4,by rw[hl,Paired.length r],fun i hi kv hk=>?_⟩;obtain⟨x,hx,q1,q2,q3⟩:=L3.Paired.at r hk;refine⟨x.2.1,?_,by rw[q1] at q2 ⊢; exact q2⟩;have e1:es.toList[i]?=some es[i]:=by rw[Array.getElem?_toList]; simp[hi]
 rw[h5,Xw,hx] at e1;have e2:entryOfKey (kdT fl X.prog X.w) x=es[i]:=by simpa using e1
 rw[<- e2];rfl
def Inv.fz (I:Inv X pins σ H s) (e:H a=some (.dT fl kvs)) (ho:s.heap.get? a=some o):Inv X pins σ (upd H a (.frz o (.dT fl kvs))) s:=by
 have ne:∀ {b:Addr}{u:HO},H b=some u->(∀ l,u≠.dT fl l)->b≠a:=fun {b u} q n z=>by rw[z,e] at q; exact n _ (Option.some.inj q).symm
 have nn:∀ {b:Addr},H b=none->b≠a:=fun {b} q z=>by rw[z,e] at q; cases q
 exact I.step (g':=s.gens) (d':=s.drawn) (t':=s.toks) (ch:=[]) (h':=s.heap) (fun _ z=>nomatch z) (fun b u _ _ _ q _=>q) (fun b u _ _ _ q _=>⟨u.slots,q⟩) (fun b u _ q n=>by rw[km (nn n)]; exact n) (fun b u _ q=>⟨u,q⟩)
  (fun b xs q=>by rw[km (ne q fun _ z=>by cases z)]; exact q) (fun b u v q=>by rw[km (ne q fun _ z=>by cases z)]; exact q) (fun b ps q=>⟨#[],by rw[km (ne q fun _ z=>by cases z),q]; simp⟩) (fun m hm=>hm)
  (fun b u q=>by
   have st:∀ {c:Addr}{v:HO},H c=some v->ObjOk X.prog X.w (upd H a (.frz o (.dT fl kvs))) s.heap c v:=fun {c v} q=>(I.hok c v q).stay (fun _ _ _ z=>z) (fun c' z=>by rw[km (ne z fun _ z=>by cases z)]; exact z) fun c' xs z=>by rw[km (ne z fun _ z=>by cases z)]; exact z
   by_cases z:b=a
   ·subst z;rw[j_] at q;cases q;exact⟨ho,st e⟩
   ·rw[km z] at q;exact st q) I.bare
def sFz (i:Nat) (te:TE):TS:=fun D σ H=>te σ H fun v H1=>∃ a fl kvs,v=.ref a/\H1 a=some (.dT fl kvs)/\∀ o,D.nx (σ.set i (some v)) (upd H1 a (.frz o (.dT fl kvs)))
def jdZ (hN:X.N.Nodup) (hi:X.N[i]?=some x) (hx:Loc X.env.scope x) (he:PE X e te) (hs:swapsWith e (some (.Name x pos')) pos.line X.env=pure false:=by rfl)
  (hf:X.fn x=true \/ X.env.scope.names.lookup x=some .local:=by first | exact .inl rfl | exact .inr rfl | assumption):PS X (.Assign [.Name x pos'] e pos) (sFz i te):=by
 intro pins s σ H D I h;refine wpAny_Assign_Name (thn (he pins s σ H _ I h) fun v s1 ⟨y,H1,I1,r1,a,fl,kvs,ey,e1,q1⟩=>?_) hs;subst ey;obtain⟨_,_,_,_,o,_,_,ho,_⟩:=(show ObjOk X.prog X.w H1 s1.heap a (.dT fl kvs) from I1.hok a _ e1);exact YO (I1.fz e1 ho) hN hi hx r1 (fun s2 I2=>⟨_,_,I2,q1 o⟩) hf
def Itk (fl:Bool) (a:Addr) (o:Obj) (n:Nat):It:=
 ⟨fun i H=>∃ kvs,H a=some (.frz o (.dT fl kvs))/\kvs.length=n/\i<n,fun i H x H'=>H'=H/\∃ b,x=.ref b/\∀ kvs kv,H a=some (.frz o (.dT fl kvs))->kvs[i]?=some kv->TupK fl H kv.1 b,fun i H=>∃ kvs,H a=some (.frz o (.dT fl kvs))/\kvs.length=n/\n<=i⟩
def jiM (a it:Addr) (o:Obj) (n:Nat):Turn P w K tg (Itk fl a o n) [it] it (fun i h=>∃ es ep,o.data=.dict es ep/\h.IsKeyIter it a i n ep) where
 mem:=by simp
 obj:=fun i h st b hb=>by
  have e:b=it:=by simpa using hb
  subst e;obtain⟨es,ep,_,oi,e,c,d⟩:=st;exact⟨oi,e,fun v z=>by rw[d] at z; cases z⟩
 keep:=fun i h h' st k=>let ⟨es,ep,h1,h2⟩:=st; ⟨es,ep,h1,h2.at fun o e=>k it (by simp) o e⟩
 item:=by
  intro X hP hw hK hc i pins s σ H E I hf st hg;subst hP hw hK;obtain⟨kvs,e1,hn,hi⟩:=hg;obtain⟨es',ep',d',st⟩:=st;obtain⟨ho,_,es,ep,hx,hd,hz,hk⟩:=I.dt e1;rw[hd] at d';cases d';obtain⟨f0,f1,f2,f3,f4,f5⟩:=hf it (by simp);have hi':i<es'.size:=by omega
  obtain⟨b,kb,tb⟩:=hk i hi' (kvs[i]'(by omega)) (Xc _);refine jiK st ho hd (by omega) hi' fun h' st' sb=>?_;have I1:Inv X pins σ H { s with heap:=h' }:=I.turned (t':=s.toks) (fun b o hb e=>(sb.2 b hb).trans e) f0 f1 f3 f4 f5
  obtain⟨oi,e,c,d⟩:=id st';refine⟨_,rfl,jaD (s:={ s with heap:=h' }) e c d (by decide) ⟨.ref b,H,I1,?_,⟨rfl,b,rfl,fun kvs' kv q1 q2=>?_⟩,⟨es',ep',hd,st'⟩,fun b hb=>(hf b hb).1⟩⟩
  ·rw[kb]; rfl
  ·rw[e1] at q1;cases q1;rw[Xc (by omega)] at q2;cases q2;exact tb
 done:=by
  intro X hP hw hK hc i pins s σ H E I hf st hg;subst hP hw hK;obtain⟨kvs,e1,hn,hi⟩:=hg;obtain⟨es',ep',d',st⟩:=st;obtain⟨ho,_,es,ep,hx,hd,hz,hk⟩:=I.dt e1;rw[hd] at d';cases d';obtain⟨f0,f1,f2,f3,f4,f5⟩:=hf it (by simp);exact jg7 (I.ok.hd hc) st ho hd (by omega) (by omega) fun h' eb=>⟨rfl,I.turned (t':=s.toks) (fun b o hb e=>eb b o hb e) f0 f1 f3 f4 f5⟩
 self:=fun _ _ _ _ _ st h=>let ⟨_,_,_,st⟩:=st; wpAny_pyIter_keyiter st h
def jnU (te:TE):TI:=fun σ H R=>te σ H fun x H1=>∃ a o fl kvs,x=.ref a/\H1 a=some (.frz o (.dT fl kvs))/\R (Itk fl a o kvs.length) H1
def jmS {l:Expr}{tl:TE} (hl:PE X l tl):PI X tg l (jnU tl):=by
 intro pins s σ H R I h;refine thn (hl pins s σ H _ I h) fun v s1 ⟨x,H1,I1,r1,a,o,fl,kvs,ex,e1,q⟩=>?_;subst ex;cases r1;obtain⟨ho,hm,es,ep,hx,hd,hz,hk⟩:=I1.dt e1;refine jiL hm ho hx hd ⟨s1.heap.objs.size,[s1.heap.objs.size],_,_,H1,rfl,I1.kept (t':=s1.toks) fun b o e=>Xd _ e,jiM a _ o kvs.length,⟨es,ep,hd,_,Xi _ rfl,rfl,by rw[hz]; rfl⟩,fun b hb=>?_,q⟩;have e:b=s1.heap.objs.size:=by simpa using hb
 subst e;exact I1.fpOk (Xe _) (I1.hok.fresh (Xe _))
def jg8 (fl:Bool) (tk tv:TE):TE:=fun σ H Q=>∀ p,H p=none->tk σ (upd H p (.dT fl [])) fun x H1=>tv σ H1 fun y H2=>∃ b k,x=.ref b/\TupK fl H2 k b/\H2 p=some (.dT fl [])/\Q (.ref p) (upd H2 p (.dT fl [(k,y)]))
def jiN {ke ve:Expr}{tk:TE} (hu:X.A.units+2<cLine) (hk:PE X ke tk) (hv:PE X ve tv):PE X (.Dict [some ke] [ve] pos) (jg8 fl tk tv):=by
 intro pins s σ H Q I q;have hn:=I.hok.fresh (Xe s.heap.objs.size);have I1:=I.laid (a:=s.heap.objs.size) (o:=.dT fl []) (h':=s.heap.push { cls:=.type "dict",data:=.dict #[] }) (t':=s.toks) (fun _ _ q=>Xd _ q) (Xe _) (jdW s.heap I.big);refine wpAny_Dict_any rfl rfl (by simp) (by simp) (pairTrees_cons_walk (thn (hk pins _ σ _ _ I1 (q _ hn)) fun u1 s2 ⟨x,H2,I2,rx,q2⟩=>thn (hv pins s2 σ H2 _ I2 q2) fun u2 s3 ⟨y,H3,I3,ry,b,k,ex,eb,ep,q3⟩=>pairTrees_nil_walk ?_));subst ex;cases (show u1=Value.ref b from rx);obtain⟨z,hd,xs,rel,dd⟩:=jmF I3.hok ep;have x0:xs=[]:=by cases rel; rfl
 subst x0;unfold storeAll;rw[List.forIn_cons];refine Xa (Xa (wpAny_dictSet_heap (hsz:=by simp) (knd:=kdT fl X.prog X.w) (by cases fl <;> first | exact (show X.A.units<cLine by omega) | exact (show X.A.units+1<cLine by omega)) (ja8 I3.hok eb) dd fun h' dd' hs=>Xb ?_))
 dsimp only;rw[List.forIn_nil];refine Xb ⟨.ref s.heap.objs.size,_,?_,rfl,q3⟩;obtain⟨oq,es,ep',hq,h2,h3,h4,_,h5⟩:=dd';refine jcs I3 (by rw[ep]; exact True.intro) hs ⟨oq,hq⟩ ⟨by rw[Xx]; simp,hd,[(k,b,u2)],.cons ⟨rfl,?_,ry⟩ .nil,oq,es,ep',hq,h2,h3,h4,by simp⟩;exact eb.mono fun c ys ec=>by rw[km (jl0 ec ep (fun z=>nomatch z))]; exact ec
end
end L2
namespace L3
open PySem PySem.Spec L2
class Kt (κ:Type) where
 fl:Bool
 k:κ->List Key
 inj:∀ {a b},k a=k b->a=b
 cd:Cd κ
 get:∀ {K F a v},cd.rep K F a v->∃ b,v=.ref b/\TupK fl F (k a) b
 put:∀ {K F a b},TupK fl F (k a) b->cd.rep K F a (.ref b)
def Zj {F:Hp}:∀ {l:List Int}{xs:List V},Paired (cI.rep K F) l xs->xs=(l.map fun i=>(Sum.inl i:Key)).map kV
 | _,_,.nil=>rfl
 | i::l,x::xs,.cons h t=>by
  have h:x=.int i:=h;rw[Xp,Xp,<- Zj t,h];rfl
def Zk {F:Hp}:∀ (l:List Int),Paired (cI.rep K F) l ((l.map fun i=>(Sum.inl i:Key)).map kV)
 | []=>.nil
 | _::l=>.cons rfl (Zk l)
def jcC:∀ {a b:List Int},(a.map fun i=>(Sum.inl i:Key))=(b.map fun i=>(Sum.inl i:Key))->a=b
 | [],[],_=>rfl
 | [],_::_,h=>by cases h
 | _::_,[],h=>by cases h
 | x::a,y::b,h=>by
  rw[Xp,Xp] at h;injection h with h1 h2
  rw[Sum.inl.inj h1,jcC h2]
instance:Kt (List Int):=⟨false,fun l=>l.map fun i=>.inl i,jcC,cT cI,fun⟨a,xs,h1,h2,h3⟩=>⟨a,h1,by show _=some (HO.tup _); rw[<- Zj h3]; exact h2⟩,fun {K F l b} h=>⟨b,_,rfl,h,Zk l⟩⟩
instance:Kt (Int×Int):=⟨false,fun p=>[.inl p.1,.inl p.2],fun {a b} h=>by
  injection h with h1 h2
  injection h2 with h2 _
  exact Prod.ext (Sum.inl.inj h1) (Sum.inl.inj h2),cP cI cI,fun {K F p v} ⟨a,u,w,h1,h2,h3,h4⟩=>⟨a,h1,by
  have h3:u=.int p.1:=h3;have h4:w=.int p.2:=h4;show F a=some (HO.tup _);rw[h2,h3,h4];rfl⟩,fun {K F p b} h=>⟨b,_,_,rfl,h,rfl,rfl⟩⟩
instance:Kt (List Int×Int):=⟨true,fun p=>.inl p.2::p.1.map fun i=>.inl i,fun {a b} h=>by
  injection h with h1 h2
  exact Prod.ext (jcC h2) (Sum.inl.inj h1),cP (cT cI) cI,fun {K F p v} ⟨a,u,w,h1,h2,⟨t,xs,h3,h4,h5⟩,h6⟩=>⟨a,h1,.inl p.2,_,t,rfl,by
  have h6:w=.int p.2:=h6;rw[h2,h3,h6];rfl,by rw[<- Zj h5]; exact h4⟩,fun {K F p b} ⟨k,r,t,e,h1,h2⟩=>by
  injection e with e1 e2
  subst e1 e2;exact⟨b,_,_,rfl,h1,⟨t,_,rfl,h2,Zk _⟩,rfl⟩⟩
section
variable [DecidableEq κ] [Kt κ] {F:Hp}{t:TE} 
def KtR (K:W.Frag) (F:Hp) (c:Cd α) (p:κ×α) (q:List Key×V):Prop:=q.1=Kt.k p.1/\c.rep K F p.2 q.2
def KtR.mono {F:Hp}{p:κ×α}{q:List Key×V} (s:Same F F') (h:KtR K F c p q):KtR K F' c p q:=⟨h.1,c.mono s h.2⟩
def jmT {a b:κ}:decide (Kt.k a=Kt.k b)=decide (a=b):=by
 by_cases h:a=b
 ·subst h; simp
 ·rw[Xk h,Xk fun e=>h (Kt.inj e)]
def jg9 {F:Hp}{k:κ}:∀ {l:List (κ×α)}{kvs:List (List Key×V)},Paired (KtR K F c) l kvs->(ja9 l k=none/\WU kvs (Kt.k k)=none) \/ ∃ x v,ja9 l k=some x/\WU kvs (Kt.k k)=some v/\c.rep K F x v
 | _,_,.nil=>.inl ⟨rfl,rfl⟩
 | p::l,q::kvs,.cons ⟨r1,r2⟩ s=>by
  by_cases h:p.1=k
  ·right
   refine⟨p.2,q.2,?_,Uu (by rw[r1,h]),r2⟩;unfold ja9;rw[X1,Xy h];rfl
  ·have e1:ja9 (p::l) k=ja9 l k:=by
    unfold ja9;rw[X1,Xk h]
   have e2:WU (q::kvs) (Kt.k k)=WU kvs (Kt.k k):=Uv (by rw[r1]; exact fun e=>h (Kt.inj e));rw[e1,e2];exact jg9 s
def jjX {F:Hp}{k:κ}:∀ {l:List (κ×α)}{kvs:List (List Key×V)},Paired (KtR K F c) l kvs->(kvs.any fun kv=>decide (kv.1=Kt.k k))=l.any fun p=>decide (p.1=k)
 | _,_,.nil=>rfl
 | p::l,q::kvs,.cons ⟨r1,r2⟩ s=>by
  rw[List.any_cons,List.any_cons,jjX s,r1,jmT]
def jjY {F:Hp}{k:κ}{x:α} (r:c.rep K F x v):∀ {l:List (κ×α)}{kvs:List (List Key×V)},Paired (KtR K F c) l kvs ->
  Paired (KtR K F c) (l.map fun p=>bif decide (p.1=k) then (p.1,x) else p) (kvs.map fun kv=>if kv.1=Kt.k k then (kv.1,v) else kv)
 | _,_,.nil=>.nil
 | p::l,q::kvs,.cons ⟨r1,r2⟩ s=>by
  rw[Xp,Xp];refine .cons ?_ (jjY r s);by_cases h:p.1=k
  ·rw[Xy h,wc,if_pos (by rw[r1,h])];exact⟨r1,r⟩
  ·rw[Xk h,X7,if_neg (by rw[r1]; exact fun e=>h (Kt.inj e))];exact⟨r1,r2⟩
def jmU {F:Hp}{k:κ}{x:α}{l:List (κ×α)} (r:c.rep K F x v) (s:Paired (KtR K F c) l kvs):Paired (KtR K F c) (jmI l k x) (jbS kvs (Kt.k k) v):=by
 unfold jmI jbS;rw[jjX s];cases l.any fun p=>decide (p.1=k) with
 | true=>rw[wc,if_pos rfl]; exact jjY r s
 | false=>rw[X7,if_neg (by decide)]; exact Paired.app s (.cons ⟨rfl,r⟩ .nil)
def pDT (c:Cd α):Pm (List (κ×α)):=⟨fun K F H l v=>∃ a kvs,v=.ref a/\H a=some (.dT (Kt.fl κ) kvs)/\Paired (KtR K F c) l kvs,
 fun e ⟨a,xs,h1,h2,h3⟩=>⟨a,xs,h1,e.h _ _ h2,Paired.mapP h3 fun _ _=>KtR.mono e.f⟩⟩
def rDT (c:Cd α):Rs (List (κ×α)):=⟨fun K H F2 H2 l v=>∃ a kvs,v=.ref a/\H a=none/\F2 a=none/\H2 a=some (.dT (Kt.fl κ) kvs)/\Paired (KtR K F2 c) l kvs,
 fun s ⟨a,xs,h1,h2,h⟩=>⟨a,xs,h1,s.free h2,h⟩⟩
def cFD (c:Cd α):Cd (List (κ×α)):=⟨fun K F l v=>∃ a o kvs,v=.ref a/\F a=some (.frz o (.dT (Kt.fl κ) kvs))/\Paired (KtR K F c) l kvs,
 fun s ⟨a,o,xs,h1,h2,h3⟩=>⟨a,o,xs,h1,s _ _ h2,Paired.mapP h3 fun _ _=>KtR.mono s⟩⟩
structure OwnDT (K:W.Frag) (He F H:Hp) (c:Cd α) (l:List (κ×α)) (a:Addr):Prop where
 e:He a=none
 f:F a=none
 h:∃ kvs,H a=some (.dT (Kt.fl κ) kvs)/\Paired (KtR K F c) l kvs
def OwnDT.mono {l:List (κ×α)} (o:OwnDT K He F H c l a) (E:Ext F H F' H'):OwnDT K He F' H' c l a:=by
 obtain⟨xs,h1,h2⟩:=o.h;refine⟨o.e,?_,xs,E.h _ _ h1,Paired.mapP h2 fun _ _=>KtR.mono E.f⟩;cases e:F' a with
 | none=>rfl
 | some u=>
  rcases E.new a u e with z | z
  ·rw[o.f] at z; cases z
  ·rw[h1] at z; cases z
def OwnDT.b {l:List (κ×α)} (o:OwnDT K He F H c l a):(pDT c).rel K F H l (.ref a):=let ⟨xs,h1,h2⟩:=o.h; ⟨a,xs,rfl,h1,h2⟩
def jiO:Ev K σ F H (jjM (Kt.fl κ)) (rDT (κ:=κ) c) (some []):=by
 intro F1 H1 E z e Q k a ha;cases e;exact k _ F1 _ (Ext.newO E.sub ha) ⟨a,[],rfl,ha,E.sub.free ha,j_,.nil⟩
def jeR {mm_:Option α} (hd:Ev K σ F H td (rF (cFD c)) ml) (hk:Ev K σ F H ty (rF Kt.cd) mk) (e_:mm_=(ml.bind fun l=>mk.bind fun k=>WV l k)):Ev K σ F H (jgN td ty) (rF c) mm_:=by
 subst e_;intro F1 H1 E z e Q k;obtain⟨l,el,e⟩:=bind_some e;obtain⟨y,ey,e⟩:=bind_some e;unfold WV at e;refine hd F1 H1 E l el _ ?_;rintro w F2 H2 E2 hl;refine hk F2 H2 (E.trans E2) y ey _ fun v F3 H3 E3 hv=>?_;obtain⟨a,o,kvs,rfl,h1,h2⟩:=(cFD c).mono E3.f hl;obtain⟨b,rfl,hb⟩:=Kt.get hv;rcases jg9 (k:=y) h2 with⟨g1,g2⟩ | ⟨x,v,g1,g2,r⟩
 ·rw[g1] at e; cases e
 ·rw[g1] at e;cases e;refine⟨a,v,rfl,?_,k v F3 H3 (E2.trans E3) r⟩;rw[<- g2];exact .inr ⟨_,kvs,_,b,.inr ⟨o,E3.sub _ _ h1⟩,rfl,hb.mono fun _ _ z=>E3.sub _ _ z,rfl⟩
def jbd {y:κ}{l:List (κ×α)}{mm_:Option α} (hd:Ev K σ F H td (rF (cFD c)) (some l)) (hk:Ev K σ F H ty (rF Kt.cd) (some y)) (e_:mm_=WV l y):Ev K σ F H (jgN td ty) (rF c) mm_:=jeR hd hk e_
def jcD {mx mm_:Option α} (hd:Ev K σ F H td (pDT c).rs ml) (hk:Ev K σ F H ty (rF Kt.cd) mk) (hx:Ev K σ F H tv (rF c) mx) (e_:mm_=(ml.bind fun l=>mk.bind fun k=>mx.bind fun x=>some ((ja9 l k).getD x))):Ev K σ F H (jgP td ty tv) (rF c) mm_:=by
 subst e_;intro F1 H1 E z e Q k;obtain⟨l,el,e⟩:=bind_some e;obtain⟨y,ey,e⟩:=bind_some e;obtain⟨x0,ex,e⟩:=bind_some e;cases e;refine hd F1 H1 E l el _ ?_;rintro w F2 H2 E2 hl;obtain⟨a,kvs0,rfl,h10,h20⟩:=id hl;refine⟨a,rfl,.inr ⟨_,kvs0,.inl h10⟩,hk F2 H2 (E.trans E2) y ey _ fun v F3 H3 E3 hv=>hx F3 H3 (E.trans (E2.trans E3)) x0 ex _ fun u F4 H4 E4 hu=>?_⟩;obtain⟨a',kvs,ea,h1,h2⟩:=(pDT c).mono (E3.trans E4) hl;cases ea;obtain⟨b,rfl,hb⟩:=Kt.get hv;refine⟨WU kvs (Kt.k y),DGet.t h1 (hb.mono fun _ _ z=>E4.h _ _ (E3.sub _ _ z)),k _ F4 H4 (E2.trans (E3.trans E4)) ?_⟩;show c.rep K F4 ((ja9 l y).getD x0) ((WU kvs (Kt.k y)).getD u);rcases jg9 (k:=y) h2 with⟨g1,g2⟩ | ⟨x,v,g1,g2,r⟩
 ·rw[g1,g2]; exact hu
 ·rw[g1,g2]; exact r
def Zl {y:κ}{l:List (κ×α)}{x:α}{mm_:Option α} (hd:Ev K σ F H td (pDT c).rs (some l)) (hk:Ev K σ F H ty (rF Kt.cd) (some y)) (hx:Ev K σ F H tv (rF c) (some x)) (e_:mm_=some ((ja9 l y).getD x)):Ev K σ F H (jgP td ty tv) (rF c) mm_:=jcD hd hk hx e_
def jiP (hk:Ev K σ F H ty (rF Kt.cd) mk) (hv:Ev K σ F H tv (rF c) mv):Ev K σ F H (jg8 (Kt.fl κ) ty tv) (rDT c) (mk.bind fun k=>mv.bind fun v=>some [(k,v)]):=by
 intro F1 H1 E z e Q k p hp;obtain⟨y,ey,e⟩:=bind_some e;obtain⟨x,ex,e⟩:=bind_some e;cases e;have E0:Ext F1 H1 F1 (upd H1 p (.dT (Kt.fl κ) [])):=Ext.newO E.sub hp;have f0:F1 p=none:=E.sub.free hp;refine hk F1 _ (E.trans E0) y ey _ fun v F2 H2 E2 hv2=>hv F2 H2 (E.trans (E0.trans E2)) x ex _ fun u F3 H3 E3 hu=>?_;obtain⟨b,rfl,hb⟩:=Kt.get (Kt.cd.mono E3.f hv2);have E23:=E2.trans E3;have hp3:H3 p=some (.dT (Kt.fl κ) []):=E23.h _ _ j_;have o1:OwnDT (κ:=κ) K H1 F1 (upd H1 p (.dT (Kt.fl κ) [])) c [] p:=⟨hp,f0,[],j_,.nil⟩;have o3:=o1.mono E23;refine⟨b,Kt.k y,rfl,hb.mono fun _ _ z=>E3.sub _ _ z,hp3,k _ F3 _ ((E0.trans E23).upd hp o3.f) ⟨p,_,rfl,hp,o3.f,j_,.cons ⟨rfl,hu⟩ .nil⟩⟩
def jeS {mm_:Option (List (κ×α))} (hk:Ev K σ F H ty (rF Kt.cd) mk) (hv:Ev K σ F H tv (rF c) mv) (e_:mm_=(mk.bind fun k=>mv.bind fun v=>some [(k,v)])):Ev K σ F H (jg8 (Kt.fl κ) ty tv) (rDT c) mm_:=e_ ▸ jiP hk hv
def jk3 {m:Option (List (κ×α))}{f:List (κ×α)->Option δ}{r:δ} (he:Ev K σ F H te (rDT c) m) (X:Ext Fe He F H) (hm:m.bind f=some r) (k:∀ l a F' H',f l=some r->Ext F H F' H'->Ext Fe He F' H'->H a=none->OwnDT K He F' H' c l a->u' D (σ.set i (some (.ref a))) H'):Ul (VQ te (ql i)) u' D σ H:=by
 obtain⟨a,ea,hm⟩:=bind_some hm;refine he F H (Ext.refl X.sub) a ea _ ?_;rintro v F2 H2 E ⟨b,xs,rfl,h1,h2,h3,h4⟩;exact k a b F2 H2 hm E (X.trans E) h1 ⟨X.h.free h1,h2,xs,h3,h4⟩
def jiQ {l:List (κ×α)}{f:List (κ×α)->Option δ}{r:δ} (hi:σ[k']?=some (some (.ref a))) (o:OwnDT K He F H c l a) (hv:Ev K σ F H tv (rF c) mv) (hk:Ev K σ F H ty (rF Kt.cd) mk) (X:Ext Fe He F H) (hm:(mv.bind fun v=>mk.bind fun k=>jkS l k v).bind f=some r)
  (k:∀ l' F' H',f l'=some r->Chg a F H F' H'->Ext Fe He F' H'->OwnDT K He F' H' c l' a->D.nx σ H'):jkR (JJ k') ty tv D σ H:=by
 obtain⟨l',el,hm⟩:=bind_some hm;obtain⟨x,ex,el⟩:=bind_some el;obtain⟨y,ey,el⟩:=bind_some el;unfold jkS at el;obtain⟨hl,rfl⟩:=jV el;refine hv F H (Ext.refl X.sub) x ex _ fun v F2 H2 E hvv=>⟨_,hi,hk F2 H2 E y ey _ fun w F3 H3 E3 hw=>?_⟩;obtain⟨b,rfl,hb⟩:=Kt.get hw;have E':=E.trans E3;have o2:=o.mono E';obtain⟨kvs,h1,h2⟩:=o2.h;have h5:=jmU (k:=y) (c.mono E3.f hvv) h2;exact⟨a,_,rfl,DPut.t h1 (hb.mono fun _ _ z=>E3.sub _ _ z) (by rw[Xx,<- h2.length]; exact hl),k _ F3 _ hm (UW E') ((X.trans E').upd o.e o2.f) ⟨o.e,o2.f,_,j_,h5⟩⟩
def jiR {m:Option (List (κ×α))}{f:List (κ×α)->Option δ}{r:δ} (he:Ev K σ F H te (rDT c) m) (X:Ext Fe He F H) (hm:m.bind f=some r) (k:∀ l v F' H',f l=some r->Ext F H F' H'->Ext Fe He F' H'->(cFD c).rep K F' l v->D.nx (σ.set i (some v)) H'):sFz i te D σ H:=by
 obtain⟨l,el,hm⟩:=bind_some hm;refine he F H (Ext.refl X.sub) l el _ ?_;rintro v F2 H2 E ⟨a,kvs,rfl,h1,h2,h3,h4⟩;refine⟨a,_,kvs,rfl,h3,fun o=>?_⟩;have E2:Ext F H (upd F2 a (.frz o (.dT (Kt.fl κ) kvs))) (upd H2 a (.frz o (.dT (Kt.fl κ) kvs))):=⟨E.f.trans (qM h2),Same.upd2 E.h h1,fun b u hb=>by
  by_cases q:b=a
  ·subst q; exact .inr (Y1 h1)
  ·rw[km q] at hb; exact E.new b u hb,Same.updB E.sub⟩
 exact k l _ _ _ hm E2 (X.trans E2) ⟨a,o,kvs,rfl,j_,Paired.mapP h4 fun _ _=>KtR.mono (qM h2)⟩
def jk4 {m:Option (List (κ×α))}{f:List (κ×α)->Option δ}{r:δ} (he:Ev K σ F H te (rDT c) m) (X:Ext Fe He F H) (hm:m.bind f=some r) (k:∀ l v F' H',f l=some r->Ext F H F' H'->Ext Fe He F' H'->(cFD c).rep K F' l v->u' D (σ.set i (some v)) H'):Ul (sFz i te) u' D σ H:=
 jiR (D:={ D with nx:=u' D }) he X hm k
def jk5 {j:Nat}{l:List (κ×α)}{f:List (κ×α)->Option δ}{r:δ} (hi:σ[j]?=some (some (.ref a))) (o:OwnDT K He F H c l a) (X:Ext Fe He F H) (hm:(some l).bind f=some r) (k:∀ l v F' H',f l=some r->Chg a F H F' H'->Ext Fe He F' H'->(cFD c).rep K F' l v->D.nx (σ.set i (some v)) H'):sFz i (JJ j) D σ H:=by
 obtain⟨kvs,h1,h2⟩:=o.h;refine⟨_,hi,a,_,kvs,rfl,h1,fun ob=>?_⟩;have X2:Ext Fe He (upd F a (.frz ob (.dT (Kt.fl κ) kvs))) (upd H a (.frz ob (.dT (Kt.fl κ) kvs))):=⟨X.f.trans (qM o.f),Same.upd2 X.h o.e,fun b u hb=>by
  by_cases q:b=a
  ·subst q; exact .inr (Y1 o.e)
  ·rw[km q] at hb; exact X.new b u hb,Same.updB X.sub⟩
 exact k l _ _ _ hm ⟨qM o.f,fun b u q h=>by rw[km q]; exact h,fun b u q h=>by rw[km q] at h; exact .inl h⟩ X2 ⟨a,ob,kvs,rfl,j_,Paired.mapP h2 fun _ _=>KtR.mono (qM o.f)⟩
def jg_ {F:Hp}{b:Addr} (s2:Same F H) (hb:H b=some (.tup xs)):∃ F',Ext F H F' H/\F' b=some (.tup xs):=by
 refine⟨upd F b (.tup xs),⟨fun c' u hc=>?_,Same.refl _,fun c' u hc=>?_,fun c' u hc=>?_⟩,j_⟩
 ·by_cases z:c'=b
  ·subst z;have:=s2 _ _ hc;rw[hb] at this;rw[j_];exact this
  ·rw[km z]; exact hc
 ·by_cases z:c'=b
  ·subst z;exact .inr (jmg hb)
  ·rw[km z] at hc; exact .inl hc
 ·by_cases z:c'=b
  ·subst z;rw[j_] at hc;rw[<- hc];exact hb
  ·rw[km z] at hc; exact s2 _ _ hc
def jk6 {F:Hp}{b:Addr} (s2:Same F H) (hb:TupK fl H ks b):∃ F',Ext F H F' H/\TupK fl F' ks b:=by
 cases fl with
 | false=>exact jg_ s2 hb
 | true=>
  obtain⟨k,r,t,e,h1,h2⟩:=hb;obtain⟨F1,E1,z1⟩:=jg_ s2 h2;obtain⟨F2,E2,z2⟩:=jg_ E1.sub h1;exact⟨F2,E1.trans E2,k,r,t,e,z2,E2.f _ _ z1⟩
def jmV {l:List (κ×α)} (h:∀ F H,G F H->F a=some (.frz o (.dT (Kt.fl κ) kvs))/\Same F H) (hp:Paired (KtR K F1 c) l kvs):ItOk K (Itk (Kt.fl κ) a o kvs.length) Kt.cd (l.map (·.1)) G where
 go:=fun i F H g hi=>by
  rw[Xj,hp.length] at hi;exact⟨kvs,(h F H g).2 _ _ (h F H g).1,rfl,hi⟩
 yld:=fun i F H x H' g y k hk=>by
  obtain⟨e,b,rfl,y⟩:=y;subst e;obtain⟨s1,s2⟩:=h F H' g;rw[Xw] at hk;obtain⟨p,hpi,rfl⟩:=Option.map_eq_some_iff.mp hk;obtain⟨q,hq,r1,r2⟩:=Paired.at hp hpi;have hb:=y kvs q (s2 _ _ s1) hq;rw[r1] at hb;obtain⟨F',E',hF⟩:=jk6 s2 hb;exact⟨F',E',Kt.put hF⟩
 stop:=fun F H g=>by
  rw[Xj,hp.length];exact⟨kvs,(h F H g).2 _ _ (h F H g).1,rfl,Xe _⟩
def jmW {m:Option (List (κ×α))} (h:Ev K σ F H t (rF (cFD c)) m):Ei K σ F H Fe He (jnU t) (Kt.cd (κ:=κ)) (m.bind fun l=>some (l.map (·.1))):=by
 intro X l e R k;obtain⟨l0,e0,e⟩:=bind_some e;cases e;refine h F H (Ext.refl X.sub) l0 e0 _ ?_;rintro v F2 H2 E ⟨a,o,kvs,rfl,h1,h2⟩;exact⟨a,o,_,kvs,rfl,E.sub _ _ h1,k _ F2 H2 E (jmV (F1:=F2) (fun F' H' g=>⟨g.2 _ _ h1,g.1.sub⟩) h2)⟩
def jeT {l:List (κ×α)}{mm_:Option (List κ)} (h:Ev K σ F H t (rF (cFD c)) (some l)) (e_:mm_=some (l.map (·.1))):Ei K σ F H Fe He (jnU t) (Kt.cd (κ:=κ)) mm_:=e_ ▸ jmW h
end
end L3
namespace L2
open PySem PySem.Spec PyProof.Rows
section
open Builtin.Str in
def QP (x:Str):List Str:=if (decide (x.length<(" ":Str).length)||decide (strKind x<strKind (" ":Str)))=true then [x] else if (occurrences x (" ":Str) 0 x.length (x.length+1)).isEmpty=true then [x] else partsBetween x (occurrences x (" ":Str) 0 x.length (x.length+1)) (" ":Str).length
def jd0:V->List V->Hp->VK->Prop:=fun x vs H Q=>∃ z:Str,x=.str z/\vs=[.str (" ":Str)]/\z.length<=sizeLine/\(QP z).length<=sizeLine/\∀ p,H p=none->Q (.ref p) (upd H p (.lst ((QP z).map V.str)))
def jbe:∀ (ws:List Str) (t:Nat),Vals (ws.map V.str) (strsFrom t ws)
 | [],_=>.nil
 | _::ws,t=>.cons ⟨_,rfl⟩ (jbe ws (t+1))
def Ux:MtM X "str.split" jd0:=by
 intro pins s σ H x vs v us Q I rx rv h;obtain⟨z,rfl,rfl,hz,hn,q⟩:=h;obtain⟨t,rfl⟩:=rx;obtain⟨u,rfl,ru⟩:=rv.one;obtain⟨t',rfl⟩:=ru;have hT:=typeIs_str s z t;by_cases h1:(decide (z.length<(" ":Str).length)||decide (Builtin.Str.strKind z<Builtin.Str.strKind (" ":Str)))=true
 ·have e:QP z=[z]:=by unfold QP; rw[if_pos h1]
  rw[e] at q;refine call_meets F.slot_str_split hT F.entry_str_split (F.args_str_split_2 _ _) (meets_str_split_cannot_occur z _ t t' h1) ?_;exact⟨.ref _,_,I.lnew (t':=s.toks) (ys:=[V.str z]) (its:=[Value.str z t]) (.cons (show RelV (V.str z) (Value.str z t) from ⟨_,rfl⟩) .nil) (by rw[Xx]; show 1<=16777216; decide),rfl,q _ I.fresh⟩
 ·have h1':=eq_false_of_ne_true h1;by_cases h2:(Builtin.Str.occurrences z (" ":Str) 0 z.length (z.length+1)).isEmpty=true
  ·have e:QP z=[z]:=by unfold QP; rw[if_neg h1,if_pos h2]
   rw[e] at q;refine call_meets F.slot_str_split hT F.entry_str_split (F.args_str_split_2 _ _) (meets_str_split_not_found z _ t t' h1' (by decide) h2) ?_;exact⟨.ref _,_,I.lnew (t':=s.toks) (ys:=[V.str z]) (its:=[Value.str z t]) (.cons (show RelV (V.str z) (Value.str z t) from ⟨_,rfl⟩) .nil) (by rw[Xx]; show 1<=16777216; decide),rfl,q _ I.fresh⟩
  ·have e:QP z=Builtin.Str.partsBetween z (Builtin.Str.occurrences z (" ":Str) 0 z.length (z.length+1)) (" ":Str).length:=by unfold QP; rw[if_neg h1,if_neg h2]
   rw[e] at q hn;refine call_meets F.slot_str_split hT F.entry_str_split (F.args_str_split_2 _ _) (meets_str_split_sep z _ t t' h1' (by decide) (eq_false_of_ne_true h2) hz hn) ?_;exact⟨.ref _,_,I.lnew (its:=strsFrom s.toks _) (jbe _ _) (by rw[Xj]; exact hn),rfl,q _ I.fresh⟩
end
end L2
namespace L3
open PySem PySem.Spec L2
section
variable {F:Hp}{t:TE} 
@[irreducible] def Gw (x:Str):Option (List Str):=if x.length<=sizeLine/\(QP x).length<=sizeLine then some (QP x) else none
def Vt {F:Hp}:∀ (ws:List Str),Paired (cS.rep K F) ws (ws.map V.str)
 | []=>.nil
 | _::ws=>.cons rfl (Vt ws)
def jd1 {m:Option Str} (h:Ev K σ F H t (rF cS) m) (hb:Ev K σ F H tb (rF cS) (some (" ":Str))):Ev K σ F H (tBM K "str" jd0 t (jJ tb xq)) (rO cS) (m.bind fun x=>Gw x):=by
 intro F1 H1 E z e Q k;obtain⟨x,ex,e⟩:=bind_some e;unfold Gw at e;obtain⟨hc,rfl⟩:=jV e;refine h F1 H1 E x ex _ fun v F2 H2 E2 hv=>?_;obtain rfl:v=.str x:=hv;refine⟨rfl,hb F2 H2 (E.trans E2) _ rfl _ fun w F3 H3 E3 hw=>?_⟩;obtain rfl:w=.str (" ":Str):=hw;exact⟨x,rfl,rfl,hc.1,hc.2,fun p hp=>yO E3.sub (Vt _) (fun v F4 H4 E4 r=>k v F4 H4 (E2.trans (E3.trans E4)) (let ⟨a,xs,e1,e2,e3⟩:=r; ⟨a,xs,e1,(E2.trans E3).h.free e2,e3⟩)) p hp⟩
def QA {m:Option Str}{mm_:Option (List Str)} (h:Ev K σ F H t (rF cS) m) (hb:Ev K σ F H tb (rF cS) (some (" ":Str))) (e_:mm_=m.bind fun x=>Gw x):Ev K σ F H (tBM K "str" jd0 t (jJ tb xq)) (rO cS) mm_:=e_ ▸ jd1 h hb
def jbf {mm_:Option (List Str)} (h:Ev K σ F H t (rF cS) (some x)) (hb:Ev K σ F H tb (rF cS) (some (" ":Str))) (e_:mm_=Gw x):Ev K σ F H (tBM K "str" jd0 t (jJ tb xq)) (rO cS) mm_:=e_ ▸ jd1 h hb
@[irreducible] def jk7 (x:Str):Option Int:=if x.length<=sizeLine then some (x.length:Int) else none
def jmX:Op1 K (fun x H Q=>∃ z:Str,[x]=[V.str z]/\z.length<=sizeLine/\Q (.int z.length) H) (pF cS) (rF cI) (fun x=>jk7 x):=by
 intro F H a x s hx z hz Q k;unfold jk7 at hz;obtain⟨hc,rfl⟩:=jV hz;obtain rfl:x=.str a:=hx;exact⟨a,rfl,hc,k _ F H (Ext.refl s) rfl⟩
@[irreducible] def inS (x y:Str):Bool:=!(Builtin.Str.occurrences y x 0 y.length 1).isEmpty
def jnV:Op2 K (fun x y H Q=>∃ i j,x=V.str i/\y=V.str j/\Q (.bl (!(Builtin.Str.occurrences j i 0 j.length 1).isEmpty)) H) (pF cS) (pF cS) (rF cB) (fun a b=>some (inS a b)):=by
 intro F H a b x y s hx hy z hz Q k;cases hz;obtain rfl:x=.str a:=hx;obtain rfl:y=.str b:=hy;refine⟨a,b,rfl,rfl,k _ F H (Ext.refl s) ?_⟩;unfold inS;rfl
@[irreducible] def atS (x:Str) (i:Int):Option Str:=if x.length<=sizeLine then (atI x.cps.toList i).map fun c=>⟨#[c]⟩ else none
def jnW:Op2 K jom (pF cS) (pF cI) (rF cS) (fun a b=>atS a b):=by
 intro F H a b x y s hx hy z hz Q k;unfold atS at hz;dsimp only at hz;by_cases hc:a.length<=sizeLine
 ·rw[if_pos hc] at hz;obtain⟨c,hc2,rfl⟩:=Option.map_eq_some_iff.mp hz;obtain rfl:x=.str a:=hx;obtain rfl:y=.int b:=hy;exact⟨a,b,c,rfl,rfl,hc,hc2,k _ F H (Ext.refl s) rfl⟩
 ·rw[if_neg hc] at hz; cases hz
end
end L3
namespace L2
open PySem PySem.Spec PyProof.Rows
section
def jiS {d:Addr}{es:Array DictEntry}{Q:Option Value->Shared->Prop} (hI:s.heap.IsValIter it d i n ep) (ho:s.heap.get? d=some o) (hD:o.data=.dict es ep) (hn:es.size=n) (hi:i<es.size)
  (k:∀ h',h'.IsValIter it d (i+1) n ep->Heap.SameBut it s.heap h'->Q (some es[i].val) { s with heap:=h' }):wpAny (model prog w) A (pyNext (.ref it)) Q E s:=by
 obtain⟨oi,gi,ci,di⟩:=id hI;have tI:=hI.typeIs;unfold pyNext;refine Xa (wpAny_attempt (wpAny_callSpecial?_slot (name:=Str.ofString "__next__") tI F.slot_dict_valueiterator_next (XH F.slot_dict_valueiterator_next tI F.entry_dict_valueiterator_next ?_ (F.args_dict_valueiterator_next_1 _))));refine Xa (Xb (Xa (Xa ?_)))
 first | refine Xa (wpAny_typeNameOfWhole_valiter tI (Xb ?_)) | refine Xa (wpAny_typeNameOf_valiter tI (Xb ?_))
 refine Xa (wpAny_fieldsOf gi di ?_);have no:Builtin.Dict_items.ownsTuple "dict_valueiterator"=false:=by decide
 rw[no];simp only[XF,XY];show wpAny _ _ (if (Value.ref d==Value.none)=true then _ else _) _ _ s;rw[if_neg (show ¬ ((Value.ref d==Value.none)=true) from Xh)];refine Xa (Xb (Xa (wpAny_dictEntries ho hD ?_)));rw[if_neg (by rw[hn]; simp)];refine Xa (Xb (Xa (wpAny_dictEpoch ho hD ?_)));rw[if_neg (by simp)];refine Xb ?_;have ni:¬ ((i:Int)<0):=by omega
 simp only[ni,XY,XR,Array.getElem?_eq_getElem hi];refine Xa ?_
 first | refine Xa (wpAny_typeNameOfWhole_valiter tI (Xb ?_)) | refine Xa (wpAny_typeNameOf_valiter tI (Xb ?_))
 refine Xa (wpAny_isOneOf_valiter tI ?_);show wpAny _ _ (setField (.ref it) 1 (rawInt ((i:Int)+1)) >>= _) _ _ s;refine Xa (wpAny_setField gi di (by simp) ?_);have hI2:(s.heap.update it (Obj.mapFields (·.setIfInBounds 1 (rawInt ((i:Int)+1))))).IsValIter it d (i+1) n ep:=
  ⟨_,Heap.get?_update_self _ gi (Obj.isFreed_of_fields (Obj.data_mapFields di _)),(Obj.cls_mapFields ..).trans ci,by rw[Obj.data_mapFields di]; simp[rawInt]⟩
 refine Xa (X8 ?_);refine Xa (wpAny_isOneOf_valiter (s:={ s with heap:=s.heap.update it (Obj.mapFields (·.setIfInBounds 1 (rawInt ((i:Int)+1)))) }) hI2.typeIs ?_)
 refine Xa (wpAny_isOneOf_valiter (s:={ s with heap:=s.heap.update it (Obj.mapFields (·.setIfInBounds 1 (rawInt ((i:Int)+1)))) }) hI2.typeIs ?_)
 show wpAny _ _ (pure es[i].val) _ _ _;exact Xb (Xb ⟨_,rfl,Xb (k _ hI2 (Heap.SameBut.update ..))⟩)
def jeU {d:Addr}{es:Array DictEntry}{Q:Option Value->Shared->Prop} (hh:A.handled=none) (hI:s.heap.IsValIter it d i n ep) (ho:s.heap.get? d=some o) (hD:o.data=.dict es ep) (hn:es.size=n) (hi:es.size<=i)
  (k:∀ h',Heap.ExtBut it s.heap h'->Q none { s with heap:=h' }):wpAny (model prog w) A (pyNext (.ref it)) Q E s:=by
 obtain⟨oi,gi,ci,di⟩:=id hI;have tI:=hI.typeIs;unfold pyNext;refine Xa (wpAny_attempt (wpAny_callSpecial?_slot (name:=Str.ofString "__next__") tI F.slot_dict_valueiterator_next (XH F.slot_dict_valueiterator_next tI F.entry_dict_valueiterator_next ?_ (F.args_dict_valueiterator_next_1 _))));refine Xa (Xb (Xa (Xa ?_)))
 first | refine Xa (wpAny_typeNameOfWhole_valiter tI (Xb ?_)) | refine Xa (wpAny_typeNameOf_valiter tI (Xb ?_))
 refine Xa (wpAny_fieldsOf gi di ?_);have no:Builtin.Dict_items.ownsTuple "dict_valueiterator"=false:=by decide
 rw[no];simp only[XF,XY];show wpAny _ _ (if (Value.ref d==Value.none)=true then _ else _) _ _ s;rw[if_neg (show ¬ ((Value.ref d==Value.none)=true) from Xh)];refine Xa (Xb (Xa (wpAny_dictEntries ho hD ?_)));rw[if_neg (by rw[hn]; simp)];refine Xa (Xb (Xa (wpAny_dictEpoch ho hD ?_)));rw[if_neg (by simp)];refine Xb ?_;have ni:¬ ((i:Int)<0):=by omega
 simp only[ni,XY,XR,Array.getElem?_eq_none hi];refine Xa ?_
 first | refine Xa (wpAny_typeNameOfWhole_valiter tI (Xb ?_)) | refine Xa (wpAny_typeNameOf_valiter tI (Xb ?_))
 show wpAny _ _ (setField (.ref it) 0 .none >>= _) _ _ s;refine Xa (wpAny_setField gi di (by simp) ?_);show wpAny _ _ (newExc (.type "StopIteration") [] >>= _) _ _ _;refine Xa ?_;simp only[newExc,newTuple];refine Xa (XN (Xa (m:=firstArgMember _ _) (wpAny_of_eq (a:=Value.none) (by first | rfl | (simp only[firstArgMember]; rfl)) (XN ?_ (by size_fits)))) (by size_fits))
 simp only[raiseNew];refine Xa (wpAny_handled ?_);have h0:A.in1.handled=none:=hh;rw[h0];refine Xa (Xb (wpAny_throw ?_));refine Xa (wpAny_isInstance (T:="StopIteration") (b:=true) ⟨_,Xi _ rfl,rfl⟩ isSubtype_stop (Xb (k _ ?_)));exact((Heap.SameBut.update ..).extBut.push _).push _
def jiT {v d:Addr}{es:Array DictEntry} (hv:s.heap.IsValuesView v d) (ho:s.heap.get? d=some o) (hD:o.data=.dict es ep)
  (k:Q (.ref s.heap.objs.size) { s with heap:=s.heap.push { cls:=.type "dict_valueiterator",data:=.fields #[.ref d,.int 0 0,.int es.size 0,.int ep 0] } }):wpAny (model prog w) A (pyIter (.ref v)) Q E s:=by
 obtain⟨ov,hov,hcv,hdv⟩:=id hv;refine wpAny_pyIter_slot hv.typeIs F.slot_dict_values_iter (XH F.slot_dict_values_iter hv.typeIs F.entry_dict_values_iter ?_ (F.args_dict_values_iter_1 _));unfold Builtin.«dict_values.__iter__»;refine Xa (Xb ?_);refine Xa ?_;unfold Builtin.Dict_items.dictOf;refine Xa (wpAny_field hov hdv (x:=.ref d) rfl (Xb ?_));refine Xa ?_;unfold Builtin.Dict_items.newIterator;refine Xa (wpAny_dictEntries ho hD ?_);refine Xa (wpAny_dictEpoch ho hD ?_);have hown:Builtin.Dict_items.ownsTuple "dict_valueiterator"=false:=by decide
 simp only[hown,XF,XY];refine XN (Xb ⟨_,rfl,"dict_valueiterator",_,⟨_,Xi _ rfl,rfl⟩,F.slot_dict_valueiterator_next.lookup,?_⟩);simpa [rawInt] using k
def jha {d:Addr} (hd:(d==sysModules)=false) (tD:s.TypeIs (.ref d) "dict")
  (k:Q (.ref s.heap.objs.size) { s with heap:=s.heap.push { cls:=.type "dict_values",data:=.fields #[.ref d] } }):wpAny (model prog w) A (call (.builtin "dict.values") [.ref d]) Q E s:=by
 refine XH F.slot_dict_values tD F.entry_dict_values ?_ (F.args_dict_values_1 _);refine Xa ?_;unfold Builtin.Dict.noArgs;refine Xa (wpAny_notOrdered_dict tD ?_);show wpAny _ _ (pure d) _ _ s;refine Xb ?_;show wpAny _ _ (Builtin.Dict.showsAll d >>= _) _ _ s;unfold Builtin.Dict.showsAll;rw[if_neg (by rw[hd]; exact Xh)];refine Xa (Xb ?_);exact Xa (XN (Xb ⟨_,rfl,k⟩))
end
section
def Inv.dtv (I:Inv X pins σ H s) (e:H a=some (.frz o (.dT fl kvs))):s.heap.get? a=some o/\∃ es ep,o.data=.dict es ep/\es.size=kvs.length /\
  ∀ (i:Nat) (hi:i<es.size) (kv:List Key×V),kvs[i]?=some kv->RelV kv.2 es[i].val:=by
 obtain⟨h1,z,y,xs,r,o',es,ep,h2,h3,h4,h5,h6⟩:=I.hok a _ e;rw[h1] at h2;cases h2;have hl:es.size=xs.length:=by rw[<- Xt,h5,Xj]
 refine⟨h1,es,ep,h4,by rw[hl,Paired.length r],fun i hi kv hk=>?_⟩;obtain⟨x,hx,q1,q2,q3⟩:=L3.Paired.at r hk;have e1:es.toList[i]?=some es[i]:=by rw[Array.getElem?_toList]; simp[hi]
 rw[h5,Xw,hx] at e1;have e2:entryOfKey (kdT fl X.prog X.w) x=es[i]:=by simpa using e1
 rw[<- e2];exact q3
def Ivl (fl:Bool) (a:Addr) (o:Obj) (n:Nat):It:=
 ⟨fun i H=>∃ kvs,H a=some (.frz o (.dT fl kvs))/\kvs.length=n/\i<n,fun i H x H'=>H'=H/\∀ kvs kv,H a=some (.frz o (.dT fl kvs))->kvs[i]?=some kv->x=kv.2,fun i H=>∃ kvs,H a=some (.frz o (.dT fl kvs))/\kvs.length=n/\n<=i⟩
def jhb (a it:Addr) (o:Obj) (n:Nat):Turn P w K tg (Ivl fl a o n) [it] it (fun i h=>∃ es ep,o.data=.dict es ep/\h.IsValIter it a i n ep) where
 mem:=by simp
 obj:=fun i h st b hb=>by
  have e:b=it:=by simpa using hb
  subst e;obtain⟨es,ep,_,oi,e,c,d⟩:=st;exact⟨oi,e,fun v z=>by rw[d] at z; cases z⟩
 keep:=fun i h h' st k=>let ⟨es,ep,h1,h2⟩:=st; ⟨es,ep,h1,h2.at fun o e=>k it (by simp) o e⟩
 item:=by
  intro X hP hw hK hc i pins s σ H E I hf st hg;subst hP hw hK;obtain⟨kvs,e1,hn,hi⟩:=hg;obtain⟨es',ep',d',st⟩:=st;obtain⟨ho,es,ep,hd,hz,hk⟩:=I.dtv e1;rw[hd] at d';cases d';obtain⟨f0,f1,f2,f3,f4,f5⟩:=hf it (by simp);have hi':i<es'.size:=by omega
  have rv:=hk i hi' (kvs[i]'(by omega)) (Xc _);refine jiS st ho hd (by omega) hi' fun h' st' sb=>?_;have I1:Inv X pins σ H { s with heap:=h' }:=I.turned (t':=s.toks) (fun b o hb e=>(sb.2 b hb).trans e) f0 f1 f3 f4 f5
  obtain⟨oi,e,c,d⟩:=id st';refine⟨_,rfl,jaD (s:={ s with heap:=h' }) e c d (by decide) ⟨_,H,I1,rv,⟨rfl,fun kvs' kv q1 q2=>?_⟩,⟨es',ep',hd,st'⟩,fun b hb=>(hf b hb).1⟩⟩
  rw[e1] at q1;cases q1;rw[Xc (by omega)] at q2;cases q2;rfl
 done:=by
  intro X hP hw hK hc i pins s σ H E I hf st hg;subst hP hw hK;obtain⟨kvs,e1,hn,hi⟩:=hg;obtain⟨es',ep',d',st⟩:=st;obtain⟨ho,es,ep,hd,hz,hk⟩:=I.dtv e1;rw[hd] at d';cases d';obtain⟨f0,f1,f2,f3,f4,f5⟩:=hf it (by simp);exact jeU (I.ok.hd hc) st ho hd (by omega) (by omega) fun h' eb=>⟨rfl,I.turned (t':=s.toks) (fun b o hb e=>eb b o hb e) f0 f1 f3 f4 f5⟩
 self:=fun _ _ _ _ _ st h=>let ⟨_,_,_,st⟩:=st; wpAny_pyIter_valiter st h
def jk8 (te:TE):TI:=fun σ H R=>te σ H fun x H1=>∃ a o fl kvs,x=.ref a/\H1 a=some (.frz o (.dT fl kvs))/\R (Ivl fl a o kvs.length) H1
def jk9 {l:Expr}{tl:TE} (hl:PE X l tl) (hbase:attributeBase l "values" X.env (eval l X.env)=eval l X.env:=by rfl) (hline:(apos.endLine==cpos.line)=true:=by rfl):PI X tg (.Call (.Attribute l "values" apos) [] [] cpos) (jk8 tl):=by
 intro pins s σ H R I h;refine wpAny_Call_method0_late hbase hline (thn (hl pins s σ H _ I h) fun v s1 ⟨x,H1,I1,r1,a,o,fl,kvs,ex,e1,q⟩=>?_);subst ex;obtain rfl:v=Value.ref a:=r1;obtain⟨t1,t2,t3⟩:=jjN I1 (.inr ⟨fl,kvs,.inr ⟨o,e1⟩⟩);refine⟨"dict","dict.values",PySem.F.plainAttrs_dict,PySem.F.slot_dict_values,PySem.F.type_dict_values,t1,t2,Calls.callWith_builtin rfl (PySem.evalArgs_none (jha t3 t1 ?_))⟩;obtain⟨ho,es,ep,hd,hz,hk⟩:=I1.dtv e1;have I2:Inv X pins σ H1 { s1 with heap:=s1.heap.push { cls:=.type "dict_values",data:=.fields #[.ref a] } }:=I1.kept (t':=s1.toks) fun b o e=>Xd _ e
 refine jiT (s:={ s1 with heap:=s1.heap.push { cls:=.type "dict_values",data:=.fields #[.ref a] } }) ⟨_,Xi _ rfl,rfl,rfl⟩ (Xd _ ho) hd ?_
 refine⟨_,[_],_,_,H1,rfl,I2.kept (t':=s1.toks) fun b o e=>Xd _ e,jhb a _ o kvs.length,⟨es,ep,hd,_,Xi _ rfl,rfl,by rw[hz]; rfl⟩,fun b hb=>?_,q⟩;have e:=List.mem_singleton.mp hb;rw[e];exact I2.fpOk (Xe _) (I2.hok.fresh (Xe _))
end
end L2
namespace L3
open PySem PySem.Spec L2
section
variable [DecidableEq κ] [Kt κ] {F:Hp}{t:TE} 
def jk_ {l:List (κ×α)} (h:∀ F H,G F H->F a=some (.frz o (.dT (Kt.fl κ) kvs))/\Same F1 F/\Same F H) (hp:Paired (KtR K F1 c) l kvs):ItOk K (Ivl (Kt.fl κ) a o kvs.length) c (l.map (·.2)) G where
 go:=fun i F H g hi=>by
  rw[Xj,hp.length] at hi;exact⟨kvs,(h F H g).2.2 _ _ (h F H g).1,rfl,hi⟩
 yld:=fun i F H x H' g y k hk=>by
  obtain⟨e,y⟩:=y;subst e;obtain⟨s1,s3,s2⟩:=h F H' g;rw[Xw] at hk;obtain⟨p,hpi,rfl⟩:=Option.map_eq_some_iff.mp hk;obtain⟨q,hq,r1,r2⟩:=Paired.at hp hpi;rw[y kvs q (s2 _ _ s1) hq];exact⟨F,Ext.refl s2,c.mono s3 r2⟩
 stop:=fun F H g=>by
  rw[Xj,hp.length];exact⟨kvs,(h F H g).2.2 _ _ (h F H g).1,rfl,Xe _⟩
def jla {m:Option (List (κ×α))} (h:Ev K σ F H t (rF (cFD c)) m):Ec K σ F H (jk8 t) c (m.bind fun l=>some (l.map (·.2))):=by
 intro F1 H1 X l e R k;obtain⟨l0,e0,e⟩:=bind_some e;cases e;refine h F1 H1 X l0 e0 _ ?_;rintro v F2 H2 E ⟨a,o,kvs,rfl,h1,h2⟩;exact⟨a,o,_,kvs,rfl,E.sub _ _ h1,k _ F2 H2 E (jk_ (F1:=F2) (fun F' H' g=>⟨g.f _ _ h1,g.f,g.sub⟩) h2)⟩
def jcE {l:List (κ×α)} (h:Ev K σ F H t (rF (cFD c)) (some l)) (e_:mm_=some (l.map (·.2))):Ec K σ F H (jk8 t) c mm_:=e_ ▸ jla h
end
structure BiX (P:Program) (w:World) (K:W.Frag) (mg:Str->Option Value) (base:Heap):Prop extends Bi mg
def scK {P:List Str} (h1:sc.kind=.function:=by rfl) (h2:sc.isCoroutine=false:=by rfl) (h3:sc.isGenerator=false:=by rfl) (h4:N.Nodup:=by decide +kernel) (h5:N.take P.length=P:=by rfl)
  (h6:∀ x∈P,sc.names.lookup x=some .local \/ sc.names.lookup x=some .cell:=by decide +kernel) (h7:∀ y∈sc.names,y.2≠.free:=by decide +kernel):FnScope N P sc:=⟨h1,h2,h3,h4,h5,h6,h7⟩
section
def pS (hN:X.N.Nodup) (he:PE X e te) (hi:X.N[i]?=some x:=by rfl) (hx:Loc X.env.scope x:=by first | exact Or.inl rfl | exact Or.inr rfl) (hs:swapsWith e (some (.Name x pos')) pos.line X.env=pure false:=by rfl)
  (hf:X.fn x=true \/ X.env.scope.names.lookup x=some .local:=by first | exact .inl rfl | exact .inr rfl):PS X (.Assign [.Name x pos'] e pos) (VQ te (ql i)):=jl3 hN hi hx he hs hf
def pG (hN:X.N.Nodup) (hi:X.N[i]?=some x:=by rfl) (hx:Loc X.env.scope x:=by first | exact Or.inl rfl | exact Or.inr rfl) (hf:X.fn x=true \/ X.env.scope.names.lookup x=some .local:=by first | exact .inl rfl | exact .inr rfl):PG X (.Name x pos) (ql i):=kA hN hi hx hf
def kB {r:List V->Hp->VK->Prop}{id:String}{p:Pos}{t:TE} (hc:GS X (.builtin id) r) (hm:X.mg x=none) (ha:PE X e t) (hg:Gl X x:=by rfl) (hv:bootBuiltins x=some (.builtin id):=by kernel_rfl) (hn:x≠"__name__":=by decide) (hdb:(x==("__debug__":Str))=false:=by decide)
  (he:starEach [e] X.env=(false,eval e X.env)::starEach [] X.env:=by rfl) (hpl:(backTo pos (starEach [] X.env)).any (·.1)=false:=by rfl):PE X (.Call (.Name x p) [e] [] pos) (tCB r (jJ t xq)):=jhY hc hg hm hv (jc ha je he) hn hdb he hpl
def cY {r:List V->Hp->VK->Prop}{p:Pos}{t:TE} (hc:GS X (.type T) r) (hm:X.mg x=none) (ha:PE X e t) (hg:Gl X x:=by rfl) (hv:bootBuiltins x=some (.type T):=by kernel_rfl) (hn:x≠"__name__":=by decide) (hdb:(x==("__debug__":Str))=false:=by decide)
  (he:starEach [e] X.env=(false,eval e X.env)::starEach [] X.env:=by rfl) (hpl:(backTo pos (starEach [] X.env)).any (·.1)=false:=by rfl):PE X (.Call (.Name x p) [e] [] pos) (tCB r (jJ t xq)):=jfI hc hg hm hv (jc ha je he) hn hdb he hpl
def pD_ {k j:Nat}{p:Pos}{t:TA} (D:Def X.prog X.w X.K X.mg X.base x k ps sp) (hr:Room j X.A) (ha:PA X (e::es) t) (hj:k<=j:=by decide) (hg:Gl X x:=by rfl) (hdb:(x==("__debug__":Str))=false:=by decide)
  (he:starEach (e::es) X.env=(false,eval e X.env)::starEach es X.env:=by rfl) (hpl:(backTo pos (starEach es X.env)).any (·.1)=false:=by rfl):PE X (.Call (.Name x p) (e::es) [] pos) (QZ sp [] E0 t):=jmf D (hr.mono hj) hg ha hdb he hpl
def pX {a b:Expr}{r:R2} (hr:IxR X r) (ha:PE X a ta) (hb:PE X b tb) (hs:jfM b:=by intro _ _; rfl):PE X (.Subscript a b pos) (tOp r ta tb):=jnH hr ha hb hs
end
section
variable {F:Hp} 
def eV {a:α} (h:c.rep K F a v) (hi:σ[i]?=some (some v):=by rfl):Ev K σ F H (JJ i) (rF c) (some a):=jZ (p:=pF c) hi h
def eI {a:Int} (hi:σ[i]?=some (some (.int a)):=by rfl):Ev K σ F H (JJ i) (rF cI) (some a):=jbQ hi
end
def joL (h:us.length=[x].length):∃ a,us=[a]:=match us,h with | [a],_=>⟨a,rfl⟩
def joM {y:Str} (h:us.length=[x,y].length):∃ a b,us=[a,b]:=match us,h with | [a,b],_=>⟨a,b,rfl⟩
def joN {y z:Str} (h:us.length=[x,y,z].length):∃ a b c,us=[a,b,c]:=match us,h with | [a,b,c],_=>⟨a,b,c,rfl⟩
def joO {y z u:Str} (h:us.length=[x,y,z,u].length):∃ a b c d,us=[a,b,c,d]:=match us,h with | [a,b,c,d],_=>⟨a,b,c,d,rfl⟩
def joP {y z u v:Str} (h:us.length=[x,y,z,u,v].length):∃ a b c d e,us=[a,b,c,d,e]:=match us,h with | [a,b,c,d,e],_=>⟨a,b,c,d,e,rfl⟩
structure FunX (K:W.Frag) (x qual:Str) (st:Stmt) (f:Addr):Prop where
 ex:∃ fd,Fun K x qual st f fd
section
variable {f:Addr}{k j:Nat}{sp':Sp}
def funX_mk {kV ct:Value} (l:K.lookup f=some ⟨oc,od,.func (W.fnOf x qual (yl st) (xf st) (jh st) .none kV doc pm an cdv ct),osl⟩)
  (c:W.codeIn K cdv qual=true) (k:W.keepIn K (.ref f)=true):FunX K x qual st f:=⟨_,jdx l c k⟩
structure DefX (K:W.Frag) (x:Str) (st:Stmt):Prop where
 ex:∃ f fd,W.nsIn K mainGlobals x=some (some (.ref f))/\Fun K x x st f fd
def defX_mk {kV ct:Value} (a:W.nsIn K mainGlobals x=some (some (.ref f))) (l:K.lookup f=some ⟨oc,od,.func (W.fnOf x x (yl st) (xf st) (jh st) .none kV doc pm an cdv ct),osl⟩)
  (c:W.codeIn K cdv x=true) (k:W.keepIn K (.ref f)=true):DefX K x st:=⟨_,_,a,jdx l c k⟩
structure MthX (K:W.Frag) (C:Addr) (x qual:Str) (st:Stmt):Prop where
 ex:∃ f fd,W.findIn K (.ref C) x=some (some (.ref f))/\W.isFn K (.ref f)=true/\Fun K x qual st f fd
def mthX_mk {kV ct:Value} (a:W.findIn K (.ref C) x=some (some (.ref f))) (i:W.isFn K (.ref f)=true) (l:K.lookup f=some ⟨oc,od,.func (W.fnOf x qual (yl st) (xf st) (jh st) .none kV doc pm an cdv ct),osl⟩)
  (c:W.codeIn K cdv qual=true) (k:W.keepIn K (.ref f)=true):MthX K C x qual st:=⟨_,_,a,i,jdx l c k⟩
def BindP (x qual:Str) (st:Stmt) (ps:List Str):Prop:=∀ (kV doc pm:Value) (an:Option Addr) (cdv ct:Value) (us:List Value),us.length=ps.length->bindArgs (W.fnOf x qual (yl st) (xf st) (jh st) .none kV doc pm an cdv ct) ⟨us,[]⟩=pure (ps.zip us)
def bnd (h:BindP x qual st ps:=by
      intro _ _ _ _ _ _ us hl
      first | (obtain⟨a,rfl⟩:=joL hl; rfl) | (obtain⟨a,b,rfl⟩:=joM hl; rfl) | (obtain⟨a,b,c,rfl⟩:=joN hl; rfl) | (obtain⟨a,b,c,d,rfl⟩:=joO hl; rfl) | (obtain⟨a,b,c,d,e,rfl⟩:=joP hl; rfl)):BindP x qual st ps:=h
def jI (X:K.In h) (G:h.Ns mainGlobals mg) (a:W.nsIn K mainGlobals x=some (some (.ref f))) (Fn:Fun K x qual st f fd) (F:FnOk P w K mg base CX0 k f fd ps sp) (hb:BindP x qual st ps:=by exact bnd):Def P w K mg base x k ps sp:=⟨_,_,F,X9 X G a,Fn.kp,Fn.binds hb⟩
def Gx (a:W.findIn K (.ref C) x=some (some (.ref f))) (i:W.isFn K (.ref f)=true) (c:Cls K C) (Fn:Fun K x qual st f fd) (F:FnOk P w K mg base CX0 k f fd ps sp) (hb:BindP x qual st ps:=by exact bnd):Mth P w K mg base C x k ps sp:=⟨⟨_,_,F,⟨a,i,Fn.kp⟩,Fn.binds hb⟩,c⟩
def jhc (K:W.Frag) (C:Addr):Bool:=W.plainGet K C Str.empty&&W.hasDictIn K C&&W.plainOver K C&&(W.findIn K (.ref C) "__setattr__"==some (some (.builtin "object.__setattr__")))&&W.makesIn K C&&W.keepIn K (.ref C)
structure ClsF (K:W.Frag) (C:Addr):Prop where
 cl:Cls K C
 ma:W.makesIn K C=true
 kc:W.keepIn K (.ref C)=true
def jfn (h:jhc K C=true):ClsF K C:=by
 unfold jhc at h;simp only[XB,beq_iff_eq] at h;exact⟨⟨h.1.1.1.1.1,h.1.1.1.1.2,h.1.1.1.2,h.1.1.2⟩,h.1.2,h.2⟩
def Wf (X:K.In h) (G:h.Ns mainGlobals mg) (c:jhc K C=true) (a:W.findIn K (.ref C) "__init__"=some (some (.ref f))) (i:W.isFn K (.ref f)=true) (g:W.nsIn K mainGlobals x=some (some (.ref C))) (Fn:Fun K "__init__" qual st f fd)
  (F:FnOk P w K mg base CX0 k f fd ps sp) (hb:BindP "__init__" qual st ps:=by exact bnd):Kls P w K mg base x C k ps sp:=⟨_,_,⟨(jfn c).ma,a,i,(jfn c).kc⟩,F,X9 X G g,Fn.binds hb⟩
variable {p1:Pm α1}{p2:Pm α2}{p3:Pm α3}{rs:Rs γ}{cs:Ecs}
def ok1 {m:α1->Option γ} (Fn:Fun K x qual st f fd) (S:FnScope N ps (jh st)) (hb:∀ (cdv:Value) (A:Around) (outer:List Env) (s:Shared) (H:Hp) (Q:VK) (E:XK),Room k (A.deeper (PyProof.Rows.envOfC qual (jh st) s.heap.objs.size f cdv))->N.Nodup->(A.deeper (PyProof.Rows.envOfC qual (jh st) s.heap.objs.size f cdv)).units+200<cLine ->
  ∀ (x1:α1) (v1:V) (Fe:Hp) (R:γ),Ext Fe H Fe H->p1.rel K Fe H x1 v1->m x1=some R->(∀ u F' H',Ext Fe H F' H'->rs.rel K H F' H' R u->Q u H')->∃ t,PSs (jfG CX0 P w K mg base N qual (jh st) f cdv A outer s H E).nox (xf st) t/\t { nx:=fun _ H'=>Q .non H',rt:=Q } (GV N [v1]) H) (hl:ps.length=1:=by rfl):FnOk P w K mg base CX0 (k+1) f fd ps (sp1 K p1 rs m):=by
 refine Fn.ok S (fun vs H Q E h=>?_) (fun cdv A outer s H vs Q E hr h=>?_)
 ·obtain⟨_,_,_,_,rfl,_⟩:=h;exact hl.symm
 ·obtain⟨x1,v1,Fe,R,rfl,S_,P1,Hm,Kk⟩:=h;exact hb cdv A outer s H Q E hr S.nd (QK hr) x1 v1 Fe R (Ext.refl S_) P1 Hm Kk
def ok2 {m:α1->α2->Option γ} (Fn:Fun K x qual st f fd) (S:FnScope N ps (jh st)) (hb:∀ (cdv:Value) (A:Around) (outer:List Env) (s:Shared) (H:Hp) (Q:VK) (E:XK),Room k (A.deeper (PyProof.Rows.envOfC qual (jh st) s.heap.objs.size f cdv))->N.Nodup->(A.deeper (PyProof.Rows.envOfC qual (jh st) s.heap.objs.size f cdv)).units+200<cLine ->
  ∀ (x1:α1) (x2:α2) (v1 v2:V) (Fe:Hp) (R:γ),Ext Fe H Fe H->p1.rel K Fe H x1 v1->p2.rel K Fe H x2 v2->m x1 x2=some R->(∀ u F' H',Ext Fe H F' H'->rs.rel K H F' H' R u->Q u H')->∃ t,PSs (jfG CX0 P w K mg base N qual (jh st) f cdv A outer s H E).nox (xf st) t/\t { nx:=fun _ H'=>Q .non H',rt:=Q } (GV N [v1,v2]) H) (hl:ps.length=2:=by rfl):FnOk P w K mg base CX0 (k+1) f fd ps (sp2 K p1 p2 rs m):=by
 refine Fn.ok S (fun vs H Q E h=>?_) (fun cdv A outer s H vs Q E hr h=>?_)
 ·obtain⟨_,_,_,_,_,_,rfl,_⟩:=h;exact hl.symm
 ·obtain⟨x1,x2,v1,v2,Fe,R,rfl,S_,P1,P2,Hm,Kk⟩:=h;exact hb cdv A outer s H Q E hr S.nd (QK hr) x1 x2 v1 v2 Fe R (Ext.refl S_) P1 P2 Hm Kk
def ok3 {m:α1->α2->α3->Option γ} (Fn:Fun K x qual st f fd) (S:FnScope N ps (jh st)) (hb:∀ (cdv:Value) (A:Around) (outer:List Env) (s:Shared) (H:Hp) (Q:VK) (E:XK),Room k (A.deeper (PyProof.Rows.envOfC qual (jh st) s.heap.objs.size f cdv))->N.Nodup->(A.deeper (PyProof.Rows.envOfC qual (jh st) s.heap.objs.size f cdv)).units+200<cLine ->
  ∀ (x1:α1) (x2:α2) (x3:α3) (v1 v2 v3:V) (Fe:Hp) (R:γ),Ext Fe H Fe H->p1.rel K Fe H x1 v1->p2.rel K Fe H x2 v2->p3.rel K Fe H x3 v3->m x1 x2 x3=some R->(∀ u F' H',Ext Fe H F' H'->rs.rel K H F' H' R u->Q u H')->∃ t,PSs (jfG CX0 P w K mg base N qual (jh st) f cdv A outer s H E).nox (xf st) t/\t { nx:=fun _ H'=>Q .non H',rt:=Q } (GV N [v1,v2,v3]) H) (hl:ps.length=3:=by rfl):FnOk P w K mg base CX0 (k+1) f fd ps (sp3 K p1 p2 p3 rs m):=by
 refine Fn.ok S (fun vs H Q E h=>?_) (fun cdv A outer s H vs Q E hr h=>?_)
 ·obtain⟨_,_,_,_,_,_,_,_,rfl,_⟩:=h;exact hl.symm
 ·obtain⟨x1,x2,x3,v1,v2,v3,Fe,R,rfl,S_,P1,P2,P3,Hm,Kk⟩:=h;exact hb cdv A outer s H Q E hr S.nd (QK hr) x1 x2 x3 v1 v2 v3 Fe R (Ext.refl S_) P1 P2 P3 Hm Kk
end
structure Cs (α:Type) where
 rep:W.Frag->Hp->α->List V->Prop
 mono:∀ {K:W.Frag}{F F':Hp}{a:α}{vs:List V},Same F F'->rep K F a vs->rep K F' a vs
section
variable {F:Hp}
def csN:Cs Unit:=⟨fun _ _ _ vs=>vs=[],fun _ h=>h⟩
def csC (d:Cd α) (e:Cs β):Cs (α×β):=⟨fun K F z vs=>∃ v ws,vs=v::ws/\d.rep K F z.1 v/\e.rep K F z.2 ws,fun s ⟨v,ws,h,h1,h2⟩=>⟨v,ws,h,d.mono s h1,e.mono s h2⟩⟩
def Ea (K:W.Frag) (σ:St) (F H:Hp) (t:TA) (d:Cs α) (m:Option α):Prop:=
 ∀ F1 H1,Ext F H F1 H1->∀ x,m=some x->∀ Q:List V->Hp->Prop,(∀ vs F2 H2,Ext F1 H1 F2 H2->d.rep K F2 x vs->Q vs H2)->t σ H1 Q
def yg (s:Same F H):Ea K σ F H xq csN (some ()):=fun F1 H1 E x e Q k=>k [] F1 H1 (Ext.refl E.sub) rfl
def kP {d:Cd α}{e:Cs β}{t:TE}{ta:TA}{m1:Option α}{m2:Option β} (h1:Ev K σ F H t (rF d) m1) (h2:Ea K σ F H ta e m2):Ea K σ F H (jJ t ta) (csC d e) (m1.bind fun a=>m2.bind fun b=>some (a,b)):=by
 intro F1 H1 E x he Q k;obtain⟨a,ea,he⟩:=bind_some he;obtain⟨b,eb,he⟩:=bind_some he;cases he;refine h1 F1 H1 E a ea _ fun v F2 H2 E2 r1=>h2 F2 H2 (E.trans E2) b eb _ fun ws F3 H3 E3 r2=>?_;exact k (v::ws) F3 H3 (E2.trans E3) ⟨v,ws,rfl,d.mono E3.f r1,r2⟩
end
section
variable {F:Hp}{l:Addr} 
def dkF (u:V) (l:Addr):List (Str×V):=[("spot",u),("earlier",.ref l)]
structure OwnKl (K:W.Frag) (He F H:Hp) (c:Cd α) (C:Addr) (Dk:α×List α) (a l:Addr):Prop where
 ob:∃ dx u,OwnI He F H C a dx (dkF u l)/\c.rep K F Dk.1 u
 ls:Own K He F H c Dk.2 l
def OwnKl.mono (o:OwnKl K He F H c C Dk a l) (E:Ext F H F' H'):OwnKl K He F' H' c C Dk a l:=
 let ⟨dx,u,h1,h2⟩:=o.ob
 ⟨⟨dx,u,h1.mono E,c.mono E.f h2⟩,o.ls.mono E⟩
def OwnKl.ne (o:OwnKl K He F H c C Dk a l):l≠a:=by
 obtain⟨dx,u,h1,h2⟩:=o.ob;obtain⟨xs,h3,_⟩:=o.ls.h;intro e;subst e;have h:=h1.h;rw[h3] at h;cases h
def OwnKl.ea (o:OwnKl K He F H c C Dk a l):He a=none:=let ⟨_,_,h,_⟩:=o.ob; h.e
def wo (a l:Addr) (H:Hp):Hp:=fun b=>if b=a \/ b=l then none else H b
def joQ:wo a l H a=none:=if_pos (.inl rfl)
def joR:wo a l H l=none:=if_pos (.inr rfl)
def jjZ (h1:F a=none) (h2:F l=none) (s:Same F H):Same F (wo a l H):=fun b o e=>by
 have n:¬ (b=a \/ b=l):=fun z=>by
  rcases z with rfl | rfl
  ·rw[h1] at e; cases e
  ·rw[h2] at e; cases e
 exact(if_neg n).trans (s b o e)
def jnX:Same (wo a l H) H:=fun b o e=>by
 unfold wo at e;by_cases z:b=a \/ b=l
 ·rw[if_pos z] at e; cases e
 ·rw[if_neg z] at e; exact e
def OwnKl.wo (o:OwnKl K He F H c C Dk a l):OwnKl K (L3.wo a l H) F H c C Dk a l:=
 let ⟨dx,u,h1,h2⟩:=o.ob
 ⟨⟨dx,u,⟨joQ,h1.f,h1.h⟩,h2⟩,⟨joR,o.ls.f,o.ls.h⟩⟩
def OwnKl.back {He':Hp} (o:OwnKl K He' F' H' c C Dk a l) (h1:He a=none) (h2:He l=none):OwnKl K He F' H' c C Dk a l:=
 let ⟨dx,u,h3,h4⟩:=o.ob
 ⟨⟨dx,u,⟨h1,h3.f,h3.h⟩,h4⟩,⟨h2,o.ls.f,o.ls.h⟩⟩
def OwnKl.up (o:OwnKl K He F H c C Dk a l) (X:Ext Fe He F H) (E:Ext F (L3.wo a l H) F' H'):Ext Fe He F' H':=
 ⟨X.f.trans E.f,(jjZ o.ea o.ls.e X.h).trans E.h,fun b u e=>by
  rcases E.new b u e with z | z
  ·exact X.new b u z
  ·refine .inr ?_;cases q:He b with
   | none=>trivial
   | some w=>
    have:=jjZ o.ea o.ls.e X.h b w q;rw[this] at z;exact z,E.sub⟩
def OwnKl.in (o:OwnKl K He F H c C Dk a l) (S:Same F H):Ext F (L3.wo a l H) F H:=⟨Same.refl _,jnX,fun _ _ h=>.inl h,S⟩
def OwnK (K:W.Frag) (He F H:Hp) (c:Cd α) (C:Addr) (Dk:α×List α) (a:Addr):Prop:=∃ l,OwnKl K He F H c C Dk a l
def OwnK.mono (o:OwnK K He F H c C Dk a) (E:Ext F H F' H'):OwnK K He F' H' c C Dk a:=let ⟨l,o⟩:=o; ⟨l,o.mono E⟩
def OwnKl.out {D2:α×List α} (o:OwnKl K He F H c C Dk a l) (X:Ext Fe He F H) (o':OwnK K (L3.wo a l H) F' H' c C D2 a):OwnK K He F' H' c C D2 a:=by
 obtain⟨l',o'⟩:=o';refine⟨l',o'.back o.ea ?_⟩;have e:=o'.ls.e;by_cases q:l'=l
 ·rw[q]; exact o.ls.e
 ·have n:¬ (l'=a \/ l'=l):=fun z=>z.elim (fun z=>o'.ne z) q;have e:(if l'=a \/ l'=l then none else H l')=none:=e;rw[if_neg n] at e;exact X.h.free e
def spK (K:W.Frag) (C:Addr) (c:Cd α) (d:Cs β) (rc:Cd γ) (m:α×List α->β->Option (γ×(α×List α))):Sp:=fun vs H Q _=>∃ (Dk:α×List α) (x:β) (a l:Addr) (ws:List V) (F:Hp) (r:γ×(α×List α)),vs=.ref a::ws/\Same F H/\OwnKl K (wo a l H) F H c C Dk a l/\d.rep K F x ws/\m Dk x=some r /\
 ∀ u F' H',Ext F (wo a l H) F' H'->OwnK K (wo a l H) F' H' c C r.2 a->rc.rep K F' r.1 u->Q u H'
def JZ {d:Cs β}{rc:Cd γ}{m:α×List α->β->Option (γ×(α×List α))}{vs:List V}{Hq:Hp}{Q:VK}{E:XK} (h:spK K C c d rc m vs Hq Q E):∃ (Dk:α×List α) (x:β) (a:Addr) (ws:List V) (F H0:Hp) (r:γ×(α×List α)),vs=.ref a::ws/\Ext F H0 F Hq/\OwnK K H0 F Hq c C Dk a/\d.rep K F x ws/\m Dk x=some r /\
  ∀ u F' H',Ext F H0 F' H'->OwnK K H0 F' H' c C r.2 a->rc.rep K F' r.1 u->Q u H':=by
 obtain⟨Dk,x,a,l,ws,F,r,rfl,S,o,hd,hm,k⟩:=h;exact⟨Dk,x,a,ws,F,wo a l Hq,r,rfl,o.in S,⟨l,o⟩,hd,hm,k⟩
def pK (c:Cd α) (C:Addr):Pm (α×List α):=⟨fun K F H Dk v=>∃ a l dx u,v=.ref a/\H a=some (.ins C dx (dkF u l))/\c.rep K F Dk.1 u/\(pB c).rel K F H Dk.2 (.ref l),
 fun E ⟨a,l,dx,u,h0,h1,h2,h3⟩=>⟨a,l,dx,u,h0,E.h _ _ h1,c.mono E.f h2,(pB c).mono E h3⟩⟩
def OwnK.r (o:OwnK K He F H c C Dk a):(pK c C).rel K F H Dk (.ref a):=let ⟨l,o⟩:=o; let ⟨dx,u,h1,h2⟩:=o.ob; ⟨a,l,dx,u,rfl,h1.h,h2,o.ls.b⟩
def EvK (K:W.Frag) (σ:St) (Fe He F H:Hp) (c:Cd α) (C a:Addr) (t:TE) (rc:Cd γ) (m:Option (γ×(α×List α))):Prop:=
 ∀ y,m=some y->∀ Q:VK,(∀ v F2 H2,Same F F2->Ext Fe He F2 H2->OwnK K He F2 H2 c C y.2 a->rc.rep K F2 y.1 v->Q v H2)->t σ H Q
def EtK (K:W.Frag) (σ:St) (Fe He F H:Hp) (c:Cd α) (C a:Addr) (t:TT) (m:Option (Bool×(α×List α))):Prop:=
 ∀ y,m=some y->∀ Q:Bool->Hp->Prop,(∀ F2 H2,Same F F2->Ext Fe He F2 H2->OwnK K He F2 H2 c C y.2 a->Q y.1 H2)->t σ H Q
variable {t:TE}{u1 u2:TT}{ta:TA}{rc:Cd γ}{rd:Cd δ}
def Zm (z:γ×δ) (f:γ->δ->Option ε):Option ε:=f z.1 z.2
def ifK (z:Bool×δ) (A B:δ->Option ε):Option ε:=bif z.1 then A z.2 else B z.2
def orK (z:Bool×δ) (m:δ->Option (Bool×δ)):Option (Bool×δ):=bif z.1 then some (true,z.2) else m z.2
def jnx (z:Bool×δ) (m:δ->Option (Bool×δ)):Option (Bool×δ):=bif z.1 then m z.2 else some (false,z.2)
def jcF (z:Str×δ) (g:Str->Str->Bool) (m:δ->Option Str):Option (Bool×δ):=(m z.2).bind fun b=>some (g z.1 b,z.2)
def jiU (a b:Str):Bool:=decide (a=b)
def jaA (a b:Str):Bool:=!decide (a=b)
def QB {m:Option γ} (o:OwnK K He F H c C Dk a) (X:Ext Fe He F H) (h:Ev K σ F H t (rF rc) m):EvK K σ Fe He F H c C a t rc (m.bind fun y=>some (y,Dk)):=by
 intro y hy Q k;obtain⟨x,ex,hy⟩:=bind_some hy;cases hy;exact h F H (Ext.refl X.sub) x ex Q fun v F2 H2 E hv=>k v F2 H2 E.f (X.trans E) (o.mono E) hv
def jd2 {u:TT}{m:Option Bool} (o:OwnK K He F H c C Dk a) (X:Ext Fe He F H) (h:Et K σ F H u m):EtK K σ Fe He F H c C a u (m.bind fun y=>some (y,Dk)):=by
 intro y hy Q k;obtain⟨x,ex,hy⟩:=bind_some hy;cases hy;exact h F H (Ext.refl X.sub) x ex Q fun F2 H2 E=>k F2 H2 E.f (X.trans E) (o.mono E)
def zr {d:Cs β}{m:α×List α->β->Option (γ×(α×List α))}{ma:Option β} (hi:σ[i]?=some (some (.ref a))) (o:OwnK K He F H c C Dk a) (X:Ext Fe He F H) (h:Ea K σ F H ta d ma):EvK K σ Fe He F H c C a (QZ (spK K C c d rc m) [] E0 (jJ (JJ i) ta)) rc (ma.bind fun x=>m Dk x):=by
 intro y hy Q k;obtain⟨x,ex,hy⟩:=bind_some hy;obtain⟨l,o⟩:=o;refine⟨_,hi,h F H (Ext.refl X.sub) x ex _ fun vs F2 H2 E hv=>?_⟩;have o2:=o.mono E;exact⟨Dk,x,a,l,vs,F2,y,by rw[List.append_nil],E.sub,o2.wo,hv,hy,fun u F' H' E' o' hr=>k u F' H' (E.f.trans E'.f) (o2.up (X.trans E) E') (o2.out (X.trans E) o') hr⟩
def yR {d:Cs β}{m:α×List α->β->Option (γ×(α×List α))}{ma:Option β} (hi:σ[i]?=some (some (.ref a))) (o:OwnK K He F H c C Dk a) (X:Ext Fe He F H) (h:Ea K σ F H ta d ma) (hn:∀ u l,(dkF u l).lookup nm=none):EvK K σ Fe He F H c C a (Q0 C nm (spK K C c d rc m) [] E0 (JJ i) ta) rc (ma.bind fun x=>m Dk x):=by
 intro y hy Q k;obtain⟨x,ex,hy⟩:=bind_some hy;obtain⟨l,o⟩:=o;obtain⟨dx,u,h1,h2⟩:=o.ob;refine⟨_,hi,a,dx,_,rfl,h1.h,hn _ _,h F H (Ext.refl X.sub) x ex _ fun vs F2 H2 E hv=>?_⟩;have o2:=o.mono E;exact⟨Dk,x,a,l,vs,F2,y,by rw[List.append_nil],E.sub,o2.wo,hv,hy,fun u F' H' E' o' hr=>k u F' H' (E.f.trans E'.f) (o2.up (X.trans E) E') (o2.out (X.trans E) o') hr⟩
def J0 {r:R2}{g:Str->Str->Bool}{m1:Option (Str×(α×List α))}{m2:α×List α->Option Str} (ho:Op2 K r (pF cS) (pF cS) (rF cB) (fun a b=>some (g a b))) (h1:EvK K σ Fe He F H c C a t1 cS m1) (h2:∀ F2 H2 D2,Same F F2->Ext Fe He F2 H2->OwnK K He F2 H2 c C D2 a->Ev K σ F2 H2 t2 (rF cS) (m2 D2)) :
  EvK K σ Fe He F H c C a (tOp r t1 t2) cB (m1.bind fun z=>jcF z g m2):=by
 intro y hy Q k;obtain⟨z,ez,hy⟩:=bind_some hy;obtain⟨b,eb,hy⟩:=bind_some hy;cases hy;refine h1 z ez _ fun v F2 H2 s X o hv=>?_;refine h2 F2 H2 z.2 s X o F2 H2 (Ext.refl X.sub) b eb _ fun w F3 H3 E hw=>?_;exact ho F3 H3 z.1 b v w E.sub ((pF cS).mono E hv) hw (g z.1 b) rfl _ fun x F4 H4 E' hx=>k x F4 H4 (s.trans (E.f.trans E'.f)) (X.trans (E.trans E')) (o.mono (E.trans E')) hx
def jj0:Op2 K rEq (pF cS) (pF cS) (rF cB) (fun a b=>some (jiU a b)):=jeA
def Yz:Op2 K rNe (pF cS) (pF cS) (rF cB) (fun a b=>some (jaA a b)):=jh9
def Jh {m:Option (Bool×(α×List α))} (h:EvK K σ Fe He F H c C a t cB m):EtK K σ Fe He F H c C a (jfC t) m:=fun y hy Q k=>
 h y hy _ fun v F2 H2 s X o hv=>⟨y.1,hv,k F2 H2 s X o⟩
def jlb {m:Option (Bool×(α×List α))} (h:EtK K σ Fe He F H c C a u1 m):EtK K σ Fe He F H c C a (jlH u1) (m.bind fun z=>some (!z.1,z.2)):=by
 intro y hy Q k;obtain⟨z,ez,hy⟩:=bind_some hy;cases hy;exact h z ez _ fun F2 H2 s X o=>k F2 H2 s X o
def jd3 {m1:Option (Bool×(α×List α))}{m2:α×List α->Option (Bool×(α×List α))} (h1:EtK K σ Fe He F H c C a u1 m1) (h2:∀ F2 H2 D2,Same F F2->Ext Fe He F2 H2->OwnK K He F2 H2 c C D2 a->EtK K σ Fe He F2 H2 c C a u2 (m2 D2)) :
  EtK K σ Fe He F H c C a (tOr u1 u2) (m1.bind fun z=>orK z m2):=by
 intro y hy Q k;obtain⟨⟨b,D2⟩,ez,hy⟩:=bind_some hy;refine h1 _ ez _ fun F2 H2 s X o=>?_;cases b with
 | true=>cases hy; exact jdz (k F2 H2 s X o)
 | false=>exact jdy (h2 F2 H2 D2 s X o y hy Q fun F3 H3 s' X' o'=>k F3 H3 (s.trans s') X' o')
def jlc {m1:Option (Bool×(α×List α))}{m2:α×List α->Option (Bool×(α×List α))} (h1:EvK K σ Fe He F H c C a t1 cB m1) (h2:∀ F2 H2 D2,Same F F2->Ext Fe He F2 H2->OwnK K He F2 H2 c C D2 a->EvK K σ Fe He F2 H2 c C a t2 cB (m2 D2)) :
  EvK K σ Fe He F H c C a (jbV t1 t2) cB (m1.bind fun z=>jnx z m2):=by
 intro y hy Q k;obtain⟨⟨b,D2⟩,ez,hy⟩:=bind_some hy;refine h1 _ ez _ fun v F2 H2 s X o hv=>⟨b,hv,?_⟩;cases b with
 | true=>exact jdz (h2 F2 H2 D2 s X o y hy Q fun v F3 H3 s' X' o' hr=>k v F3 H3 (s.trans s') X' o' hr)
 | false=>cases hy; exact jdy (k _ F2 H2 s X o rfl)
def YA {j:Nat}{m:Option (Str×(α×List α))}{f:Str->α×List α->Option δ}{r:δ} (he:EvK K σ Fe He F H c C a t cS m) (hm:(m.bind fun z=>Zm z f)=some r) (k:∀ x D2 F2 H2,f x D2=some r->Same F F2->Ext Fe He F2 H2->OwnK K He F2 H2 c C D2 a->u' D (σ.set j (some (.str x))) H2):Ul (VQ t (ql j)) u' D σ H:=by
 obtain⟨z,ez,hm⟩:=bind_some hm;refine he z ez _ fun v F2 H2 s X o hv=>?_;cases hv;exact k z.1 z.2 F2 H2 hm s X o
def jld {j:Nat}{m:Option (Str×(α×List α))}{f:Str->α×List α->Option δ}{r:δ} (he:EvK K σ Fe He F H c C a t cS m) (hm:(m.bind fun z=>Zm z f)=some r) (k:∀ x D2 F2 H2,f x D2=some r->Same F F2->Ext Fe He F2 H2->OwnK K He F2 H2 c C D2 a->D.nx (σ.set j (some (.str x))) H2):VQ t (ql j) D σ H:=
 YA (u':=fun D=>D.nx) he hm k
def Zn {m:Option (Str×(α×List α))}{f:Str->α×List α->Option δ}{r:δ} (he:EvK K σ Fe He F H c C a t cS m) (hm:(m.bind fun z=>Zm z f)=some r) (k:∀ x D2 F2 H2,f x D2=some r->Same F F2->Ext Fe He F2 H2->OwnK K He F2 H2 c C D2 a->u' D σ H2):Ul (WX t) u' D σ H:=by
 obtain⟨z,ez,hm⟩:=bind_some hm;exact he z ez _ fun v F2 H2 s X o hv=>k z.1 z.2 F2 H2 hm s X o
def jhd {s1 s2:TS}{m:Option (Bool×(α×List α))}{A B:α×List α->Option δ}{r:δ} (he:EtK K σ Fe He F H c C a u1 m) (hm:(m.bind fun z=>ifK z A B)=some r) (k1:∀ D2 F2 H2,A D2=some r->Same F F2->Ext Fe He F2 H2->OwnK K He F2 H2 c C D2 a->s1 { D with nx:=u' D } σ H2) (k2:∀ D2 F2 H2,B D2=some r->Same F F2->Ext Fe He F2 H2->OwnK K He F2 H2 c C D2 a->s2 { D with nx:=u' D } σ H2):Ul (jhS u1 s1 s2) u' D σ H:=by
 obtain⟨⟨b,D2⟩,ez,hm⟩:=bind_some hm;refine he _ ez _ fun F2 H2 s X o=>?_;cases b with
 | true=>exact jdz (k1 D2 F2 H2 hm s X o)
 | false=>exact jdy (k2 D2 F2 H2 hm s X o)
def J1 {m:Option (γ×(α×List α))}{r:γ×(α×List α)} (he:EvK K σ Fe He F H c C a t rc m) (hm:m=some r) (k:∀ v F' H',Ext Fe He F' H'->OwnK K He F' H' c C r.2 a->rc.rep K F' r.1 v->D.rt v H'):jlI t D σ H:=
 he r hm _ fun v F2 H2 s X o hv=>k v F2 H2 X o hv
def jiV {m:Option (γ×(α×List α))}{r:γ} (he:EvK K σ Fe He F H c C a t rc m) (hm:(m.bind fun z=>some z.1)=some r) (k:∀ v F' H',Ext Fe He F' H'->(rF rc).rel K He F' H' r v->D.rt v H'):jlI t D σ H:=by
 obtain⟨z,ez,hm⟩:=bind_some hm;cases hm;exact he z ez _ fun v F2 H2 s X o hv=>k v F2 H2 X hv
def jle (hi:σ[i]?=some (some (.ref a))) (o:OwnK K He F H c C Dk a) (cl:Cls K C) (na:NoAttr K C "spot"):Ev K σ F H (jfF K (JJ i) "spot") (rF c) (some Dk.1):=
 let ⟨_,o⟩:=o
 let ⟨_,_,h1,h2⟩:=o.ob
 jck (p:=pF c) hi h1 cl na rfl h2
def jlf (hi:σ[i]?=some (some (.ref a))) (o:OwnK K He F H c C Dk a) (cl:Cls K C) (na:NoAttr K C "earlier"):Ev K σ F H (jfF K (JJ i) "earlier") (pB c).rs (some Dk.2):=
 let ⟨_,o⟩:=o
 let ⟨_,_,h1,h2⟩:=o.ob
 jck (p:=pB c) hi h1 cl na rfl o.ls.b
def jiW (hi:σ[i]?=some (some v)) (h:(pK c C).rel K F H Dk v) (cl:Cls K C) (na:NoAttr K C "spot"):Ev K σ F H (jfF K (JJ i) "spot") (rF c) (some Dk.1):=by
 intro F1 H1 E b e Q k;cases e;obtain⟨a,l,dx,u,rfl,h1,h2,h3⟩:=h;exact⟨_,hi,a,C,dx,_,u,rfl,E.h _ _ h1,cl,na,rfl,k u F1 H1 (Ext.refl E.sub) (c.mono E.f h2)⟩
def jmY {r:δ} (hi:σ[i]?=some (some (.ref a))) (o:OwnK K He F H c C Dk a) (cl:Cls K C) (n1:NoAttr K C "spot") (n2:NoAttr K C "earlier") (X:Ext Fe He F H) (hm:(jaz Dk.2 Dk.1).bind f=some r)
  (k:∀ l' H2,f l'=some r->Ext Fe He F H2->OwnK K He F H2 c C (Dk.1,l') a->u' D σ H2):Ul (WX (tBM K "list" UU (jfF K (JJ i) "earlier") (jJ (jfF K (JJ i) "spot") xq))) u' D σ H:=by
 obtain⟨l',el,hm⟩:=bind_some hm;unfold jaz at el;obtain⟨hl,rfl⟩:=jV el;obtain⟨l,o⟩:=o;obtain⟨dx,u,h1,h2⟩:=o.ob;obtain⟨xs,h3,h4⟩:=o.ls.h;refine⟨_,hi,a,C,dx,_,.ref l,rfl,h1.h,cl,n2,rfl,.inl ⟨rfl,_,SqL.of h3⟩,⟨_,hi,a,C,dx,_,u,rfl,h1.h,cl,n1,rfl,?_⟩⟩;refine⟨l,xs,u,rfl,rfl,h3,by rw[Xx,<- h4.length]; exact hl,?_⟩;obtain⟨X',o'⟩:=V6 (K:=K) (c:=c) X o.ls.e o.ls.f (Paired.app h4 (.cons h2 .nil));exact k _ _ hm X' ⟨l,⟨dx,u,⟨h1.e,h1.f,by rw[km (Ne.symm o.ne)]; exact h1.h⟩,h2⟩,o'⟩
def jlg {m:Option α}{f:α->Option δ}{r:δ} (hi:σ[i]?=some (some (.ref a))) (o:OwnK K He F H c C Dk a) (cl:Cls K C) (n1:NoAttr K C "spot") (he:Ev K σ F H t (rF c) m) (X:Ext Fe He F H) (hm:m.bind f=some r)
  (k:∀ x F2 H2,f x=some r->Same F F2->Ext Fe He F2 H2->OwnK K He F2 H2 c C (x,Dk.2) a->u' D σ H2):Ul (jlK K (JJ i) t "spot") u' D σ H:=by
 obtain⟨x,ex,hm⟩:=bind_some hm;refine he F H (Ext.refl X.sub) x ex _ fun v F2 H2 E hv=>?_;obtain⟨l,o2⟩:=o.mono E;obtain⟨dx,u,h1,h2⟩:=o2.ob;refine⟨_,hi,a,C,dx,_,rfl,h1.h,cl,n1,(by decide:2<1000),?_⟩;obtain⟨xs,h3,h4⟩:=o2.ls.h;exact k x F2 _ hm E.f ((X.trans E).upd h1.e h1.f) ⟨l,⟨dx,v,⟨h1.e,h1.f,j_⟩,hv⟩,⟨o2.ls.e,o2.ls.f,xs,by rw[km o2.ne]; exact h3,h4⟩⟩
def jmZ {f:α×List α->Option δ}{r:δ} (hi:σ[i]?=some (some (.ref a))) (o:OwnK K He F H c C Dk a) (cl:Cls K C) (n1:NoAttr K C "spot") (n2:NoAttr K C "earlier") (X:Ext Fe He F H) (hm:(jmR Dk.2).bind f=some r)
  (k:∀ D2 H2,f D2=some r->Ext Fe He F H2->OwnK K He F H2 c C D2 a->u' D σ H2):Ul (jlK K (JJ i) (jmb K "list" jon (jfF K (JJ i) "earlier")) "spot") u' D σ H:=by
 obtain⟨z,ez,hm⟩:=bind_some hm;unfold jmR at ez;obtain⟨x,ex,ez⟩:=bind_some ez;cases ez;obtain⟨l,o⟩:=o;obtain⟨dx,u,h1,h2⟩:=o.ob;obtain⟨xs,h3,h4⟩:=o.ls.h;obtain⟨y,ey,ry⟩:=jcB h4 ex;refine⟨_,hi,a,C,dx,_,.ref l,rfl,h1.h,cl,n2,rfl,.inl ⟨rfl,_,SqL.of h3⟩,l,xs,y,rfl,rfl,h3,ey,?_⟩;obtain⟨X',o'⟩:=V6 (K:=K) (c:=c) X o.ls.e o.ls.f (JY h4);have h5:upd H l (.lst xs.dropLast) a=some (.ins C dx (dkF u l)):=by rw[km (Ne.symm o.ne)]; exact h1.h
 refine⟨_,hi,a,C,dx,_,rfl,h5,cl,n1,(by decide:2<1000),?_⟩;obtain⟨ys,h6,h7⟩:=o'.h;exact k _ _ hm (X'.upd h1.e h1.f) ⟨l,⟨dx,y,⟨h1.e,h1.f,j_⟩,ry⟩,⟨o'.e,o'.f,ys,by rw[km o.ne]; exact h6,h7⟩⟩
def rK (c:Cd α) (C:Addr):Rs (α×List α):=⟨fun K H F2 H2 Dk v=>∃ a,v=.ref a/\OwnK K H F2 H2 c C Dk a,fun s ⟨a,h1,l,h2⟩=>⟨a,h1,l,h2.back (s.free h2.ea) (s.free h2.ls.e)⟩⟩
def jnY (K:W.Frag) (C:Addr) (c:Cd α) (m:Option (α×List α)):Sp:=fun vs H Q _=>∃ (F H1:Hp) (x dx:Addr) (r:α×List α),vs=[.ref x]/\H=upd (upd H1 dx (.own x)) x (.ins C dx [])/\H1 x=none/\H1 dx=none/\dx≠x/\Same F H1/\m=some r/\∀ F' H',Ext F H1 F' H'->OwnK K H1 F' H' c C r x->Q .non H'
def jiX {m:Option (α×List α)}:Ev K σ F H (jaH C (jnY K C c m) [] E0 xq) (rK c C) m:=by
 intro F1 H1 E z e Q k x dx n1 n2 n3;exact⟨F1,H1,x,dx,z,rfl,rfl,n1,n2,n3,E.sub,e,fun F' H' E' o=>⟨rfl,k _ F' H' E' ⟨x,rfl,o⟩⟩⟩
def jlh {j:Nat}{m:Option (α×List α)}{f:α×List α->Option δ}{r:δ} (he:Ev K σ F H t (rK c C) m) (X:Ext Fe He F H) (hm:m.bind f=some r) (k:∀ Dk a F2 H2,f Dk=some r->Ext F H F2 H2->Ext Fe He F2 H2->OwnK K He F2 H2 c C Dk a->u' D (σ.set j (some (.ref a))) H2):Ul (VQ t (ql j)) u' D σ H:=by
 obtain⟨z,ez,hm⟩:=bind_some hm;refine he F H (Ext.refl X.sub) z ez _ ?_;rintro v F2 H2 E ⟨a,rfl,l,o⟩;exact k z a F2 H2 hm E (X.trans E) ⟨l,o.back (X.h.free o.ea) (X.h.free o.ls.e)⟩
def jiY {x:Addr}{u:V}{b:α}{r:δ} (hi:σ[i]?=some (some (.ref x))) (o:OwnI He F H C x dx (QI "spot" u [])) (hu:c.rep K F b u) (cl:Cls K C) (n2:NoAttr K C "earlier") (he:Ev K σ F H t (rO c) m) (X:Ext Fe He F H) (hm:m.bind f=some r)
  (k:∀ l' F2 H2,f l'=some r->Ext Fe He F2 H2->OwnK K He F2 H2 c C (b,l') x->D.nx σ H2):jlK K (JJ i) t "earlier" D σ H:=by
 obtain⟨l',el,hm⟩:=bind_some hm;refine he F H (Ext.refl X.sub) l' el _ ?_;rintro v F2 H2 E ⟨l,xs,rfl,e1,e2,e3,e4⟩;have o2:=o.mono E;have ne:l≠x:=fun q=>by subst q; rw[o.h] at e1; cases e1
 refine⟨_,hi,x,C,dx,_,rfl,o2.h,cl,n2,(by decide:1<1000),?_⟩;exact k l' F2 _ hm ((X.trans E).upd o2.e o2.f) ⟨l,⟨dx,u,⟨o2.e,o2.f,j_⟩,c.mono E.f hu⟩,⟨X.h.free e1,e2,xs,by rw[km ne]; exact e3,e4⟩⟩
def jli {rs:Rs γ}{m:α×List α->β->Option γ} (hi:σ[i]?=some (some (.ref a))) (o:OwnK K He F H c C Dk a) (hn:∀ u l,(dkF u l).lookup nm=none) (h:Ev K σ F H t q.rs mb):Ev K σ F H (Q0 C nm (sp2 K (pK c C) q rs m) [] E0 (JJ i) (jJ t xq)) rs (mb.bind fun x=>m Dk x):=by
 intro F1 H1 E z hz Q k;obtain⟨x,ex,hz⟩:=bind_some hz;have hr:=(pK c C).mono E o.r;obtain⟨l,o⟩:=o;obtain⟨dx,u,h1,h2⟩:=o.ob;refine⟨_,hi,a,dx,_,rfl,E.h _ _ h1.h,hn _ _,h F1 H1 E x ex _ fun v F2 H2 E2 hv=>?_⟩;exact⟨Dk,x,.ref a,v,F2,z,rfl,E2.sub,(pK c C).mono E2 hr,hv,hz,fun u F' H' E' hu=>k u F' H' (E2.trans E') (rs.back E2.h hu)⟩
end
end L3
namespace L2
open PySem PySem.Spec PyProof.Rows
def jlj {k:Nat}{p:Pos} (D:Kls X.prog X.w X.K X.mg X.base x C k ps sp) (hr:Room (k+1) X.A) (hg:Gl X x) (hdb:(x==("__debug__":Str))=false:=by decide):PE X (.Call (.Name x p) [] [] pos) (jaH C sp [] E0 xq):=by
 obtain⟨f,fd,M,F,hm,hb⟩:=D.ex;exact jhX M F hr hg hm hb .nil jex hdb
end L2
namespace L3
open PySem PySem.Spec L2
def ym {F:Hp}{t:TE}{rs:Rs γ}{m:α×List α->β->Option γ}{x:β}{mm_:Option γ} (hi:σ[i]?=some (some (.ref a))) (o:OwnK K He F H c C Dk a) (hn:∀ u l,(dkF u l).lookup nm=none) (h:Ev K σ F H t q.rs (some x)) (e_:mm_=m Dk x):Ev K σ F H (Q0 C nm (sp2 K (pK c C) q rs m) [] E0 (JJ i) (jJ t xq)) rs mm_:=e_ ▸ jli hi o hn h
end L3
namespace L2
open PySem PySem.Spec PyProof.Rows
section
def Gg:GS X (.type "int") (fun xs H Q=>∃ (x:Str) (n:Int),xs=[.str x]/\x.length<=640/\PySem.intText? x=some n/\Q (.int n) H):=by
 intro pins s σ H xs us Q I r h;obtain⟨x,n,rfl,hl,hn,q⟩:=h;obtain⟨u,rfl,t,rfl⟩:=US r;exact call_int_1 (W.KIN.gives_text hl hn).meets (show (Made.int n).post _ s from ⟨rfl,⟨.int n,H,I.tok _,⟨_,rfl⟩,q⟩⟩)
def jbg:GS X (.type "str") (fun xs H Q=>∃ x,xs=[.str x]/\Q (.str x) H):=by
 intro pins s σ H xs us Q I r h;obtain⟨x,rfl,q⟩:=h;obtain⟨u,rfl,t,rfl⟩:=US r;exact PySem.P.str_of_str ⟨.str _,H,I,⟨_,rfl⟩,q⟩
open Builtin.Str in
def jcG (a b:Str):Bool:=0+b.length<=a.length&&subAt a b 0
def jcH:V->List V->Hp->VK->Prop:=fun x vs H Q=>∃ a b:Str,x=.str a/\vs=[.str b]/\Q (.bl (jcG a b)) H
def jhe:MtM X "str.startswith" jcH:=by
 intro pins s σ H x vs v us Q I rx rv h;obtain⟨a,b,rfl,rfl,q⟩:=h;obtain⟨t,rfl⟩:=rx;obtain⟨u,rfl,ru⟩:=rv.one;obtain⟨t',rfl⟩:=ru;exact call_meets F.slot_str_startswith (typeIs_str s a t) F.entry_str_startswith (F.args_str_startswith_2 _ _) (gives_str_startswith a b t t').meets ⟨.bl (jcG a b),H,I,rfl,q⟩
end
def Its (x:Str):It:=⟨fun i _=>i<x.cps.size,fun i H v H'=>H'=H/\∃ c,x.cps[i]?=some c/\v=.str ⟨#[c]⟩,fun i _=>x.cps.size<=i⟩
def jiZ (x:Str) (t:Tok) (it:Addr):Turn P w K tg (Its x) [it] it (fun i h=>h.IsStrIter it "str_ascii_iterator" x t i) where
 mem:=by simp
 obj:=fun i h st b hb=>by
  have e:b=it:=by simpa using hb
  subst e;obtain⟨o,e,c,d⟩:=st;exact⟨o,e,fun v z=>by rw[d] at z; cases z⟩
 keep:=fun i h h' st k=>let ⟨o,e,c,d⟩:=st; ⟨o,k it (by simp) o e,c,d⟩
 item:=by
  intro X hP hw hK hc i pins s σ H E I hf st hg;subst hP hw hK;have hx:i<x.cps.size:=hg;obtain⟨f0,f1,f2,f3,f4,f5⟩:=hf it (by simp);have he:x.cps[i]?=some x.cps[i]:=Array.getElem?_eq_getElem hx;refine wpAny_pyNext_ascii_item st he fun h' st' sb=>?_;have I1:Inv X pins σ H { s with heap:=h',toks:=s.toks+1 }:=I.turned (fun b o hb e=>(sb.2 b hb).trans e) f0 f1 f3 f4 f5
  obtain⟨o,e,c,d⟩:=id st';exact⟨_,rfl,jaD (s:={ s with heap:=h',toks:=s.toks+1 }) e c d (by decide) ⟨.str ⟨#[x.cps[i]]⟩,H,I1,⟨_,rfl⟩,⟨rfl,_,he,rfl⟩,st',fun b hb=>(hf b hb).1⟩⟩
 done:=by
  intro X hP hw hK hc i pins s σ H E I hf st hg;subst hP hw hK;have hx:x.cps.size<=i:=hg;obtain⟨f0,f1,f2,f3,f4,f5⟩:=hf it (by simp);exact wpAny_pyNext_ascii_end (I.ok.hd hc) st (Array.getElem?_eq_none hx) fun h' eb=>⟨rfl,I.turned (t':=s.toks) (fun b o hb e=>eb b o hb e) f0 f1 f3 f4 f5⟩
 self:=fun _ _ _ _ _ st h=>wpAny_pyIter_striter_ascii st h
section
def jm0 (tl:TE):TI:=fun σ H R=>tl σ H fun v H1=>∃ x:Str,v=.str x/\x.cps.all (·<128)=true/\R (Its x) H1
def jj1 {l:Expr}{tl:TE} (hl:PE X l tl):PI X tg l (jm0 tl):=by
 intro pins s σ H R I h;refine thn (hl pins s σ H _ I h) fun v s1 ⟨x,H1,I1,r1,q1⟩=>?_;obtain⟨y,e,ha,q⟩:=q1;subst e;obtain⟨t,rfl⟩:=r1;refine wpAny_pyIter_ascii ha ?_;refine⟨s1.heap.objs.size,[s1.heap.objs.size],_,_,H1,rfl,I1.kept (t':=s1.toks) fun b o e=>Xd _ e,jiZ y t _,⟨_,Xi _ rfl,rfl,rfl⟩,fun b hb=>?_,q⟩;have e:b=s1.heap.objs.size:=by simpa using hb
 subst e;exact I1.fpOk (Xe _) (I1.hok.fresh (Xe _))
end
end L2
namespace L3
open PySem PySem.Spec L2
section
variable {F:Hp}{t:TE}
@[irreducible] def J2 (x:Str):Option Int:=if x.length<=640 then PySem.intText? x else none
def Wg:Op1 K (fun x H Q=>∃ (z:Str) (n:Int),[x]=[V.str z]/\z.length<=640/\PySem.intText? z=some n/\Q (.int n) H) (pF cS) (rF cI) (fun x=>J2 x):=by
 intro F H a x s hx z hz Q k;unfold J2 at hz;dsimp only at hz;obtain rfl:x=.str a:=hx;by_cases hc:a.length<=640
 ·rw[if_pos hc] at hz;exact⟨a,z,rfl,hc,hz,k _ F H (Ext.refl s) rfl⟩
 ·rw[if_neg hc] at hz; cases hz
def jm1:Op1 K (fun x H Q=>∃ z:Str,[x]=[V.str z]/\Q (.str z) H) (pF cS) (rF cS) (fun x=>some x):=by
 intro F H a x s hx z hz Q k;cases hz;obtain rfl:x=.str a:=hx;exact⟨a,rfl,k _ F H (Ext.refl s) rfl⟩
@[irreducible] def U3 (a b:Str):Bool:=jcG a b
def jhf {m m':Option Str} (h:Ev K σ F H t (rF cS) m) (h':Ev K σ F H ta (rF cS) m'):Ev K σ F H (tBM K "str" jcH t (jJ ta xq)) (rF cB) (m.bind fun a=>m'.bind fun b=>some (U3 a b)):=by
 intro F1 H1 E z e Q k;obtain⟨a,ea,e⟩:=bind_some e;obtain⟨b,eb,e⟩:=bind_some e;cases e;refine h F1 H1 E a ea _ fun v F2 H2 E2 hv=>?_;obtain rfl:v=.str a:=hv;refine⟨rfl,h' F2 H2 (E.trans E2) b eb _ fun w F3 H3 E3 hw=>?_⟩;obtain rfl:w=.str b:=hw;refine⟨a,b,rfl,rfl,k _ F3 H3 (E2.trans E3) ?_⟩;unfold U3;rfl
def Zo {a b:Str}{mm_:Option Bool} (h:Ev K σ F H t (rF cS) (some a)) (h':Ev K σ F H ta (rF cS) (some b)) (e_:mm_=some (U3 a b)):Ev K σ F H (tBM K "str" jcH t (jJ ta xq)) (rF cB) mm_:=e_ ▸ jhf h h'
@[irreducible] def QQ (x:Str):Option (List Str):=if x.cps.all (·<128)=true then some (x.cps.toList.map fun c=>⟨#[c]⟩) else none
def jj2 (h:∀ F H,G F H->Same F H):ItOk K (Its x) cS (x.cps.toList.map fun c=>⟨#[c]⟩) G where
 go:=fun i F H g hi'=>by rw[Xj,Xt] at hi'; exact hi'
 yld:=fun i F H v H' g y b hb=>by
  obtain⟨e,c,hc,y⟩:=y;subst e y;refine⟨F,Ext.refl (h F _ g),?_⟩;rw[Xw,Array.getElem?_toList,hc] at hb;cases hb;rfl
 stop:=fun F H g=>by rw[Xj,Xt]; exact Xe _
def jm2 {m:Option Str} (h:Ev K σ F H t (rF cS) m):Ei K σ F H Fe He (jm0 t) cS (m.bind fun x=>QQ x):=by
 intro X l e R k;obtain⟨x,ex,e⟩:=bind_some e;unfold QQ at e;obtain⟨hc,rfl⟩:=jV e;refine h F H (Ext.refl X.sub) x ex _ fun v F2 H2 E hv=>?_;obtain rfl:v=.str x:=hv;exact⟨x,rfl,hc,k _ F2 H2 E (jj2 fun F' H' g=>g.1.sub)⟩
def jeV {mm_:Option (List Str)} (h:Ev K σ F H t (rF cS) (some x)) (e_:mm_=QQ x):Ei K σ F H Fe He (jm0 t) cS mm_:=e_ ▸ jm2 h
def jm3 {m:Option Str} (h:Ev K σ F H t (rF cS) m):Ec K σ F H (jm0 t) cS (m.bind fun x=>QQ x):=by
 intro F1 H1 X l e R k;obtain⟨x,ex,e⟩:=bind_some e;unfold QQ at e;obtain⟨hc,rfl⟩:=jV e;refine h F1 H1 X x ex _ fun v F2 H2 E hv=>?_;obtain rfl:v=.str x:=hv;exact⟨x,rfl,hc,k _ F2 H2 E (jj2 fun F' H' g=>g.sub)⟩
def jeW {mm_:Option (List Str)} (h:Ev K σ F H t (rF cS) (some x)) (e_:mm_=QQ x):Ec K σ F H (jm0 t) cS mm_:=e_ ▸ jm3 h
end
section
variable {F:Hp}{t:TE}
def jbh {x:Int}{mb:Option Int}{mm_:Option Bool} (ha:Ev K σ F H ta (rF cI) (some x)) (hb:Ev K σ F H tb (rF cI) mb) (hc:Ev K σ F H tc (rF cI) (some z)) (e_:mm_=mb.bind fun y=>some (g x y&&g' y z)) :
  Ev K σ F H (VX (rI0 fun i j=>.bl (g i j)) (rI0 fun i j=>.bl (g' i j)) ta tb tc) (rF cB) mm_:=
 (Y5 ha hb hc).cast (by
  rw[e_];cases mb with
  | none=>rfl
  | some y=>
   show some (g x y&&g' y z)=bif g x y then some (g' y z) else some false;cases g x y <;> rfl)
end
end L3
namespace L2
open PySem PySem.Spec PyProof.Rows PyProof.V
structure TabK (P:Program) (w:World) (K:W.Frag) (a:Addr) (D:List (Str×Addr)):Prop where
 look:KTD.tabLook (fun (f:Addr) v=>v==Value.ref f) (fun b=>K.lookup b) a D=true
 nd:(D.map (·.1)).Nodup
 hs:KTD.hashesOf (fun b=>K.lookup b) a=D.map fun p=>(PySem.strKind P w).hash p.1
def ji0 (P:Program) (w:World) {es:List DictEntry}{D:List (Str×Addr)} (h:KTD.Rows (fun (f:Addr) v=>v=Value.ref f) es D):es.map (·.hash)=D.map (fun p=>(PySem.strKind P w).hash p.1) ->
  (∀ e∈es,∃ k,(PySem.strKind P w).is k e.key=true/\e.hash=(PySem.strKind P w).hash k)/\Pairs (PySem.strKind P w) es (D.map fun p=>(p.1,Value.ref p.2)):=by
 induction h with
 | nil=>exact fun _=>⟨(fun _ h=>(nomatch h)),.nil⟩
 | @cons e x t d es D hkey hv _ ih=>
  intro hh;simp only[Xp,List.cons.injEq] at hh;obtain⟨hk,hp⟩:=ih hh.2;have hi:(PySem.strKind P w).is x e.key=true:=by rw[hkey]; exact strKind_is P w x t
  refine⟨fun e' he'=>?_,.cons hi hv hp⟩;rcases List.mem_cons.mp he' with he' | he'
  ·rw[he']; exact ⟨x,hi,hh.1⟩
  ·exact hk e' he'
def TabK.dict {D:List (Str×Addr)} (T:TabK P w K a D) (x:K.In h):(a==sysModules)=false/\h.DictOf (PySem.strKind P w) a (D.map fun p=>(p.1,Value.ref p.2)):=by
 have hl:=T.look;simp only[KTD.tabLook,XB] at hl;obtain⟨h0,hl⟩:=hl;split at hl
 ·rename_i o ho
  simp only[XB] at hl;obtain⟨⟨⟨e1,e2⟩,e3⟩,e4⟩:=hl;split at e4
  ·rename_i es ep hd
   have hh':es.toList.map (·.hash)=D.map fun p=>(PySem.strKind P w).hash p.1:=by
    rw[<- T.hs]; unfold KTD.hashesOf; dsimp only; rw[ho]; simp only[hd]
   obtain⟨hk,hp⟩:=ji0 P w (KTD.rows_of_look (fun _ _ z=>beq_iff_eq.mp z) e4) hh';refine⟨by simpa using h0,o,es,ep,x _ _ ho,⟨beq_iff_eq.mp e1,by simpa using e2,by simpa using e3⟩,hd,fun e he=>hk e (by simpa using he),hp,?_⟩;rw[List.map_map];exact T.nd
  ·cases e4
 ·cases hl
def U4 {k:Str}:∀ {D:List (Str×Addr)},valueAt (D.map fun p=>(p.1,Value.ref p.2)) k=(D.lookup k).map Value.ref
 | []=>rfl
 | (x,f)::D=>by
  have ih:=U4 (k:=k) (D:=D);unfold valueAt at ih ⊢;rw[XI,Xp,X1];by_cases q:k=x
  ·subst q;simp
  ·have q':¬ x=k:=fun z=>q z.symm;have q2:(k==x)=false:=by simpa using q
   rw[q2];simp only[Xk q,Xk q'];exact ih
def jnZ (P:Program) (w:World) (K:W.Frag) (mg:Str->Option Value) (base:Heap) (n:Nat) (f:Addr) (o:Option Sp):Prop:=∃ sp,o=some sp/\W.keepIn K (.ref f)=true/\((∀ vs H Q E,¬ sp vs H Q E) \/ ∃ fd ps,FnOk P w K mg base CX0 n f fd ps sp/\Binds K fd ps [])
structure TabD (P:Program) (w:World) (K:W.Frag) (mg:Str->Option Value) (base:Heap) (x:Str) (n:Nat) (L:List (Str×Sp)):Prop where
 ex:∃ a D,mg x=some (.ref a)/\TabK P w K a D/\(D.map (·.1)=L.map (·.1))/\∀ k f,D.lookup k=some f->jnZ P w K mg base n f (L.lookup k)
def jn0 (ks:List Str) (ty:TE):TE:=fun σ H Q=>ty σ H fun y H1=>∃ k:Str,y=.str k/\Q (.bl (decide (k∈ks))) H1
def Wh (L:List (Str×Sp)) (ty:TE) (t:TA):TE:=fun σ H Q=>ty σ H fun y H1=>∃ (k:Str) (sp:Sp),y=.str k/\L.lookup k=some sp/\t σ H1 fun vs H2=>sp vs H2 Q E0
def zU {β:Type}{k:Str}:∀ {D:List (Str×β)},(D.lookup k).isSome=decide (k∈D.map (·.1))
 | []=>by simp
 | (x,f)::D=>by
  have ih:=zU (k:=k) (D:=D);rw[XI,Xp];by_cases q:k=x
  ·subst q; simp
  ·have q2:(k==x)=false:=by simpa using q
   rw[q2];dsimp only;rw[ih];simp[q]
section
variable {p spos:Pos}{i:Expr}{t:TA}
def jd4 (T:TabD X.prog X.w X.K X.mg X.base x n L) (hg:Gl X x) (hi:PE X i ty) {ks:List Str} (hk:L.map (·.1)=ks) (hdb:(x==("__debug__":Str))=false:=by decide):PC X .In i (.Name x p) (jn0 ks ty):=by
 subst hk;obtain⟨a,D,hm,hT,he,hF⟩:=T.ex;intro pins s σ H Q I h;refine thn (hi pins s σ H _ I h) fun iv s1 ⟨y,H1,I1,ry,k,ey,q1⟩=>?_;subst ey;obtain⟨tk,rfl⟩:=ry;refine UQ I1 hg hm ?_ hdb;obtain⟨d0,d1⟩:=hT.dict I1.kIn;refine wpAny_in_of (strKind_is X.prog X.w k tk) d0 d1.mapOf ?_;rw[U4,Option.isSome_map,zU,he];exact⟨.bl _,H1,I1.tok _,rfl,q1⟩
def Wi (T:TabD X.prog X.w X.K X.mg X.base x n L) (hr:Room n X.A) (hg:Gl X x) (hi:PE X i ty) (hs:jnS i) (ha:PA X (e::es) t) (hdb:(x==("__debug__":Str))=false:=by decide) (he:starEach (e::es) X.env=(false,eval e X.env)::starEach es X.env:=by rfl) (hpl:(backTo pos (starEach es X.env)).any (·.1)=false:=by rfl)
  (ht:eval (.Call (.Subscript (.Name x p) i spos) (e::es) [] pos) X.env=(do
   callWith pos (<- eval (.Subscript (.Name x p) i spos) X.env) [] (backTo pos (starEach (e::es) X.env)) (backToKw pos (keywordEach [] X.env))):=by rfl) :
  PE X (.Call (.Subscript (.Name x p) i spos) (e::es) [] pos) (Wh L ty t):=by
 obtain⟨a,D,hm,hT,hk,hF⟩:=T.ex;intro pins s σ H Q I h;rw[ht];refine Xa (jgM PySem.F.slot_dict_getitem.lookup hs (UQ I hg hm (thn (hi pins s σ H _ I h) fun iv s1 ⟨y,H1,I1,ry,k,sp,ey,hsp,q1⟩=>?_) hdb));subst ey;obtain⟨tk,rfl⟩:=ry;obtain⟨d0,d1⟩:=hT.dict I1.kIn;refine⟨d1.typeIs,?_⟩;have hs1:(D.lookup k).isSome=true:=by
  rw[zU,hk,<- zU,hsp]; rfl
 obtain⟨f,hf⟩:=Option.isSome_iff_exists.mp hs1;obtain⟨sp',hsp',hkp,hz⟩:=hF k f hf;rw[hsp] at hsp';cases hsp';refine wpAny_getItem_of (strKind_is X.prog X.w k tk) d1.mapOf (v:=.ref f) (by rw[U4,hf]; rfl) ?_;have I2:Inv X pins σ H1 { s1 with toks:=s1.toks+1 }:=I1.tok _
 refine W.callWith_K (h₀:=X.base) I2.ok.mod.kin hkp (thn (ha pos pins _ σ H1 _ I2 q1) fun us s2 ⟨vs,H2,I3,r,q⟩=>⟨I3.kIn,?_⟩) he hpl;rcases hz with hz | ⟨fd,ps,F,hb⟩
 ·exact(hz _ _ _ _ q).elim
 ·exact jdt (dvs:=[]) F hr hb .nil jex I3 r (by rw[List.append_nil]; exact q)
end
def jhL (P:Program) (w:World) (K:W.Frag) (mg:Str->Option Value) (base:Heap) (n:Nat) (D:List (Str×Addr)) (L:List (Str×Sp)):Prop:=(D.map (·.1)=L.map (·.1))/\∀ k f,D.lookup k=some f->jnZ P w K mg base n f (L.lookup k)
section
variable {j:Nat}{f:Addr}{D:List (Str×Addr)} 
def Zp:jhL P w K mg base n [] []:=⟨rfl,fun _ _ h=>by cases h⟩
def jd5 (e:jnZ P w K mg base n f (some sp)) (h:jhL P w K mg base n D L):jhL P w K mg base n ((x,f)::D) ((x,sp)::L):=by
 refine⟨by rw[Xp,Xp,h.1],fun k g hg=>?_⟩;rw[XI] at hg ⊢;cases q:k==x with
 | true=>
  rw[q] at hg;cases hg;exact e
 | false=>
  rw[q] at hg;exact h.2 k g hg
def jhg (hk:W.keepIn K (.ref f)=true) (F:FnOk P w K mg base CX0 j f fd ps sp) (hj:j<=n) (hb:Binds K fd ps []) (h:jhL P w K mg base n D L):jhL P w K mg base n ((x,f)::D) ((x,sp)::L):=jd5 ⟨sp,rfl,hk,.inr ⟨fd,ps,F.mono hj,hb⟩⟩ h
def qN {x':Str} (Fn:Fun K x' qual st f fd) (F:FnOk P w K mg base CX0 j f fd ps sp) (h:jhL P w K mg base n D L) (hj:j<=n:=by decide) (hb:L3.BindP x' qual st ps:=by exact L3.bnd):jhL P w K mg base n ((x,f)::D) ((x,sp)::L):=jhg Fn.kp F hj (Fn.binds hb) h
def Zq (hk:W.keepIn K (.ref f)=true) (hz:∀ vs H Q E,¬ sp vs H Q E) (h:jhL P w K mg base n D L):jhL P w K mg base n ((x,f)::D) ((x,sp)::L):=jd5 ⟨sp,rfl,hk,.inl hz⟩ h
def jcI (hm:mg x=some (.ref a)) (T:TabK P w K a D) (h:jhL P w K mg base n D L):TabD P w K mg base x n L:=⟨a,D,hm,T,h.1,h.2⟩
end
end L2
namespace L3
open PySem PySem.Spec L2
section
variable {F:Hp}{t:TE}{p:Pm α}{rs:Rs γ}
def no1:∀ vs H Q E,¬ sp1 K p rs (fun _=>none) vs H Q E:=fun _ _ _ _ ⟨_,_,_,_,_,_,_,e,_⟩=>by cases e
def no2:∀ vs H Q E,¬ sp2 K p q rs (fun _ _=>none) vs H Q E:=fun _ _ _ _ ⟨_,_,_,_,_,_,_,_,_,_,e,_⟩=>by cases e
def jm4 {m:Option Str}{ks:List Str} (h:Ev K σ F H t (rF cS) m):Ev K σ F H (jn0 ks t) (rF cB) (m.bind fun k=>some (Y4 k ks)):=by
 intro F1 H1 E z e Q k;obtain⟨x,ex,e⟩:=bind_some e;cases e;refine h F1 H1 E x ex _ fun v F2 H2 E2 hv=>?_;obtain rfl:v=.str x:=hv;exact⟨x,rfl,k _ F2 H2 E2 rfl⟩
def QC {ks:List Str}{mm_:Option Bool} (h:Ev K σ F H t (rF cS) (some x)) (e_:mm_=some (Y4 x ks)):Ev K σ F H (jn0 ks t) (rF cB) mm_:=e_ ▸ jm4 h
def lk1 (M:List (Str×(α->Option γ))) (k:Str) (x:α):Option γ:=(M.lookup k).bind fun f=>f x
def lk2 (M:List (Str×(α->β->Option γ))) (k:Str) (x:α) (y:β):Option γ:=(M.lookup k).bind fun f=>f x y
def ji1 (K:W.Frag) (p:Pm α) (rs:Rs γ):List (Str×(α->Option γ))->List (Str×Sp)
 | []=>[]
 | (k,m)::M=>(k,sp1 K p rs m)::ji1 K p rs M
def jlk (K:W.Frag) (p:Pm α) (q:Pm β) (rs:Rs γ):List (Str×(α->β->Option γ))->List (Str×Sp)
 | []=>[]
 | (k,m)::M=>(k,sp2 K p q rs m)::jlk K p q rs M
def jd6 {k:Str}{f:α->Option γ}:∀ {M:List (Str×(α->Option γ))},M.lookup k=some f->(ji1 K p rs M).lookup k=some (sp1 K p rs f)
 | (x,m)::M,h=>by
  unfold ji1;rw[XI] at h ⊢;cases e:k==x with
  | true=>rw[e] at h; cases h; rfl
  | false=>rw[e] at h; exact jd6 h
def jd7 {k:Str}{f:α->β->Option γ}:∀ {M:List (Str×(α->β->Option γ))},M.lookup k=some f->(jlk K p q rs M).lookup k=some (sp2 K p q rs f)
 | (x,m)::M,h=>by
  unfold jlk;rw[XI] at h ⊢;cases e:k==x with
  | true=>rw[e] at h; cases h; rfl
  | false=>rw[e] at h; exact jd7 h
def jeX {M:List (Str×(α->Option γ))}{mk:Option Str} (hk:Ev K σ F H t (rF cS) mk) (ha:Ev K σ F H ta p.rs ma):Ev K σ F H (Wh (ji1 K p rs M) t (jJ ta xq)) rs (mk.bind fun k=>ma.bind fun x=>lk1 M k x):=by
 intro F0 H0 E z e Q k;obtain⟨n,en,e⟩:=bind_some e;obtain⟨x,ex,e⟩:=bind_some e;obtain⟨f,ef,e⟩:=bind_some e;refine hk F0 H0 E n en _ fun v F1 H1 E1 hv=>?_;obtain rfl:v=.str n:=hv;refine⟨n,_,rfl,jd6 ef,ha F1 H1 (E.trans E1) x ex _ fun v1 F2 H2 E2 r1=>?_⟩;exact⟨x,v1,F2,z,rfl,E2.sub,r1,e,fun u F' H' E' hu=>k u F' H' (E1.trans (E2.trans E')) (rs.back (E1.trans E2).h hu)⟩
def QR {M:List (Str×(α->Option γ))}{n:Str}{x:α}{mm_:Option γ} (hk:Ev K σ F H t (rF cS) (some n)) (ha:Ev K σ F H ta p.rs (some x)) (e_:mm_=lk1 M n x):Ev K σ F H (Wh (ji1 K p rs M) t (jJ ta xq)) rs mm_:=e_ ▸ jeX hk ha
def jeY {M:List (Str×(α->β->Option γ))}{mk:Option Str} (hk:Ev K σ F H t (rF cS) mk) (ha:Ev K σ F H ta p.rs ma) (hb:Ev K σ F H tb q.rs mb):Ev K σ F H (Wh (jlk K p q rs M) t (jJ ta (jJ tb xq))) rs (mk.bind fun k=>ma.bind fun x=>mb.bind fun y=>lk2 M k x y):=by
 intro F0 H0 E z e Q k;obtain⟨n,en,e⟩:=bind_some e;obtain⟨x,ex,e⟩:=bind_some e;obtain⟨y,ey,e⟩:=bind_some e;obtain⟨f,ef,e⟩:=bind_some e;refine hk F0 H0 E n en _ fun v F1 H1 E1 hv=>?_;obtain rfl:v=.str n:=hv;refine⟨n,_,rfl,jd7 ef,ha F1 H1 (E.trans E1) x ex _ fun v1 F2 H2 E2 r1=>hb F2 H2 (E.trans (E1.trans E2)) y ey _ fun v2 F3 H3 E3 r2=>?_⟩;exact⟨x,y,v1,v2,F3,z,rfl,E3.sub,p.mono E3 r1,r2,e,fun u F' H' E' hu=>k u F' H' (E1.trans (E2.trans (E3.trans E'))) (rs.back (E1.trans (E2.trans E3)).h hu)⟩
def jbi {M:List (Str×(α->β->Option γ))}{n:Str}{x:α}{mm_:Option γ} (hk:Ev K σ F H t (rF cS) (some n)) (ha:Ev K σ F H ta p.rs (some x)) (hb:Ev K σ F H tb q.rs mb) (e_:mm_=mb.bind fun y=>lk2 M n x y):Ev K σ F H (Wh (jlk K p q rs M) t (jJ ta (jJ tb xq))) rs mm_:=e_ ▸ jeY hk ha hb
end
end L3
namespace MM
open PySem L2 L3
section
def jm5 {f:α->Option β}{a:α} (x:Option α) (e:x=some a):x.bind f=f a:=by rw[e]; rfl
def bs {f:α->Option β}{a:α}:(some a).bind f=f a:=jm5 _ rfl
def jm6 {a b:α} (x:Bool) (e:x=true):(bif x then a else b)=a:=by rw[e]; rfl
def ct {a b:α}:(bif true then a else b)=a:=jm6 _ rfl
def jm7 {a b:α} (x:Bool) (e:x=false):(bif x then a else b)=b:=by rw[e]; rfl
def cf {a b:α}:(bif false then a else b)=b:=jm7 _ rfl
def rng (h:n<=1000000000):Gu 0 (n:Int)=some ((List.range n).map fun k=>((k:Nat):Int)):=by
 unfold Gu;rw[if_pos ⟨by omega,by omega,by omega,by omega⟩];unfold Vp;rw[Int.sub_zero,Int.toNat_natCast];congr 2
 funext k
 omega
def at_nat {x:α} (h:l[i]?=some x):pAt l (i:Int)=some x:=by unfold pAt; exact jkm h
def at_get (h:i<l.length):pAt l (i:Int)=some l[i]:=at_nat (List.getElem?_eq_getElem h)
def modP {i:Int} (h:0<j):jb4 i j=some (i % j):=jdN h
def divP {i:Int} (h:0<j) (h2:j<2 ^ 250):jfW i j=some (i / j):=jdM ⟨h,Int.lt_trans h2 (by have:(2:Nat) ^ 250<2 ^ 1000:=Nat.pow_lt_pow_right (by decide) (by decide); exact_mod_cast this)⟩
def comp {p:α->Option Bool}{f:α->Option β} (q:α->Bool) (g:α->β) (hl:l.length<=16777216) (hp:∀ x∈l,p x=some (q x)) (hf:∀ x∈l,q x=true->f x=some (g x)):k7 l p f=some ((l.filter q).map g):=by
 unfold k7;rw[if_pos hl];clear hl
 induction l with
 | nil=>rfl
 | cons x r ih=>
  unfold jcb;have ih':=ih (fun y hy=>hp y (List.mem_cons_of_mem _ hy)) fun y hy=>hf y (List.mem_cons_of_mem _ hy);rw[hp x List.mem_cons_self,Option.bind_some,ih'];cases h:q x with
  | true=>rw[hf x List.mem_cons_self h]; simp[h]
  | false=>simp[h]
def compR {p:Int->Option Bool}{f:Int->Option β} (q:Nat->Bool) (g:Nat->β) (hn:n<=1000000) (hp:∀ k,k<n->p (k:Int)=some (q k)) (hf:∀ k,k<n->q k=true->f (k:Int)=some (g k)) :
  k7 ((List.range n).map fun k=>((k:Nat):Int)) p f=some (((List.range n).filter q).map g):=by
 rw[comp (fun x=>q x.toNat) (fun x=>g x.toNat) (by simp; omega)]
 ·rw[List.filter_map,List.map_map];simp[Function.comp_def]
 ·intro x hx;obtain⟨k,hk,rfl⟩:=List.mem_map.mp hx;rw[hp k (List.mem_range.mp hk),Int.toNat_natCast]
 ·intro x hx h;obtain⟨k,hk,rfl⟩:=List.mem_map.mp hx;rw[Int.toNat_natCast] at h ⊢;exact hf k (List.mem_range.mp hk) h
def shr {b t:Nat}:jks (b:Int) (t:Int)=some ((b / 2 ^ t:Nat):Int):=by
 rw[jie (by omega),Int.toNat_natCast];simp[Int.natCast_ediv]
end
end MM
namespace L3
open PySem PySem.Spec L2
def Ext.xc {α:Type}{c:Cd α}{K:W.Frag}{F H F' H':Hp}{a:α}{v:V} (E:Ext F H F' H') (h:c.rep K F a v):c.rep K F' a v:=Cd.mono _ E.f h
def Ext.xd {G F H F' H':Hp} (E:Ext F H F' H') (h:Same G F):Same G F':=Same.trans h E.f
def Ext.xb {α:Type}{c:Cd α}{K:W.Frag}{He F H F' H':Hp}{a:List α}{v:V} (E:Ext F H F' H') (h:Bor K He F c a v):Bor K He F' c a v:=Bor.mono h E.f
end L3
namespace Lw
open PySem L2 L3
structure MOrder where
 many:Int
 beneath:(List Int)
 neighbours:(List (Int×Int))
def zV (u1 u2 u3:V):List (Str×V):=(QI "neighbours" u3 (QI "beneath" u2 (QI "many" u1 [])))
def jl (C:Addr):Cd MOrder:=⟨fun K H o v=>∃ a dx u1 u2 u3,v=.ref a/\H a=some (.ins C dx (zV u1 u2 u3))/\cI.rep K H o.many u1/\(cT cI).rep K H o.beneath u2/\(cT (cP cI cI)).rep K H o.neighbours u3,fun s ⟨a,dx,u1,u2,u3,e,h,r1,r2,r3⟩=>⟨a,dx,u1,u2,u3,e,s _ _ h,Cd.mono _ s r1,Cd.mono _ s r2,Cd.mono _ s r3⟩⟩
structure Ab (K:W.Frag) (mg:Str->Option Value) (C:Addr):Prop where
 cl:Cls K C
 n_many:NoAttr K C "many"
 n_beneath:NoAttr K C "beneath"
 n_neighbours:NoAttr K C "neighbours"
def QS (T:Ab K mg C):QL K (jl C) "many" cI (fun o=>o.many):=fun⟨a,dx,u1,u2,u3,e,h,r1,r2,r3⟩=>⟨a,C,dx,_,u1,e,h,T.cl,T.n_many,by unfold zV; rw[jm,if_neg (by decide +kernel),jm,if_neg (by decide +kernel),jm,if_pos rfl],r1⟩
def xj (T:Ab K mg C):QL K (jl C) "beneath" (cT cI) (fun o=>o.beneath):=fun⟨a,dx,u1,u2,u3,e,h,r1,r2,r3⟩=>⟨a,C,dx,_,u2,e,h,T.cl,T.n_beneath,by unfold zV; rw[jm,if_neg (by decide +kernel),jm,if_pos rfl],r2⟩
def yd (T:Ab K mg C):QL K (jl C) "neighbours" (cT (cP cI cI)) (fun o=>o.neighbours):=fun⟨a,dx,u1,u2,u3,e,h,r1,r2,r3⟩=>⟨a,C,dx,_,u3,e,h,T.cl,T.n_neighbours,by unfold zV; rw[jm,if_pos rfl],r3⟩
def kQ:Y6 (jl C) C "size":=fun⟨a,dx,u1,u2,u3,e,h,_⟩=>⟨a,dx,_,e,h,by unfold zV; rw[jm,if_neg (by decide +kernel),jm,if_neg (by decide +kernel),jm,if_neg (by decide +kernel)]; rfl⟩
def Wj:Y6 (jl C) C "covers":=fun⟨a,dx,u1,u2,u3,e,h,_⟩=>⟨a,dx,_,e,h,by unfold zV; rw[jm,if_neg (by decide +kernel),jm,if_neg (by decide +kernel),jm,if_neg (by decide +kernel)]; rfl⟩
def zS:Y6 (jl C) C "check_thing":=fun⟨a,dx,u1,u2,u3,e,h,_⟩=>⟨a,dx,_,e,h,by unfold zV; rw[jm,if_neg (by decide +kernel),jm,if_neg (by decide +kernel),jm,if_neg (by decide +kernel)]; rfl⟩
def Gh:Y6 (jl C) C "just_above":=fun⟨a,dx,u1,u2,u3,e,h,_⟩=>⟨a,dx,_,e,h,by unfold zV; rw[jm,if_neg (by decide +kernel),jm,if_neg (by decide +kernel),jm,if_neg (by decide +kernel)]; rfl⟩
def Gi:Y6 (jl C) C "just_below":=fun⟨a,dx,u1,u2,u3,e,h,_⟩=>⟨a,dx,_,e,h,by unfold zV; rw[jm,if_neg (by decide +kernel),jm,if_neg (by decide +kernel),jm,if_neg (by decide +kernel)]; rfl⟩
structure MSpot where
 order:MOrder
 bits:Int
 line:(List Int)
 answer:Str
def Wk (u1 u2 u3 u4:V):List (Str×V):=(QI "answer" u4 (QI "line" u3 (QI "bits" u2 (QI "order" u1 []))))
def jT (ja:Addr) (C:Addr):Cd MSpot:=⟨fun K H o v=>∃ a dx u1 u2 u3 u4,v=.ref a/\H a=some (.ins C dx (Wk u1 u2 u3 u4))/\(jl ja).rep K H o.order u1/\cI.rep K H o.bits u2/\(cT cI).rep K H o.line u3/\cS.rep K H o.answer u4,fun s ⟨a,dx,u1,u2,u3,u4,e,h,r1,r2,r3,r4⟩=>⟨a,dx,u1,u2,u3,u4,e,s _ _ h,Cd.mono _ s r1,Cd.mono _ s r2,Cd.mono _ s r3,Cd.mono _ s r4⟩⟩
structure Ah (K:W.Frag) (mg:Str->Option Value) (C:Addr):Prop where
 cl:Cls K C
 n_order:NoAttr K C "order"
 n_bits:NoAttr K C "bits"
 n_line:NoAttr K C "line"
 n_answer:NoAttr K C "answer"
def jU (T:Ah K mg C):QL K (jT ja C) "order" (jl ja) (fun o=>o.order):=fun⟨a,dx,u1,u2,u3,u4,e,h,r1,r2,r3,r4⟩=>⟨a,C,dx,_,u1,e,h,T.cl,T.n_order,by unfold Wk; rw[jm,if_neg (by decide +kernel),jm,if_neg (by decide +kernel),jm,if_neg (by decide +kernel),jm,if_pos rfl],r1⟩
def Ji (T:Ah K mg C):QL K (jT ja C) "bits" cI (fun o=>o.bits):=fun⟨a,dx,u1,u2,u3,u4,e,h,r1,r2,r3,r4⟩=>⟨a,C,dx,_,u2,e,h,T.cl,T.n_bits,by unfold Wk; rw[jm,if_neg (by decide +kernel),jm,if_neg (by decide +kernel),jm,if_pos rfl],r2⟩
def yS (T:Ah K mg C):QL K (jT ja C) "line" (cT cI) (fun o=>o.line):=fun⟨a,dx,u1,u2,u3,u4,e,h,r1,r2,r3,r4⟩=>⟨a,C,dx,_,u3,e,h,T.cl,T.n_line,by unfold Wk; rw[jm,if_neg (by decide +kernel),jm,if_pos rfl],r3⟩
def Wl (T:Ah K mg C):QL K (jT ja C) "answer" cS (fun o=>o.answer):=fun⟨a,dx,u1,u2,u3,u4,e,h,r1,r2,r3,r4⟩=>⟨a,C,dx,_,u4,e,h,T.cl,T.n_answer,by unfold Wk; rw[jm,if_pos rfl],r4⟩
structure Ar (K:W.Frag) (mg:Str->Option Value) (C:Addr):Prop where
 cl:Cls K C
 n_spot:NoAttr K C "spot"
 n_earlier:NoAttr K C "earlier"
structure MGreat where
 order:MOrder
def Zr (u1:V):List (Str×V):=(QI "order" u1 [])
def QT (ja:Addr) (C:Addr):Cd MGreat:=⟨fun K H o v=>∃ a dx u1,v=.ref a/\H a=some (.ins C dx (Zr u1))/\(jl ja).rep K H o.order u1,fun s ⟨a,dx,u1,e,h,r1⟩=>⟨a,dx,u1,e,s _ _ h,Cd.mono _ s r1⟩⟩
structure Au (K:W.Frag) (mg:Str->Option Value) (C:Addr):Prop where
 cl:Cls K C
 n_order:NoAttr K C "order"
def Wm (T:Au K mg C):QL K (QT ja C) "order" (jl ja) (fun o=>o.order):=fun⟨a,dx,u1,e,h,r1⟩=>⟨a,C,dx,_,u1,e,h,T.cl,T.n_order,by unfold Zr; rw[jm,if_pos rfl],r1⟩
def Jj:Y6 (QT ja C) C "done":=fun⟨a,dx,u1,e,h,_⟩=>⟨a,dx,_,e,h,by unfold Zr; rw[jm,if_neg (by decide +kernel)]; rfl⟩
structure MFraction where
 top:Int
 bottom:Int
def Jk (u1 u2:V):List (Str×V):=(QI "bottom" u2 (QI "top" u1 []))
def xQ (C:Addr):Cd MFraction:=⟨fun K H o v=>∃ a dx u1 u2,v=.ref a/\H a=some (.ins C dx (Jk u1 u2))/\cI.rep K H o.top u1/\cI.rep K H o.bottom u2,fun s ⟨a,dx,u1,u2,e,h,r1,r2⟩=>⟨a,dx,u1,u2,e,s _ _ h,Cd.mono _ s r1,Cd.mono _ s r2⟩⟩
structure Ao (K:W.Frag) (mg:Str->Option Value) (C:Addr):Prop where
 cl:Cls K C
 n_top:NoAttr K C "top"
 n_bottom:NoAttr K C "bottom"
def VD (T:Ao K mg C):QL K (xQ C) "top" cI (fun o=>o.top):=fun⟨a,dx,u1,u2,e,h,r1,r2⟩=>⟨a,C,dx,_,u1,e,h,T.cl,T.n_top,by unfold Jk; rw[jm,if_neg (by decide +kernel),jm,if_pos rfl],r1⟩
def Q5 (T:Ao K mg C):QL K (xQ C) "bottom" cI (fun o=>o.bottom):=fun⟨a,dx,u1,u2,e,h,r1,r2⟩=>⟨a,C,dx,_,u2,e,h,T.cl,T.n_bottom,by unfold Jk; rw[jm,if_pos rfl],r2⟩
def U5:Y6 (xQ C) C "shown":=fun⟨a,dx,u1,u2,e,h,_⟩=>⟨a,dx,_,e,h,by unfold Jk; rw[jm,if_neg (by decide +kernel),jm,if_neg (by decide +kernel)]; rfl⟩
structure MSlide where
 order:MOrder
def VS (u1:V):List (Str×V):=(QI "order" u1 [])
def J3 (ja:Addr) (C:Addr):Cd MSlide:=⟨fun K H o v=>∃ a dx u1,v=.ref a/\H a=some (.ins C dx (VS u1))/\(jl ja).rep K H o.order u1,fun s ⟨a,dx,u1,e,h,r1⟩=>⟨a,dx,u1,e,s _ _ h,Cd.mono _ s r1⟩⟩
structure Av (K:W.Frag) (mg:Str->Option Value) (C:Addr):Prop where
 cl:Cls K C
 n_order:NoAttr K C "order"
def yT (T:Av K mg C):QL K (J3 ja C) "order" (jl ja) (fun o=>o.order):=fun⟨a,dx,u1,e,h,r1⟩=>⟨a,C,dx,_,u1,e,h,T.cl,T.n_order,by unfold VS; rw[jm,if_pos rfl],r1⟩
def Zs:Y6 (J3 ja C) C "done":=fun⟨a,dx,u1,e,h,_⟩=>⟨a,dx,_,e,h,by unfold VS; rw[jm,if_neg (by decide +kernel)]; rfl⟩
def Zt:Y6 (J3 ja C) C "back":=fun⟨a,dx,u1,e,h,_⟩=>⟨a,dx,_,e,h,by unfold VS; rw[jm,if_neg (by decide +kernel)]; rfl⟩
structure MAbove where
 order:MOrder
def Zu (u1:V):List (Str×V):=(QI "order" u1 [])
def Wn (ja:Addr) (C:Addr):Cd MAbove:=⟨fun K H o v=>∃ a dx u1,v=.ref a/\H a=some (.ins C dx (Zu u1))/\(jl ja).rep K H o.order u1,fun s ⟨a,dx,u1,e,h,r1⟩=>⟨a,dx,u1,e,s _ _ h,Cd.mono _ s r1⟩⟩
structure Ax (K:W.Frag) (mg:Str->Option Value) (C:Addr):Prop where
 cl:Cls K C
 n_order:NoAttr K C "order"
def J4 (T:Ax K mg C):QL K (Wn ja C) "order" (jl ja) (fun o=>o.order):=fun⟨a,dx,u1,e,h,r1⟩=>⟨a,C,dx,_,u1,e,h,T.cl,T.n_order,by unfold Zu; rw[jm,if_pos rfl],r1⟩
def Zv:Y6 (Wn ja C) C "done":=fun⟨a,dx,u1,e,h,_⟩=>⟨a,dx,_,e,h,by unfold Zu; rw[jm,if_neg (by decide +kernel)]; rfl⟩
structure MBelow where
 order:MOrder
def Zw (u1:V):List (Str×V):=(QI "order" u1 [])
def Wo (ja:Addr) (C:Addr):Cd MBelow:=⟨fun K H o v=>∃ a dx u1,v=.ref a/\H a=some (.ins C dx (Zw u1))/\(jl ja).rep K H o.order u1,fun s ⟨a,dx,u1,e,h,r1⟩=>⟨a,dx,u1,e,s _ _ h,Cd.mono _ s r1⟩⟩
structure Ay (K:W.Frag) (mg:Str->Option Value) (C:Addr):Prop where
 cl:Cls K C
 n_order:NoAttr K C "order"
def J5 (T:Ay K mg C):QL K (Wo ja C) "order" (jl ja) (fun o=>o.order):=fun⟨a,dx,u1,e,h,r1⟩=>⟨a,C,dx,_,u1,e,h,T.cl,T.n_order,by unfold Zw; rw[jm,if_pos rfl],r1⟩
def Zx:Y6 (Wo ja C) C "done":=fun⟨a,dx,u1,e,h,_⟩=>⟨a,dx,_,e,h,by unfold Zw; rw[jm,if_neg (by decide +kernel)]; rfl⟩
@[irreducible] def qk (script:(List Int)) (k_:Int):Option Int:=
 (some (0)).bind fun cell=>
 (bif (decide (0<(script.length:Int))) then
 (((some (script)).bind fun t1=>((jb4 k_ (script.length:Int))).bind fun t2=>(pAt t1 t2))).bind fun cell=>
 some cell
 else
 some cell).bind fun cell=>
 (some ((((cell+(7919 * (k_+1))) * 6364136223846793005) % 2305843009213693951))).bind fun low=>
 some (((((cell % (10 ^ 60:Int)) / 2305843009213693951) * 2305843009213693951)+low))
@[irreducible] def GJ (cell:Int):Option (Int×Int):=
 (some ((1+(cell % 9)))).bind fun a_=>
 ((some (a_)).bind fun t5=>(((some (1)).bind fun t3=>(((some ((cell / 9))).bind fun t1=>((jfW 9 a_)).bind fun t2=>(jb4 t1 t2))).bind fun t4=>some ((t3+t4)))).bind fun t6=>some ((t5,t6)))
@[irreducible] def yU (many:Int) (pairs:(List (Int×Int))):Option Unit:=
 bif (!((decide (1<=many))&&(decide (many<=9)))) then
 none
 else
 (L3.forM pairs () (fun (_:Unit) z3=>
 bif (!((decide (0<=z3.1))&&((decide (z3.1<z3.2))&&(decide (z3.2<many))))) then
 none
 else
 some ())).bind fun _=>
 some ()
@[irreducible] def zD (many:Int) (pairs:(List (Int×Int))):Option (List Int):=
 (some (([]:List Int))).bind fun found=>
 (((Gu 0 many)).bind fun l14=>L3.forM l14 found (fun found thing=>
 (some (0)).bind fun bits=>
 (L3.forM pairs bits (fun bits z7=>
 (bif (decide (z7.2=thing)) then
 (((((some (bits)).bind fun t8=>((pAt found z7.1)).bind fun t9=>some ((Builtin.bitOr t8 t9)))).bind fun t10=>((jbR 1 z7.1)).bind fun t11=>some ((Builtin.bitOr t10 t11)))).bind fun bits=>
 some bits
 else
 some bits).bind fun bits=>
 some bits)).bind fun bits=>
 ((jaz found bits)).bind fun found=>
 some found)).bind fun found=>
 some (found)
@[irreducible] def U6 (bits:Int) (thing:Int):Option Bool:=
 (((((jks bits thing)).bind fun t1=>(some (1)).bind fun t2=>some ((Builtin.bitAnd t1 t2)))).bind fun t3=>(some (1)).bind fun t4=>some ((decide (t3=t4))))
@[irreducible] def G1 (beneath:(List Int)) (low:Int) (high:Int):Option Bool:=
 ((((((pAt beneath high)).bind fun t1=>(some (low)).bind fun t2=>(U6 t1 t2))).bind fun t3=>some ((!t3)))).bind fun q13=>bif q13 then
 some (false)
 else
 (((((((Gu (low+1) high)).bind fun l10=>k7 l10 (fun _=>some true) (fun mid=>(((((pAt beneath high)).bind fun t6=>(some (mid)).bind fun t7=>(U6 t6 t7))).bind fun q=>bif q then (((pAt beneath mid)).bind fun t8=>(some (low)).bind fun t9=>(U6 t8 t9)) else some false)))).bind fun t11=>some ((t11.any id)))).bind fun t12=>some ((!t12)))
@[irreducible] def yV (beneath:(List Int)):Option (List (Int×Int)):=
 (some (([]:List (Int×Int)))).bind fun found=>
 (((Gu 0 (beneath.length:Int))).bind fun l7=>L3.forM l7 found (fun found low=>
 (((Gu (low+1) (beneath.length:Int))).bind fun l6=>L3.forM l6 found (fun found high=>
 (((G1 beneath low high)).bind fun q5=>bif q5 then
 ((jaz found (low,high))).bind fun found=>
 some found
 else
 some found).bind fun found=>
 some found)).bind fun found=>
 some found)).bind fun found=>
 some (found)
@[irreducible] def yu (many:Int) (pairs:(List (Int×Int))):Option MOrder:=
 ((yU many pairs)).bind fun _=>
 (some (many)).bind fun f_many=>
 ((zD many pairs)).bind fun f_beneath=>
 ((yV f_beneath)).bind fun f_neighbours=>
 some (MOrder.mk f_many f_beneath f_neighbours)
@[irreducible] def jR (self:MOrder):Option Int:=
 some (self.many)
@[irreducible] def kL (bits:Int):Option (List Int):=
 (((Gu 0 ((Builtin.Int.intBits bits:Nat):Int))).bind fun l3=>k7 l3 (fun thing=>(U6 bits thing)) (fun thing=>some (thing)))
@[irreducible] def qW (bits:Int) (others:Int):Option Bool:=
 some ((decide ((Builtin.bitAnd bits others)=others)))
@[irreducible] def xu (order:MOrder) (bits:Int):Option Bool:=
 ((bif (decide (bits<0)) then some true else ((((some (bits)).bind fun t1=>((jR order)).bind fun t2=>(jks t1 t2))).bind fun t3=>(some (0)).bind fun t4=>some ((decide (t4<t3)))))).bind fun q11=>bif q11 then
 some (false)
 else
 (((((kL bits)).bind fun l9=>k7 l9 (fun _=>some true) (fun thing=>((some (bits)).bind fun t7=>((pAt order.beneath thing)).bind fun t8=>(qW t7 t8))))).bind fun t10=>some ((t10.all id)))
@[irreducible] def kW (order:MOrder):Option (List Int):=
 ((((((some (1)).bind fun t1=>((jR order)).bind fun t2=>(jbR t1 t2))).bind fun t3=>(Gu 0 t3))).bind fun l6=>k7 l6 (fun bits=>(xu order bits)) (fun bits=>some (bits)))
@[irreducible] def yW (order:MOrder) (bits:Int) (thing:Int):Option Bool:=
 (((((U6 bits thing)).bind fun t1=>some ((!t1)))).bind fun q=>bif q then ((some (bits)).bind fun t2=>((pAt order.beneath thing)).bind fun t3=>(qW t2 t3)) else some false)
@[irreducible] def kR (order:MOrder) (ahead:Int):Option (List Int):=
 (((((jR order)).bind fun t1=>(Gu 0 t1))).bind fun l4=>k7 l4 (fun thing=>(yW order ahead thing)) (fun thing=>some (thing)))
@[irreducible] def xk (order:MOrder):Option (List (Int×Int)):=
 (some (([]:(List (Int×Int))))).bind fun ways=>
 (((((kW order)).bind fun t1=>some ((t1.reverse)))).bind fun l14=>L3.forM l14 ways (fun ways ahead=>
 ((((kR order ahead)).bind fun l8=>k7 l8 (fun _=>some true) (fun thing=>((some (ahead)).bind fun t6=>((jbR 1 thing)).bind fun t7=>some ((Builtin.bitOr t6 t7)))))).bind fun grown=>
 (((bif (decide (0<(grown.length:Int))) then (((k7 grown (fun _=>some true) (fun bits=>(WV ways bits)))).bind fun t11=>some ((t11.sum))) else some (1))).bind fun t12=>(some (ahead)).bind fun t13=>jkS ways t13 t12).bind fun ways=>
 some ways)).bind fun ways=>
 some ways
@[irreducible] def zE (order:MOrder) (number:Int):Option (List Int):=
 ((xk order)).bind fun ways=>
 ((((bif (decide (0<=number)) then ((WV ways 0)).bind fun t1=>some (decide (number<t1)) else some false)).bind fun t2=>some ((!t2)))).bind fun q31=>bif q31 then
 none
 else
 (some (([]:List Int))).bind fun row=>
 (some (0)).bind fun ahead=>
 (some (number)).bind fun left=>
 (pWh (fun z4=>((some ((z4.1.length:Int))).bind fun t5=>((jR order)).bind fun t6=>some ((decide (t5<t6))))) (fun z4=>
 ((kR order z4.2.1)).bind fun choices=>
 (pWh (fun z7=>((some (z7.1)).bind fun t14=>(((some (ways)).bind fun t12=>(((some (z4.2.1)).bind fun t10=>(((some (1)).bind fun t8=>((pAt z7.2 0)).bind fun t9=>(jbR t8 t9))).bind fun t11=>some ((Builtin.bitOr t10 t11)))).bind fun t13=>(WV t12 t13))).bind fun t15=>some ((decide (t15<=t14))))) (fun z7=>
 (((some (z7.1)).bind fun t22=>(((some (ways)).bind fun t20=>(((some (z4.2.1)).bind fun t18=>(((some (1)).bind fun t16=>((pAt z7.2 0)).bind fun t17=>(jbR t16 t17))).bind fun t19=>some ((Builtin.bitOr t18 t19)))).bind fun t21=>(WV t20 t21))).bind fun t23=>some ((t22-t23)))).bind fun left=>
 (some ((cut z7.2 (some 1) none))).bind fun choices=>
 some (left,choices)) (z4.2.2,choices)).bind fun z24=>
 ((((pAt z24.2 0)).bind fun t29=>(jaz z4.1 t29))).bind fun row=>
 (((some (z4.2.1)).bind fun t27=>(((some (1)).bind fun t25=>((pAt z24.2 0)).bind fun t26=>(jbR t25 t26))).bind fun t28=>some ((Builtin.bitOr t27 t28)))).bind fun ahead=>
 some (row,ahead,z24.1)) (row,ahead,left)).bind fun z30=>
 some (z30.1)
@[irreducible] def zt (self:MOrder):Option (List (Int×Int)):=
 some (self.neighbours)
@[irreducible] def xR (order:MOrder):Option Str:=
 ((((((jR order)).bind fun t1=>(JL t1))).bind fun t2=>(some ([]:List Str)).bind fun t3=>some (t2::t3))).bind fun words=>
 (((zt order)).bind fun l15=>L3.forM l15 words (fun words z6=>
 (((((some (z6.1)).bind fun i8=>(JL i8).bind fun y9=>(xr Str.empty y9).bind fun j7=>(xr j7 ("<":Str)).bind fun j10=>(some (z6.2)).bind fun i12=>(JL i12).bind fun y13=>(xr j10 y13).bind fun j11=>jlO j11)).bind fun t14=>(jaz words t14))).bind fun words=>
 some words)).bind fun words=>
 (Zi (" ":Str) words)
@[irreducible] def qX (order:MOrder) (bits:Int) (line:(List Int)) (answer:Str):Option MSpot:=
 (some (order)).bind fun f_order=>
 (some (bits)).bind fun f_bits=>
 (some (line)).bind fun f_line=>
 (some (answer)).bind fun f_answer=>
 some (MSpot.mk f_order f_bits f_line f_answer)
@[irreducible] def qu (order:MOrder):Option MSpot:=
 ((some (order)).bind fun t1=>(some (0)).bind fun t2=>((zE order 0)).bind fun t3=>((xR order)).bind fun t4=>(qX t1 t2 t3 t4))
@[irreducible] def m_Desk_init:Option (MSpot×List MSpot):=
 ((((yu 1 ([]:List (Int×Int)))).bind fun t1=>(qu t1))).bind fun f_spot=>
 (some ([]:List MSpot)).bind fun f_earlier=>
 some (f_spot,f_earlier)
@[irreducible] def yX (a_:Int) (b_:Int):Option (List (Int×Int)):=
 (some (([]:List (Int×Int)))).bind fun pairs=>
 (((Gu 0 a_)).bind fun l25=>L3.forM l25 pairs (fun pairs r_=>
 (((Gu 0 b_)).bind fun l24=>L3.forM l24 pairs (fun pairs c_=>
 (bif (decide (0<c_)) then
 ((((((((((W0 r_ b_)).bind fun t4=>(some (c_)).bind fun t5=>some ((t4+t5)))).bind fun t6=>(some (1)).bind fun t7=>some ((t6-t7)))).bind fun t10=>((((W0 r_ b_)).bind fun t8=>(some (c_)).bind fun t9=>some ((t8+t9)))).bind fun t11=>some ((t10,t11)))).bind fun t12=>(jaz pairs t12))).bind fun pairs=>
 some pairs
 else
 some pairs).bind fun pairs=>
 (bif (decide (0<r_)) then
 ((((((((((W0 r_ b_)).bind fun t14=>(some (c_)).bind fun t15=>some ((t14+t15)))).bind fun t16=>(some (b_)).bind fun t17=>some ((t16-t17)))).bind fun t20=>((((W0 r_ b_)).bind fun t18=>(some (c_)).bind fun t19=>some ((t18+t19)))).bind fun t21=>some ((t20,t21)))).bind fun t22=>(jaz pairs t22))).bind fun pairs=>
 some pairs
 else
 some pairs).bind fun pairs=>
 some pairs)).bind fun pairs=>
 some pairs)).bind fun pairs=>
 some pairs
@[irreducible] def J6 (many:Int) (pairs:(List (Int×Int))):Option Str:=
 (((((((JL many)).bind fun t1=>(some ([]:List Str)).bind fun t2=>some (t1::t2))).bind fun t14=>((((jg0 pairs)).bind fun l13=>k7 l13 (fun _=>some true) (fun z5=>((some (z5.1)).bind fun i7=>(JL i7).bind fun y8=>(xr Str.empty y8).bind fun j6=>(xr j6 ("<":Str)).bind fun j9=>(some (z5.2)).bind fun i11=>(JL i11).bind fun y12=>(xr j9 y12).bind fun j10=>jlO j10)))).bind fun t15=>(Yp t14 t15))).bind fun t16=>(Zi (" ":Str) t16))
@[irreducible] def yY (self:(MSpot×List MSpot)):Option (Str×(MSpot×List MSpot)):=
 bif (decide ((self.2.length:Int)=0)) then
 none
 else
 (jmR self.2).bind fun self=>
 ((some (("ready":Str))).bind fun y=>some (y,self))
@[irreducible] def yw (spot:MSpot):Option Str:=
 (xR spot.order)
@[irreducible] def G2 (order:MOrder):Option Int:=
 (((kW order)).bind fun t1=>some ((t1.length:Int)))
@[irreducible] def yh (order:MOrder):Option Int:=
 (((xk order)).bind fun t1=>(some (0)).bind fun t2=>(WV t1 t2))
@[irreducible] def xZ (values:(List Int)):Option Str:=
 (((k7 values (fun _=>some true) (fun value=>(JL value)))).bind fun t3=>(Zi (" ":Str) t3))
@[irreducible] def kK (spot:MSpot):Option Str:=
 (((((G2 spot.order)).bind fun t3=>(((yh spot.order)).bind fun t1=>(some ([]:List Int)).bind fun t2=>some (t1::t2)).bind fun t4=>some (t3::t4))).bind fun t5=>(xZ t5))
@[irreducible] def xv (order:MOrder):Option MGreat:=
 (some (order)).bind fun f_order=>
 some (MGreat.mk f_order)
@[irreducible] def xl (order:MOrder) (bits:Int):Option Unit:=
 ((((xu order bits)).bind fun t1=>some ((!t1)))).bind fun q2=>bif q2 then
 none
 else
 some ()
@[irreducible] def QD (zc:(List Int)):Option Int:=
 (some (0)).bind fun bits=>
 (L3.forM zc bits (fun bits thing=>
 (((some (bits)).bind fun t2=>((jbR 1 thing)).bind fun t3=>some ((Builtin.bitOr t2 t3)))).bind fun bits=>
 some bits)).bind fun bits=>
 some (bits)
@[irreducible] def U7 (order:MOrder) (bits:Int):Option Int:=
 ((xl order bits)).bind fun _=>
 (((((((jR order)).bind fun t1=>(Gu 0 t1))).bind fun l4=>k7 l4 (fun thing=>(yW order bits thing)) (fun thing=>some (thing)))).bind fun t5=>(QD t5))
@[irreducible] def zF (order:MOrder) (bits:Int):Option Int:=
 ((U7 order bits)).bind fun entered=>
 (some (entered)).bind fun turned=>
 (((kL entered)).bind fun l4=>L3.forM l4 turned (fun turned thing=>
 (((some (turned)).bind fun t2=>((pAt order.beneath thing)).bind fun t3=>some ((Builtin.bitOr t2 t3)))).bind fun turned=>
 some turned)).bind fun turned=>
 some (turned)
@[irreducible] def qa (self:MGreat) (one:Int):Option Int:=
 (zF self.order one)
@[irreducible] def QE (turn:MGreat) (one:Int):Option (List Int):=
 (some (([one]:List Int))).bind fun circle=>
 ((qa turn one)).bind fun following=>
 (pWh (fun z1=>some (!decide (z1.2=one))) (fun z1=>
 ((jaz z1.1 z1.2)).bind fun circle=>
 ((qa turn z1.2)).bind fun following=>
 some (circle,following)) (circle,following)).bind fun z2=>
 some z2.1
@[irreducible] def xC (spot:MSpot):Option (List Int):=
 (((xv spot.order)).bind fun t1=>(some (spot.bits)).bind fun t2=>(QE t1 t2))
@[irreducible] def xw (spot:MSpot):Option Str:=
 (((((xC spot)).bind fun t1=>some ((t1.length:Int)))).bind fun t2=>(JL t2))
@[irreducible] def qe (one:Int) (other:Int):Option Int:=
 (some ((jlM one))).bind fun first=>
 (some ((jlM other))).bind fun second=>
 (pWh (fun z2=>some (decide (0<z2.2))) (fun z2=>
 ((jb4 z2.1 z2.2)).bind fun rest_=>
 (some (z2.2)).bind fun first=>
 (some (rest_)).bind fun second=>
 some (first,second)) (first,second)).bind fun z3=>
 some (z3.1)
@[irreducible] def xm (top:Int) (bottom:Int):Option MFraction:=
 bif (decide (bottom=0)) then
 none
 else
 ((qe top bottom)).bind fun shared=>
 ((bif (decide (bottom<0)) then some ((-shared)) else some (shared))).bind fun divisor=>
 ((jfW top divisor)).bind fun f_top=>
 ((jfW bottom divisor)).bind fun f_bottom=>
 some (MFraction.mk f_top f_bottom)
@[irreducible] def jd8 (numbers:(List Int)):Option MFraction:=
 (xm (numbers.sum) (numbers.length:Int))
@[irreducible] def yi (self:MFraction):Option Str:=
 (some (self.top)).bind fun top=>
 (some (self.bottom)).bind fun bottom=>
 (bif (decide (bottom=1)) then (JL top) else ((some (top)).bind fun i2=>(JL i2).bind fun y3=>(xr Str.empty y3).bind fun j1=>(xr j1 ("/":Str)).bind fun j4=>(some (bottom)).bind fun i6=>(JL i6).bind fun y7=>(xr j4 y7).bind fun j5=>jlO j5))
@[irreducible] def Gj (sets:(List Int)):Option Str:=
 (((((k7 sets (fun _=>some true) (fun bits=>(((kL bits)).bind fun t3=>some ((t3.length:Int)))))).bind fun t4=>(jd8 t4))).bind fun t5=>(yi t5))
@[irreducible] def YB (order:MOrder) (bits:Int):Option Int:=
 ((xl order bits)).bind fun _=>
 (some (0)).bind fun covered=>
 (((kL bits)).bind fun l4=>L3.forM l4 covered (fun covered thing=>
 (((some (covered)).bind fun t2=>((pAt order.beneath thing)).bind fun t3=>some ((Builtin.bitOr t2 t3)))).bind fun covered=>
 some covered)).bind fun covered=>
 some ((Builtin.bitAnd bits (Builtin.bitNot covered)))
@[irreducible] def yZ (values:(List Str)):Option Str:=
 (((k7 values (fun _=>some true) (fun value=>some (value)))).bind fun t3=>(Zi (" ":Str) t3))
@[irreducible] def xS (spot:MSpot):Option Str:=
 ((xC spot)).bind fun circle=>
 (((((Gj circle)).bind fun t6=>(((((k7 circle (fun _=>some true) (fun bits=>(YB spot.order bits)))).bind fun t3=>(Gj t3))).bind fun t4=>(some ([]:List Str)).bind fun t5=>some (t4::t5)).bind fun t7=>some (t6::t7))).bind fun t8=>(yZ t8))
@[irreducible] def J7 (order:MOrder):Option (List Int):=
 (((some (([0]:List Int))).bind fun t3=>((((jR order)).bind fun t1=>(some (1)).bind fun t2=>some ((t1+t2)))).bind fun t4=>(jmK t3 t4))).bind fun counts=>
 (((kW order)).bind fun l12=>L3.forM l12 counts (fun counts bits=>
 ((((kL bits)).bind fun t7=>some ((t7.length:Int)))).bind fun many=>
 ((((((pAt counts many)).bind fun t8=>(some (1)).bind fun t9=>some ((t8+t9)))).bind fun t10=>(some (many)).bind fun t11=>(jkH counts t11 t10))).bind fun counts=>
 some counts)).bind fun counts=>
 some counts
@[irreducible] def xx (spot:MSpot):Option Str:=
 (((J7 spot.order)).bind fun t1=>(xZ t1))
@[irreducible] def xT (counts:(List Int)):Option (List Int):=
 (Yp ([0]:List Int) (cut counts none (some (-1))))
@[irreducible] def Wp (one:(List Int)) (other:(List Int)):Option (List Int):=
 (((Gu 0 (one.length:Int))).bind fun l5=>k7 l5 (fun _=>some true) (fun place=>(((pAt one place)).bind fun t3=>((pAt other place)).bind fun t4=>some ((t3+t4)))))
@[irreducible] def G3 (order:MOrder):Option (List Int):=
 (((some (([0]:List Int))).bind fun t1=>((jR order)).bind fun t2=>(jmK t1 t2))).bind fun nothing=>
 (((some ((0,(-1)))).bind fun t3=>((Yp ([1]:List Int) (cut nothing (some 1) none))).bind fun t4=>some (([(t3,t4)]:(List ((Int×Int)×(List Int))))))).bind fun begun=>
 (((((jR order)).bind fun t5=>(Gu 0 t5))).bind fun l32=>L3.forM l32 begun (fun begun place=>
 (some (([]:(List ((Int×Int)×(List Int)))))).bind fun longer=>
 (L3.forM (begun.map (·.1)) longer (fun longer z20=>
 ((WV begun (z20.1,z20.2))).bind fun counts=>
 (((kR order z20.1)).bind fun l30=>L3.forM l30 longer (fun longer thing=>
 (((((some (z20.1)).bind fun t24=>((jbR 1 thing)).bind fun t25=>some ((Builtin.bitOr t24 t25)))).bind fun t26=>(some (thing)).bind fun t27=>some ((t26,t27)))).bind fun grown=>
 ((bif (decide (thing<z20.2)) then (xT counts) else some (counts))).bind fun more=>
 (((Wp ((ja9 longer grown).getD nothing) more)).bind fun t28=>(some (grown)).bind fun t29=>jkS longer t29 t28).bind fun longer=>
 some longer)).bind fun longer=>
 some longer)).bind fun longer=>
 (some (longer)).bind fun begun=>
 some begun)).bind fun begun=>
 (((((jR order)).bind fun t33=>(Gu 0 t33))).bind fun l39=>k7 l39 (fun _=>some true) (fun falls=>(((k7 (begun.map (·.2)) (fun _=>some true) (fun counts=>(pAt counts falls)))).bind fun t38=>some ((t38.sum)))))
@[irreducible] def xy (spot:MSpot):Option Str:=
 (((G3 spot.order)).bind fun t1=>(xZ t1))
def jcJ:List (Str×(MSpot->Option Str)):=[("show",yw),("counts",kK),("where",fun _=>none),("round",xw),("mean",xS),("sizes",xx),("falls",xy)]
@[irreducible] def xU (word:Str):Option Bool:=
 ((((((((jk7 word)).bind fun t1=>some ((decide (1<=t1))&&(decide (t1<=6))))).bind fun t2=>some ((!t2)))).bind fun q=>bif q then some true else (((((atS word 0)).bind fun t3=>(some (("0":Str))).bind fun t4=>some ((decide (t3=t4))))).bind fun q=>bif q then some ((!decide (word=("0":Str)))) else some false))).bind fun q9=>bif q9 then
 some (false)
 else
 (((((QQ word)).bind fun l7=>k7 l7 (fun _=>some true) (fun sign=>some ((inS sign "0123456789"))))).bind fun t8=>some ((t8.all id)))
@[irreducible] def J8 (zc:(List Int)):Option Str:=
 (((k7 zc (fun _=>some true) (fun thing=>(JL thing)))).bind fun t3=>(Zi ("":Str) t3))
@[irreducible] def qY (spot:MSpot) (bits:Int):Option MSpot:=
 ((some (spot.order)).bind fun t2=>(some (bits)).bind fun t3=>(some (spot.line)).bind fun t4=>((bif (decide (bits=0)) then some (("-":Str)) else (((kL bits)).bind fun t1=>(J8 t1)))).bind fun t5=>(qX t2 t3 t4 t5))
@[irreducible] def yx (spot:MSpot):Option MSpot:=
 ((some (spot)).bind fun t3=>((((xv spot.order)).bind fun t1=>(some (spot.bits)).bind fun t2=>(qa t1 t2))).bind fun t4=>(qY t3 t4))
@[irreducible] def qO (order:MOrder):Option MSlide:=
 (some (order)).bind fun f_order=>
 some (MSlide.mk f_order)
@[irreducible] def za (order:MOrder) (line:(List Int)):Option Bool:=
 ((((jmz line)).bind fun t2=>((((jR order)).bind fun t1=>(jit t1))).bind fun t3=>some ((!jmk t2 t3)))).bind fun q12=>bif q12 then
 some (false)
 else
 (some (0)).bind fun ahead=>
 (jjG line ahead (fun ahead thing=>
 (((((some (ahead)).bind fun t5=>((pAt order.beneath thing)).bind fun t6=>(qW t5 t6))).bind fun t7=>some ((!t7)))).bind fun q10=>bif q10 then
 (some (false)).bind fun y=>some (.rt y)
 else
 (((some (ahead)).bind fun t8=>((jbR 1 thing)).bind fun t9=>some ((Builtin.bitOr t8 t9)))).bind fun ahead=>
 some (.nx ahead))).bind fun x_=>x_.el (fun c_=>some c_) (fun ahead=>
 some (true))
@[irreducible] def ku (order:MOrder) (line:(List Int)):Option Unit:=
 ((((za order line)).bind fun t1=>some ((!t1)))).bind fun q2=>bif q2 then
 none
 else
 some ()
@[irreducible] def kx (self:MOrder) (thing:Int):Option Unit:=
 bif (!((decide (0<=thing))&&(decide (thing<self.many)))) then
 none
 else
 some ()
@[irreducible] def qf (self:MOrder) (thing:Int):Option (List Int):=
 ((kx self thing)).bind fun _=>
 (k7 self.neighbours (fun z3=>some ((decide (z3.1=thing)))) (fun z3=>some (z3.2)))
@[irreducible] def kS (row:(List Int)) (zc:(List Int)):Option (List Int):=
 (k7 zc (fun thing=>some ((Y4 thing row))) (fun thing=>(jmx row thing)))
@[irreducible] def J9 (order:MOrder) (row:(List Int)):Option (List Int):=
 (some (row)).bind fun moved=>
 ((pAt row 0)).bind fun gap=>
 (((some (row)).bind fun t1=>((qf order gap)).bind fun t2=>(kS t1 t2))).bind fun higher=>
 (pWh (fun z4=>some (decide (0<(z4.2.2.length:Int)))) (fun z4=>
 ((jkN z4.2.2)).bind fun place=>
 ((jkH z4.1 place z4.2.1)).bind fun moved=>
 ((pAt row place)).bind fun gap=>
 (((some (row)).bind fun t5=>((qf order gap)).bind fun t6=>(kS t5 t6))).bind fun higher=>
 some (moved,gap,higher)) (moved,gap,higher)).bind fun z7=>
 (((Yp (cut z7.1 (some 1) none) ([z7.2.1]:List Int))).bind fun t8=>some (t8))
@[irreducible] def kY (self:MSlide) (one:(List Int)):Option (List Int):=
 ((ku self.order one)).bind fun _=>
 (J9 self.order one)
@[irreducible] def qA (zc:(List Int)):Option Str:=
 (((k7 zc (fun _=>some true) (fun thing=>(JL thing)))).bind fun t3=>(Zi ("":Str) t3))
@[irreducible] def qZ (spot:MSpot) (line:(List Int)):Option MSpot:=
 ((some (spot.order)).bind fun t1=>(some (spot.bits)).bind fun t2=>(some (line)).bind fun t3=>((qA line)).bind fun t4=>(qX t1 t2 t3 t4))
@[irreducible] def yy (spot:MSpot):Option MSpot:=
 ((some (spot)).bind fun t3=>((((qO spot.order)).bind fun t1=>(some (spot.line)).bind fun t2=>(kY t1 t2))).bind fun t4=>(qZ t3 t4))
@[irreducible] def qg (self:MOrder) (thing:Int):Option (List Int):=
 ((kx self thing)).bind fun _=>
 (k7 self.neighbours (fun z3=>some ((decide (z3.2=thing)))) (fun z3=>some (z3.1)))
@[irreducible] def q8 (order:MOrder) (row:(List Int)):Option (List Int):=
 (some (row)).bind fun moved=>
 ((pAt row (-1))).bind fun gap=>
 (((some (row)).bind fun t1=>((qg order gap)).bind fun t2=>(kS t1 t2))).bind fun lower=>
 (pWh (fun z4=>some (decide (0<(z4.2.2.length:Int)))) (fun z4=>
 ((jkO z4.2.2)).bind fun place=>
 ((jkH z4.1 place z4.2.1)).bind fun moved=>
 ((pAt row place)).bind fun gap=>
 (((some (row)).bind fun t5=>((qg order gap)).bind fun t6=>(kS t5 t6))).bind fun lower=>
 some (moved,gap,lower)) (moved,gap,lower)).bind fun z7=>
 (((Yp ([z7.2.1]:List Int) (cut z7.1 none (some (-1))))).bind fun t8=>some (t8))
@[irreducible] def qv (self:MSlide) (one:(List Int)):Option (List Int):=
 ((ku self.order one)).bind fun _=>
 (q8 self.order one)
@[irreducible] def xz (spot:MSpot):Option MSpot:=
 ((some (spot)).bind fun t3=>((((qO spot.order)).bind fun t1=>(some (spot.line)).bind fun t2=>(qv t1 t2))).bind fun t4=>(qZ t3 t4))
@[irreducible] def yz (order:MOrder):Option MAbove:=
 (some (order)).bind fun f_order=>
 some (MAbove.mk f_order)
@[irreducible] def ky (self:MAbove) (one:(List Int)):Option (List Int):=
 ((ku self.order one)).bind fun _=>
 (some (one)).bind fun row=>
 (((jgE (one.length:Int) 1)).bind fun l4=>L3.forM l4 row (fun row end_=>
 ((((J9 self.order (cut row none (some end_)))).bind fun t2=>(some ((cut row (some end_) none))).bind fun t3=>(Yp t2 t3))).bind fun row=>
 some row)).bind fun row=>
 some (row)
@[irreducible] def yA (spot:MSpot):Option MSpot:=
 ((some (spot)).bind fun t3=>((((yz spot.order)).bind fun t1=>(some (spot.line)).bind fun t2=>(ky t1 t2))).bind fun t4=>(qZ t3 t4))
@[irreducible] def yB (order:MOrder):Option MBelow:=
 (some (order)).bind fun f_order=>
 some (MBelow.mk f_order)
@[irreducible] def qw (self:MBelow) (one:(List Int)):Option (List Int):=
 ((ku self.order one)).bind fun _=>
 (some (one)).bind fun row=>
 (((Gu 0 ((one.length:Int)-1))).bind fun l4=>L3.forM l4 row (fun row GV=>
 (((some ((cut row none (some GV)))).bind fun t2=>((q8 self.order (cut row (some GV) none))).bind fun t3=>(Yp t2 t3))).bind fun row=>
 some row)).bind fun row=>
 some (row)
@[irreducible] def yC (spot:MSpot):Option MSpot:=
 ((some (spot)).bind fun t3=>((((yB spot.order)).bind fun t1=>(some (spot.line)).bind fun t2=>(qw t1 t2))).bind fun t4=>(qZ t3 t4))
def zW:List (Str×(MSpot->Option MSpot)):=[("great",yx),("ungreat",fun _=>none),("slide",yy),("unslide",xz),("above",yA),("below",yC)]
@[irreducible] def zu (k_:Int):Option Unit:=
 bif (!((decide (1<=k_))&&(decide (k_<=3)))) then
 none
 else
 some ()
@[irreducible] def G4 (widths:(List Int)):Option (List (Int×Int)):=
 (some (([]:List (Int×Int)))).bind fun found=>
 (((Gu 0 (widths.length:Int))).bind fun l7=>L3.forM l7 found (fun found row=>
 ((((((((pAt widths row)).bind fun t2=>(Gu 0 t2))).bind fun l5=>k7 l5 (fun _=>some true) (fun column=>some ((row,column))))).bind fun t6=>(Yp found t6))).bind fun found=>
 some found)).bind fun found=>
 some found
@[irreducible] def zv (k_:Int):Option (List (Int×Int)):=
 (((jdU k_ 0)).bind fun t1=>(G4 t1))
@[irreducible] def x5 (one:(Int×Int)) (other:(Int×Int)):Option Bool:=
 some (((decide (one.1<=other.1))&&(decide (one.2<=other.2))))
@[irreducible] def G5 (cells:(List (Int×Int))):Option MOrder:=
 (some (([]:List (Int×Int)))).bind fun pairs=>
 (((Gu 0 (cells.length:Int))).bind fun l8=>L3.forM l8 pairs (fun pairs high=>
 ((((((Gu 0 high)).bind fun l6=>k7 l6 (fun low=>(((pAt cells low)).bind fun t4=>((pAt cells high)).bind fun t5=>(x5 t4 t5))) (fun low=>some ((low,high))))).bind fun t7=>(Yp pairs t7))).bind fun pairs=>
 some pairs)).bind fun pairs=>
 (yu (cells.length:Int) pairs)
@[irreducible] def Uy (k_:Int):Option MOrder:=
 ((zu k_)).bind fun _=>
 (((zv k_)).bind fun t1=>(G5 t1))
@[irreducible] def yn (spot:MSpot) (k_:Int):Option MSpot:=
 (((Uy k_)).bind fun t1=>(qu t1))
@[irreducible] def zG (order:MOrder) (place:Int):Option Int:=
 ((kW order)).bind fun found=>
 bif (!((decide (0<=place))&&(decide (place<(found.length:Int))))) then
 none
 else
 (pAt found place)
@[irreducible] def zH (spot:MSpot) (place:Int):Option MSpot:=
 ((some (spot)).bind fun t1=>((zG spot.order place)).bind fun t2=>(qY t1 t2))
@[irreducible] def zI (spot:MSpot) (number:Int):Option MSpot:=
 ((some (spot)).bind fun t1=>((zE spot.order number)).bind fun t2=>(qZ t1 t2))
def zw:List (Str×(MSpot->Int->Option MSpot)):=[("stairs",yn),("down",zH),("toggle",fun _ _=>none),("line",zI),("swap",fun _ _=>none)]
@[irreducible] def zX (a_:Int) (b_:Int):Option Unit:=
 ((bif (decide (a_<1)) then some true else (bif (decide (b_<1)) then some true else (((W0 a_ b_)).bind fun t1=>(some (9)).bind fun t2=>some ((decide (t2<t1))))))).bind fun q3=>bif q3 then
 none
 else
 some ()
@[irreducible] def Gk (a_:Int) (b_:Int):Option MOrder:=
 ((zX a_ b_)).bind fun _=>
 (((((jmK ([b_]:List Int) a_)).bind fun t1=>(G4 t1))).bind fun t2=>(G5 t2))
@[irreducible] def kg (spot:MSpot) (row:Str):Option MSpot:=
 bif (U3 row "order ") then
 none
 else
 ((Gw row)).bind fun words=>
 ((pAt words 0)).bind fun name=>
 ((k7 (cut words (some 1) none) (fun word=>(xU word)) (fun word=>(J2 word)))).bind fun numbers=>
 bif (!decide ((numbers.length:Int)=((words.length:Int)-1))) then
 none
 else
 bif ((Y4 name ["great","ungreat","slide","unslide","above","below"])&&(decide ((numbers.length:Int)=0))) then
 (lk1 zW name spot)
 else
 bif ((Y4 name ["stairs","down","toggle","line","swap"])&&(decide ((numbers.length:Int)=1))) then
 (((pAt numbers 0)).bind fun t3=>lk2 zw name spot t3)
 else
 bif ((decide (name=("field":Str)))&&(decide ((numbers.length:Int)=2))) then
 (((((pAt numbers 0)).bind fun t4=>((pAt numbers 1)).bind fun t5=>(Gk t4 t5))).bind fun t6=>(qu t6))
 else
 none
@[irreducible] def jH (self:(MSpot×List MSpot)) (row:Str):Option (Str×(MSpot×List MSpot)):=
 bif (decide (row=("undo":Str))) then
 ((some ()).bind fun z=>yY self)
 else
 bif (Y4 row ["show","counts","where","round","mean","sizes","falls"]) then
 none
 else
 ((kg self.1 row)).bind fun step=>
 (jaz self.2 self.1).bind fun l1=>
 (some (step)).bind fun s2=>
 ((some (step.answer)).bind fun y=>some (y,(s2,(self.1,l1).2)))
@[irreducible] def jO (self:(MSpot×List MSpot)) (row:Str):Option Str:=
 bif (decide (row=("undo":Str))) then
 none
 else
 bif (Y4 row ["show","counts","where","round","mean","sizes","falls"]) then
 (lk1 jcJ row self.1)
 else
 none
@[irreducible] def qG (desk:(MSpot×List MSpot)) (row:Str) (many:Int):Option (Str×(MSpot×List MSpot)):=
 (some (("":Str))).bind fun found=>
 (((Gu 0 many)).bind fun l3=>L3.forM l3 (desk,found) (fun z2 k_=>
 (((some (row)).bind fun a=>(some ()).bind fun b=>some (a,b)).bind fun z=>jH z2.1 z.1).bind fun z=>Zm z (fun found desk=>
 some (desk,found)))).bind fun z4=>
 ((some (z4.2)).bind fun y=>some (y,z4.1))
@[irreducible] def Jl (desk:(MSpot×List MSpot)) (line:Str):Option (Bool×(MSpot×List MSpot)):=
 (((((some (("above":Str))).bind fun a=>((some (2)).bind fun a=>(some ()).bind fun b=>some (a,b)).bind fun b=>some (a,b)).bind fun z=>qG desk z.1 z.2.1).bind fun z=>jcF z jaA (fun desk=>some (line))).bind fun z=>orK z (fun desk=>((((some (("below":Str))).bind fun a=>((some (2)).bind fun a=>(some ()).bind fun b=>some (a,b)).bind fun b=>some (a,b)).bind fun z=>qG desk z.1 z.2.1).bind fun z=>jcF z jaA (fun desk=>some (line))))).bind fun z=>ifK z (fun desk=>
 ((some (false)).bind fun y=>some (y,desk))) (fun desk=>
 (((some (("slide":Str))).bind fun a=>(some ()).bind fun b=>some (a,b)).bind fun z=>jH desk z.1).bind fun z=>Zm z (fun _ desk=>
 (((some (("above":Str))).bind fun a=>(some ()).bind fun b=>some (a,b)).bind fun z=>jH desk z.1).bind fun z=>Zm z (fun one desk=>
 (((some (("undo":Str))).bind fun a=>((some (2)).bind fun a=>(some ()).bind fun b=>some (a,b)).bind fun b=>some (a,b)).bind fun z=>qG desk z.1 z.2.1).bind fun z=>Zm z (fun _ desk=>
 (((some (("above":Str))).bind fun a=>(some ()).bind fun b=>some (a,b)).bind fun z=>jH desk z.1).bind fun z=>Zm z (fun _ desk=>
 (((some (("unslide":Str))).bind fun a=>(some ()).bind fun b=>some (a,b)).bind fun z=>jH desk z.1).bind fun z=>Zm z (fun other desk=>
 (((some (("undo":Str))).bind fun a=>((some (2)).bind fun a=>(some ()).bind fun b=>some (a,b)).bind fun b=>some (a,b)).bind fun z=>qG desk z.1 z.2.1).bind fun z=>Zm z (fun _ desk=>
 ((some ((decide (one=other)))).bind fun y=>some (y,desk)))))))))
@[irreducible] def zk (top:Int) (bottom:Int):Option Str:=
 (some (top)).bind fun one=>
 (some (bottom)).bind fun other=>
 (pWh (fun z2=>some (!decide (z2.2=0))) (fun z2=>
 ((jb4 z2.1 z2.2)).bind fun rest_=>
 (some (z2.2)).bind fun one=>
 (some (rest_)).bind fun other=>
 some (one,other)) (one,other)).bind fun z3=>
 bif (decide (bottom=z3.1)) then
 (((jfW top z3.1)).bind fun t4=>(JL t4))
 else
 (((((((jfW top z3.1)).bind fun t5=>(JL t5))).bind fun t6=>(some (("/":Str))).bind fun t7=>(xr t6 t7))).bind fun t9=>((((jfW bottom z3.1)).bind fun t8=>(JL t8))).bind fun t10=>(xr t9 t10))
@[irreducible] def qB (desk:(MSpot×List MSpot)) (k_:Int) (cell:Int):Option (Bool×(MSpot×List MSpot)):=
 (some (([]:List (Int×Int)))).bind fun cells=>
 (((Gu 0 k_)).bind fun l7=>L3.forM l7 cells (fun cells r_=>
 (((some (cells)).bind fun t5=>((((Gu 0 (k_-r_))).bind fun l4=>k7 l4 (fun _=>some true) (fun c_=>some ((r_,c_))))).bind fun t6=>(Yp t5 t6))).bind fun cells=>
 some cells)).bind fun cells=>
 (some (([]:List (Int×Int)))).bind fun pairs=>
 (((Gu 0 (cells.length:Int))).bind fun l19=>L3.forM l19 pairs (fun pairs high=>
 ((pAt cells high)).bind fun z11=>
 (((some (pairs)).bind fun t17=>((((Gu 0 high)).bind fun l16=>k7 l16 (fun low=>(((pAt cells low)).bind fun t14=>(some (([((z11.1-1),z11.2),(z11.1,(z11.2-1))]:List (Int×Int)))).bind fun t15=>some ((Y4 t14 t15)))) (fun low=>some ((low,high))))).bind fun t18=>(Yp t17 t18))).bind fun pairs=>
 some pairs)).bind fun pairs=>
 ((((((some (("stairs ":Str))).bind fun t20=>((JL k_)).bind fun t21=>(xr t20 t21))).bind fun a=>(some ()).bind fun b=>some (a,b)).bind fun z=>jH desk z.1).bind fun z=>jcF z jaA (fun desk=>(J6 (cells.length:Int) pairs))).bind fun z=>ifK z (fun desk=>
 ((some (false)).bind fun y=>some (y,desk))) (fun desk=>
 (((((some (("line ":Str))).bind fun t29=>(((((some (cell)).bind fun t26=>((((((((jO desk ("counts":Str))).bind fun t22=>(Gw t22))).bind fun t23=>(some (1)).bind fun t24=>(pAt t23 t24))).bind fun t25=>(J2 t25))).bind fun t27=>(jb4 t26 t27))).bind fun t28=>(JL t28))).bind fun t30=>(xr t29 t30))).bind fun a=>(some ()).bind fun b=>some (a,b)).bind fun z=>jH desk z.1).bind fun z=>Zm z (fun line desk=>
 (some (("":Str))).bind fun due=>
 (((QQ line)).bind fun l40=>L3.forM l40 due (fun due sign=>
 (((some (cells)).bind fun t34=>((J2 sign)).bind fun t35=>(pAt t34 t35))).bind fun z36=>
 (((some (due)).bind fun t38=>((((jcv cells (z36.2,z36.1))).bind fun t37=>(JL t37))).bind fun t39=>(xr t38 t39))).bind fun due=>
 some due)).bind fun due=>
 (((((some (("slide":Str))).bind fun a=>((some ((cells.length:Int))).bind fun a=>(some ()).bind fun b=>some (a,b)).bind fun b=>some (a,b)).bind fun z=>qG desk z.1 z.2.1).bind fun z=>jcF z jiU (fun desk=>some (due))).bind fun z=>jnx z (fun desk=>((((some (("slide":Str))).bind fun a=>((some ((cells.length:Int))).bind fun a=>(some ()).bind fun b=>some (a,b)).bind fun b=>some (a,b)).bind fun z=>qG desk z.1 z.2.1).bind fun z=>jcF z jiU (fun desk=>some (line)))))))
@[irreducible] def jbj (script:(List Int)):Option Bool:=
 ((((qk script 0)).bind fun t1=>(GJ t1))).bind fun z2=>
 m_Desk_init.bind fun desk=>
 ((((W0 z2.1 z2.2)).bind fun t3=>((yX z2.1 z2.2)).bind fun t4=>(J6 t3 t4))).bind fun shown_here=>
 (((((((((((some (("field ":Str))).bind fun t5=>((JL z2.1)).bind fun t6=>(xr t5 t6))).bind fun t7=>(some ((" ":Str))).bind fun t8=>(xr t7 t8))).bind fun t9=>((JL z2.2)).bind fun t10=>(xr t9 t10))).bind fun a=>(some ()).bind fun b=>some (a,b)).bind fun z=>jH desk z.1).bind fun z=>jcF z jaA (fun desk=>some (shown_here))).bind fun z=>orK z (fun desk=>(((((jO desk ("show":Str))).bind fun t11=>(some (shown_here)).bind fun t12=>some ((!decide (t11=t12))))).bind fun y=>some (y,desk)))).bind fun z=>ifK z (fun desk=>
 some (false)) (fun desk=>
 ((((((jO desk ("counts":Str))).bind fun t13=>(Gw t13))).bind fun l16=>k7 l16 (fun _=>some true) (fun word=>(J2 word)))).bind fun counts=>
 ((((((jO desk ("sizes":Str))).bind fun t17=>(Gw t17))).bind fun l20=>k7 l20 (fun _=>some true) (fun word=>(J2 word)))).bind fun sizes=>
 (((((some ((sizes.length:Int))).bind fun t23=>((((W0 z2.1 z2.2)).bind fun t21=>(some (1)).bind fun t22=>some ((t21+t22)))).bind fun t24=>some ((!decide (t23=t24))))).bind fun q=>bif q then some true else ((((some ((sizes.sum))).bind fun t25=>((pAt counts 0)).bind fun t26=>some ((!decide (t25=t26))))).bind fun q=>bif q then some true else some ((!jmk sizes (sizes.reverse)))))).bind fun q64=>bif q64 then
 some (false)
 else
 ((((((((((jO desk ("falls":Str))).bind fun t27=>(Gw t27))).bind fun l30=>k7 l30 (fun _=>some true) (fun word=>(J2 word)))).bind fun t31=>some ((t31.sum)))).bind fun t32=>((pAt counts 1)).bind fun t33=>some ((!decide (t32=t33))))).bind fun q63=>bif q63 then
 some (false)
 else
 (((((some (("down ":Str))).bind fun t37=>((((((qk script 1)).bind fun t34=>((pAt counts 0)).bind fun t35=>(jb4 t34 t35))).bind fun t36=>(JL t36))).bind fun t38=>(xr t37 t38))).bind fun a=>(some ()).bind fun b=>some (a,b)).bind fun z=>jH desk z.1).bind fun z=>Zm z (fun zc desk=>
 (((((some (("line ":Str))).bind fun t42=>((((((qk script 2)).bind fun t39=>((pAt counts 1)).bind fun t40=>(jb4 t39 t40))).bind fun t41=>(JL t41))).bind fun t43=>(xr t42 t43))).bind fun a=>(some ()).bind fun b=>some (a,b)).bind fun z=>jH desk z.1).bind fun z=>Zm z (fun line desk=>
 (((((some (("great":Str))).bind fun a=>((some ((z2.1+z2.2))).bind fun a=>(some ()).bind fun b=>some (a,b)).bind fun b=>some (a,b)).bind fun z=>qG desk z.1 z.2.1).bind fun z=>jcF z jaA (fun desk=>some (zc))).bind fun z=>orK z (fun desk=>((((some (("slide":Str))).bind fun a=>(((W0 z2.1 z2.2)).bind fun a=>(some ()).bind fun b=>some (a,b)).bind fun b=>some (a,b)).bind fun z=>qG desk z.1 z.2.1).bind fun z=>jcF z jaA (fun desk=>some (line))))).bind fun z=>ifK z (fun desk=>
 some (false)) (fun desk=>
 (((((((some ((z2.1+z2.2))).bind fun t45=>((((jO desk ("round":Str))).bind fun t44=>(J2 t44))).bind fun t46=>(jb4 t45 t46))).bind fun t47=>(some (0)).bind fun t48=>some ((!decide (t47=t48))))).bind fun y=>some (y,desk)).bind fun z=>orK z (fun desk=>((((some (line)).bind fun a=>(some ()).bind fun b=>some (a,b)).bind fun z=>Jl desk z.1).bind fun z=>some (!z.1,z.2)))).bind fun z=>ifK z (fun desk=>
 some (false)) (fun desk=>
 ((((jO desk ("mean":Str))).bind fun t57=>((((((((W0 z2.1 z2.2)).bind fun t49=>(some (2)).bind fun t50=>(zk t49 t50))).bind fun t51=>(some ((" ":Str))).bind fun t52=>(xr t51 t52))).bind fun t55=>((((W0 z2.1 z2.2)).bind fun t53=>(some ((z2.1+z2.2))).bind fun t54=>(zk t53 t54))).bind fun t56=>(xr t55 t56))).bind fun t58=>some ((!decide (t57=t58))))).bind fun q62=>bif q62 then
 some (false)
 else
 ((((((some (1)).bind fun t60=>((((qk script 3)).bind fun t59=>some ((t59 % 3)))).bind fun t61=>some ((t60+t61)))).bind fun a=>(((qk script 4)).bind fun a=>(some ()).bind fun b=>some (a,b)).bind fun b=>some (a,b)).bind fun z=>qB desk z.1 z.2.1).bind fun z=>some z.1))))))
end Lw
variable {O:Lw.MOrder}
namespace Lw
open PySem L2 L3 M01
def zn (l:List Nat):List Int:=l.map fun t=>((t:Nat):Int)
def ths (n b:Nat):List Nat:=(List.range n).filter fun t=>b.testBit t
def eln (b:β) (f:γ->δ) (g:β->δ):(Fl.nx b:Fl β γ).el f g=g b:=rfl
end Lw
namespace MM
open PySem L2 L3
def ins (x:Int):List Int->List Int
 | []=>[x]
 | y::r=>bif decide (x<=y) then x::y::r else y::ins x r
def jlP:List Int->List Int
 | []=>[]
 | x::r=>ins x (jlP r)
def Zy (x:Int):∀ l,(ins x l).Perm (x::l)
 | []=>List.Perm.refl _
 | y::r=>by
  unfold ins;cases decide (x<=y)
  ·exact(List.Perm.cons y (Zy x r)).trans (List.Perm.swap x y r)
  ·exact List.Perm.refl _
def jbk:∀ l,(jlP l).Perm l
 | []=>List.Perm.refl _
 | x::r=>(Zy x (jlP r)).trans (List.Perm.cons x (jbk r))
def jj3 (x:Int):∀ {l:List Int},l.Pairwise (·<=·)->(ins x l).Pairwise (·<=·)
 | [],_=>List.pairwise_singleton _ _
 | y::r,h=>by
  obtain⟨h1,h2⟩:=List.pairwise_cons.mp h;unfold ins;by_cases q:x<=y
  ·rw[decide_eq_true q];refine List.pairwise_cons.mpr ⟨fun z hz=>?_,h⟩;rcases List.mem_cons.mp hz with rfl | hz
   ·exact q
   ·exact Int.le_trans q (h1 z hz)
  ·rw[decide_eq_false q];refine List.pairwise_cons.mpr ⟨fun z hz=>?_,jj3 x h2⟩;rcases List.mem_cons.mp ((Zy x r).mem_iff.mp hz) with rfl | hz
   ·omega
   ·exact h1 z hz
def jhh:∀ l,(jlP l).Pairwise (·<=·)
 | []=>List.Pairwise.nil
 | x::r=>jj3 x (jhh r)
def ji2 (l:List Int):srt l=jlP l:=(jjI (jbk l) (jhh l)).symm
def pSrt' (l:List Int):Option (List Int):=if l.length<64 then some (jlP l) else none
def pSrt_tw:@jmz=@pSrt':=by
 funext l
 unfold jmz pSrt';rw[ji2]
def jlQ (x:Int×Int):List (Int×Int)->List (Int×Int)
 | []=>[x]
 | y::r=>bif leP x y then x::y::r else y::jlQ x r
def jhi:List (Int×Int)->List (Int×Int)
 | []=>[]
 | x::r=>jlQ x (jhi r)
def Wq (x:Int×Int):∀ l,(jlQ x l).Perm (x::l)
 | []=>List.Perm.refl _
 | y::r=>by
  unfold jlQ;cases leP x y
  ·exact(List.Perm.cons y (Wq x r)).trans (List.Perm.swap x y r)
  ·exact List.Perm.refl _
def YC:∀ l,(jhi l).Perm l
 | []=>List.Perm.refl _
 | x::r=>(Wq x (jhi r)).trans (List.Perm.cons x (YC r))
def jhj (x:Int×Int):∀ {l:List (Int×Int)},l.Pairwise (fun p q=>leP p q=true)->(jlQ x l).Pairwise (fun p q=>leP p q=true)
 | [],_=>List.pairwise_singleton _ _
 | y::r,h=>by
  obtain⟨h1,h2⟩:=List.pairwise_cons.mp h;unfold jlQ;by_cases q:leP x y=true
  ·rw[q];refine List.pairwise_cons.mpr ⟨fun z hz=>?_,h⟩;rcases List.mem_cons.mp hz with rfl | hz
   ·exact q
   ·have:=h1 z hz;rw[U1] at this q ⊢;omega
  ·rw[eq_false_of_ne_true q];refine List.pairwise_cons.mpr ⟨fun z hz=>?_,jhj x h2⟩;rcases List.mem_cons.mp ((Wq x r).mem_iff.mp hz) with rfl | hz
   ·rw[U1] at q ⊢;omega
   ·exact h1 z hz
def jd9:∀ l,(jhi l).Pairwise (fun p q=>leP p q=true)
 | []=>List.Pairwise.nil
 | x::r=>jhj x (jd9 r)
def pSrtP' (l:List (Int×Int)):Option (List (Int×Int)):=if l.length<64 then some (jhi l) else none
def pSrtP_tw:@jg0=@pSrtP':=by
 funext l
 unfold jg0 pSrtP';rw[jgV (YC l) (jd9 l)]
end MM
namespace Lw
open PySem L2 L3
def jlR (c:Int) {m:Nat} (h:0<m):∃ k:Nat,k<m/\c % (m:Int)=(k:Int):=by
 have h1:=Int.emod_nonneg c (show (m:Int)≠0 by omega);have h2:=Int.emod_lt_of_pos c (show (0:Int)<(m:Int) by omega);exact⟨(c % (m:Int)).toNat,by omega,by omega⟩
end Lw
namespace MM
open PySem L2 L3
def fls:List Nat->Nat
 | []=>0
 | [_]=>0
 | x::y::r=>(if y<x then 1 else 0)+fls (y::r)
end MM
namespace Lw
open PySem L2 L3 M01 MM
def sh (n:Nat) (Q:List (Nat×Nat)):List (Nat×Nat):=Q.map fun p=>(n+p.1,n+p.2)
end Lw
namespace Lw
open PySem L2 L3 M01
def J_ (ns:List Int) (k:Nat):∃ c,qk ns (k:Int)=some c:=by
 unfold qk;simp only[MM.bs];by_cases h:0<ns.length
 ·have e:decide ((0:Int)<(ns.length:Int))=true:=Xy (by omega);have h2:k % ns.length<ns.length:=Nat.mod_lt _ h;have e2:(k:Int) % (ns.length:Int)=((k % ns.length:Nat):Int):=by simp
  rw[e,MM.modP (by omega),e2];simp only[MM.ct,MM.bs,MM.at_get h2];exact⟨_,rfl⟩
 ·have e:decide ((0:Int)<(ns.length:Int))=false:=Xk (by omega);rw[e];exact⟨_,rfl⟩
def joS (b t:Nat):U6 (b:Int) (t:Int)=some (b.testBit t):=by
 unfold U6;rw[MM.shr];simp only[MM.bs];congr 1;have e1:Builtin.bitAnd ((b / 2 ^ t:Nat):Int) 1=(((b / 2 ^ t) &&& 1:Nat):Int):=MB.and_nat _ 1;rw[e1,Nat.and_one_is_mod,XJ,Xu,Nat.testBit_eq_decide_div_mod_eq,Xu];omega
def zc {b:Nat} (h:b<2 ^ n) (hn:n<=100):kL (b:Int)=some (zn (ths n b)):=by
 unfold kL;have h1:=MB.bits_le h;rw[MM.rng (by omega)];simp only[MM.bs];rw[MM.compR (fun t=>b.testBit t) (fun t=>((t:Nat):Int)) (by omega) (fun k hk=>joS b k) (fun k hk _=>rfl),MB.things_eq h];rfl
def jny:List (Int×Int):=(List.range 9).flatMap fun k=>(List.range (9 / (k+1))).map fun j=>(((k+1:Nat):Int),((j+1:Nat):Int))
def jhk (c:Int):∃ p,p∈jny/\GJ c=some p:=by
 unfold GJ;obtain⟨k,hk,ek⟩:=jlR c (m:=9) (by decide);have ek:c % 9=(k:Int):=ek;rw[ek];simp only[MM.bs];have e9:(9:Int) / (1+(k:Int))=((9 / (k+1):Nat):Int):=by
  rw[show (1+(k:Int))=((k+1:Nat):Int) by omega];exact(Int.natCast_ediv 9 (k+1)).symm
 have hb:(1000:Int)<2 ^ 250:=by decide
 have hpos:0<9 / (k+1):=Nat.div_pos (by omega) (by omega);obtain⟨j,hj,ej⟩:=jlR (c / 9) hpos;rw[MM.divP (by omega) (by omega),MM.bs,e9,MM.modP (by omega),ej];simp only[MM.bs];refine⟨(((k+1:Nat):Int),((j+1:Nat):Int)),List.mem_flatMap.mpr ⟨k,List.mem_range.mpr hk,List.mem_map.mpr ⟨j,List.mem_range.mpr hj,rfl⟩⟩,?_⟩;rw[show ((k+1:Nat):Int)=1+(k:Int) by omega,show ((j+1:Nat):Int)=1+(j:Int) by omega]
end Lw
namespace Lw
open PySem L2 L3
def jm8:List Str:=["show","counts","where","round","mean","sizes","falls"]
def Uz {s s':MSpot}{l:List MSpot} (h1:decide (row=("undo":Str))=false) (h2:Y4 row jm8=false) (h:kg s row=some s') (hl:l.length<16777216):jH (s,l) row=some (s'.answer,(s',l++[s])):=by
 unfold jH;have h2:Y4 row ["show","counts","where","round","mean","sizes","falls"]=false:=h2;have e:jaz l s=some (l++[s]):=by unfold jaz; rw[if_pos hl]
 rw[h1,MM.cf,h2,MM.cf];dsimp only;rw[h,MM.bs,e,MM.bs,MM.bs,MM.bs]
def ji3 {s:MSpot}{l:List MSpot}:jmR (l++[s])=some (s,l):=by
 unfold jmR;simp
def jbl {s s':MSpot}{l:List MSpot}:jH (s',l++[s]) "undo"=some (("ready":Str),(s,l)):=by
 unfold jH;rw[show decide (("undo":Str)=("undo":Str))=true from Xy rfl,MM.ct,MM.bs];unfold yY;dsimp only;rw[show decide (((l++[s]).length:Int)=0)=false from Xk (by simp; omega),MM.cf,ji3,MM.bs,MM.bs]
def itM (g:β->Option β):Nat->β->Option β
 | 0,b=>some b
 | n+1,b=>(g b).bind (itM g n)
def jhl {g:β->Option β}:∀ (l:List α) (b:β),L3.forM l b (fun z _=>g z)=itM g l.length b
 | [],b=>rfl
 | x::l,b=>by
  show (g b).bind (fun b'=>L3.forM l b' (fun z _=>g z))=(g b).bind (itM g l.length);congr 1
  funext b'
  exact jhl l b'
def UA (row:Str) (z:(MSpot×List MSpot)×Str):Option ((MSpot×List MSpot)×Str):=(jH z.1 row).bind fun y=>some (y.2,y.1)
def jd_ {D:MSpot×List MSpot} (hn:n<=1000):qG D row (n:Int)=(itM (UA row) n (D,"")).bind fun z=>some (z.2,z.1):=by
 unfold qG;rw[MM.bs,MM.rng (by omega),MM.bs];have e:(fun (z2:(MSpot×List MSpot)×Str) (_:Int)=>(((some (row)).bind fun a=>(some ()).bind fun b=>some (a,b)).bind fun z=>jH z2.1 z.1).bind fun z=>Zm z (fun found desk=>some (desk,found)))=fun z2 _=>UA row z2:=by
  funext z2 k
  rw[MM.bs,MM.bs,MM.bs];rfl
 rw[e,jhl];rw[Xj,List.length_range];cases itM (UA row) n (D,"") with
 | none=>rfl
 | some z=>rw[MM.bs,MM.bs,MM.bs]
def stN (f:MSpot->Option MSpot):Nat->MSpot->Option (List MSpot×MSpot)
 | 0,s=>some ([],s)
 | n+1,s=>(f s).bind fun s'=>(stN f n s').bind fun z=>some (s::z.1,z.2)
def jm9 {f:MSpot->Option MSpot} (h1:decide (row=("undo":Str))=false) (h2:Y4 row jm8=false) (hf:∀ s,kg s row=f s):∀ (n:Nat) (s:MSpot) (l:List MSpot) (a:Str) (z:List MSpot×MSpot),stN f (n+1) s=some z->l.length+n<16777216->itM (UA row) (n+1) ((s,l),a)=some ((z.2,l++z.1),z.2.answer)
 | 0,s,l,a,z,h,hl=>by
  obtain⟨s',e,h⟩:=bind_some h;cases h;show (UA row ((s,l),a)).bind _=_;unfold UA;rw[Uz h1 h2 ((hf s).trans e) (by omega),MM.bs,MM.bs];rfl
 | n+1,s,l,a,z,h,hl=>by
  obtain⟨s',e,h⟩:=bind_some h;obtain⟨y,ey,h⟩:=bind_some h;cases h;show (UA row ((s,l),a)).bind _=_;unfold UA;rw[Uz h1 h2 ((hf s).trans e) (by omega),MM.bs,MM.bs];have:=jm9 h1 h2 hf n s' (l++[s]) s'.answer y ey (by rw[XE,List.length_singleton]; omega);rw[List.append_assoc] at this;exact this
def jea {f:MSpot->Option MSpot} (h1:decide (row=("undo":Str))=false) (h2:Y4 row jm8=false) (hf:∀ s,kg s row=f s) {s:MSpot}{l:List MSpot}{z:List MSpot×MSpot} (h:stN f (n+1) s=some z) (hl:l.length<1000) (hn:n<1000):qG (s,l) row ((n+1:Nat):Int)=some (z.2.answer,(z.2,l++z.1)):=by
 rw[jd_ (by omega),jm9 h1 h2 hf n s l "" z h (by omega),MM.bs]
def Wr {s0 s1 s2:MSpot}{l:List MSpot}:qG (s2,l++[s0,s1]) "undo" 2=some (("ready":Str),(s0,l)):=by
 rw[show (2:Int)=((2:Nat):Int) from rfl,jd_ (by omega)];show ((UA "undo" ((s2,l++[s0,s1]),"")).bind fun b=>(UA "undo" b).bind some).bind _=_;have e1:UA "undo" ((s2,l++[s0,s1]),"")=some ((s1,l++[s0]),("ready":Str)):=by
  unfold UA;dsimp only;rw[show l++[s0,s1]=(l++[s0])++[s1] by simp,jbl,MM.bs]
 have e2:UA "undo" ((s1,l++[s0]),("ready":Str))=some ((s0,l),("ready":Str)):=by
  unfold UA;dsimp only;rw[jbl,MM.bs]
 rw[e1,MM.bs,e2,MM.bs,MM.bs]
def jhm (s:MSpot):kg s "great"=yx s:=by kernel_rfl
def UB (s:MSpot):kg s "slide"=yy s:=by kernel_rfl
def jcK (s:MSpot):kg s "unslide"=xz s:=by kernel_rfl
def Ws (s:MSpot):kg s "above"=yA s:=by kernel_rfl
def jhn (s:MSpot):kg s "below"=yC s:=by kernel_rfl
def lnS (O:MOrder) (b:Int) (m:Option (List Int)):Option MSpot:=m.bind fun r=>(qA r).bind fun a=>some ⟨O,b,r,a⟩
def zJ (s:MSpot) (r:List Int):qZ s r=(qA r).bind fun a=>some ⟨s.order,s.bits,r,a⟩:=by
 unfold qZ;rw[MM.bs,MM.bs,MM.bs];congr 1
 funext a
 unfold qX;rw[MM.bs,MM.bs,MM.bs,MM.bs]
def Jm (s:MSpot):yy s=lnS s.order s.bits (kY ⟨s.order⟩ s.line):=by
 unfold yy lnS;rw[show qO s.order=some ⟨s.order⟩ by unfold qO; rw[MM.bs],MM.bs,MM.bs,MM.bs];congr 1
 funext r
 exact zJ s r
def Zz (s:MSpot):xz s=lnS s.order s.bits (qv ⟨s.order⟩ s.line):=by
 unfold xz lnS;rw[show qO s.order=some ⟨s.order⟩ by unfold qO; rw[MM.bs],MM.bs,MM.bs,MM.bs];congr 1
 funext r
 exact zJ s r
def jcL (s:MSpot):yA s=lnS s.order s.bits (ky ⟨s.order⟩ s.line):=by
 unfold yA lnS;rw[show yz s.order=some ⟨s.order⟩ by unfold yz; rw[MM.bs],MM.bs,MM.bs,MM.bs];congr 1
 funext r
 exact zJ s r
def jcM (s:MSpot):yC s=lnS s.order s.bits (qw ⟨s.order⟩ s.line):=by
 unfold yC lnS;rw[show yB s.order=some ⟨s.order⟩ by unfold yB; rw[MM.bs],MM.bs,MM.bs,MM.bs];congr 1
 funext r
 exact zJ s r
def dnT (b:Int):Option Str:=bif (decide (b=0)) then some (("-":Str)) else (kL b).bind fun t1=>J8 t1
def Qa (s:MSpot) (b:Int):qY s b=(dnT b).bind fun a=>some ⟨s.order,b,s.line,a⟩:=by
 unfold qY dnT;rw[MM.bs,MM.bs,MM.bs];congr 1
 funext a
 unfold qX;rw[MM.bs,MM.bs,MM.bs,MM.bs]
def jcN (s:MSpot):yx s=(qa ⟨s.order⟩ s.bits).bind fun b=>(dnT b).bind fun a=>some ⟨s.order,b,s.line,a⟩:=by
 unfold yx;rw[show xv s.order=some ⟨s.order⟩ by unfold xv; rw[MM.bs],MM.bs,MM.bs,MM.bs];congr 1
 funext b
 exact Qa s b
def lnN (g:List Int->Option (List Int)):Nat->List Int×Str->Option (List Int×Str)
 | 0,z=>some z
 | n+1,z=>(g z.1).bind fun r=>(qA r).bind fun a=>lnN g n (r,a)
def dnN (g:Int->Option Int):Nat->Int×Str->Option (Int×Str)
 | 0,z=>some z
 | n+1,z=>(g z.1).bind fun b=>(dnT b).bind fun a=>dnN g n (b,a)
def jm_ {b:Int}{f:MSpot->Option MSpot}{g:List Int->Option (List Int)} (hf:∀ r a,f ⟨O,b,r,a⟩=lnS O b (g r)):∀ (n:Nat) (y z:List Int×Str),lnN g n y=some z->∃ l,l.length=n/\stN f n ⟨O,b,y.1,y.2⟩=some (l,⟨O,b,z.1,z.2⟩)
 | 0,y,z,h=>by
  cases h;exact⟨[],rfl,rfl⟩
 | n+1,y,z,h=>by
  obtain⟨r,er,h⟩:=bind_some h;obtain⟨a,ea,h⟩:=bind_some h;obtain⟨l,hl,e⟩:=jm_ hf n (r,a) z h;refine⟨⟨O,b,y.1,y.2⟩::l,by rw[XX,hl],?_⟩;show (f ⟨O,b,y.1,y.2⟩).bind _=_;rw[hf];unfold lnS;rw[er,MM.bs,ea,MM.bs,MM.bs,e,MM.bs]
def jna {f:MSpot->Option MSpot}{g:Int->Option Int} (hf:∀ b a,f ⟨O,b,ln,a⟩=(g b).bind fun b=>(dnT b).bind fun a=>some ⟨O,b,ln,a⟩):∀ (n:Nat) (y z:Int×Str),dnN g n y=some z->∃ l,l.length=n/\stN f n ⟨O,y.1,ln,y.2⟩=some (l,⟨O,z.1,ln,z.2⟩)
 | 0,y,z,h=>by
  cases h;exact⟨[],rfl,rfl⟩
 | n+1,y,z,h=>by
  obtain⟨r,er,h⟩:=bind_some h;obtain⟨a,ea,h⟩:=bind_some h;obtain⟨l,hl,e⟩:=jna hf n (r,a) z h;refine⟨⟨O,y.1,ln,y.2⟩::l,by rw[XX,hl],?_⟩;show (f ⟨O,y.1,ln,y.2⟩).bind _=_;rw[hf,er,MM.bs,ea,MM.bs,MM.bs,e,MM.bs]
def UC {b:Int}{f:MSpot->Option MSpot}{g:List Int->Option (List Int)} (h1:decide (row=("undo":Str))=false) (h2:Y4 row jm8=false) (hr:∀ s,kg s row=f s) (hf:∀ r a,f ⟨O,b,r,a⟩=lnS O b (g r)) {y z:List Int×Str}{l:List MSpot} (h:lnN g (n+1) y=some z) (hl:l.length<1000) (hn:n<1000) :
  ∃ l',l'.length=n+1/\qG (⟨O,b,y.1,y.2⟩,l) row ((n+1:Nat):Int)=some (z.2,(⟨O,b,z.1,z.2⟩,l++l')):=by
 obtain⟨l',e1,e2⟩:=jm_ hf (n+1) y z h;exact⟨l',e1,jea h1 h2 hr e2 hl hn⟩
def ji4 {y z:Int×Str}{l:List MSpot} (h:dnN (qa ⟨O⟩) (n+1) y=some z) (hl:l.length<1000) (hn:n<1000) :
  ∃ l',l'.length=n+1/\qG (⟨O,y.1,ln,y.2⟩,l) "great" ((n+1:Nat):Int)=some (z.2,(⟨O,z.1,ln,z.2⟩,l++l')):=by
 obtain⟨l',e1,e2⟩:=jna (f:=yx) (ln:=ln) (fun b a=>jcN ⟨O,b,ln,a⟩) (n+1) y z h;exact⟨l',e1,jea (by decide) (by decide) jhm e2 hl hn⟩
def ZA {b:Int}{f:MSpot->Option MSpot}{g:List Int->Option (List Int)} (h1:decide (row=("undo":Str))=false) (h2:Y4 row jm8=false) (hr:∀ s,kg s row=f s) (hf:∀ r a,f ⟨O,b,r,a⟩=lnS O b (g r)) {y z:List Int×Str}{l:List MSpot} (h:lnN g 1 y=some z) (hl:l.length<1000) :
  jH (⟨O,b,y.1,y.2⟩,l) row=some (z.2,(⟨O,b,z.1,z.2⟩,l++[⟨O,b,y.1,y.2⟩])):=by
 obtain⟨r,er,h⟩:=bind_some h;obtain⟨a,ea,h⟩:=bind_some h;cases h;refine Uz (s:=⟨O,b,y.1,y.2⟩) (s':=⟨O,b,r,a⟩) h1 h2 ((hr _).trans ?_) (Nat.lt_trans hl (by decide));rw[hf];unfold lnS;rw[er,MM.bs,ea,MM.bs]
def jho {b:Int}{y y1 y2 y3 y4:List Int×Str}{l:List MSpot} (ha:lnN (ky ⟨O⟩) 2 y=some y) (hb:lnN (qw ⟨O⟩) 2 y=some y) (h1:lnN (kY ⟨O⟩) 1 y=some y1) (h2:lnN (ky ⟨O⟩) 1 y1=some y2) (h3:lnN (ky ⟨O⟩) 1 y=some y3) (h4:lnN (qv ⟨O⟩) 1 y3=some y4) (he:y2.2=y4.2) (hl:l.length<900) :
  ∃ l',l'.length=4/\Jl (⟨O,b,y.1,y.2⟩,l) y.2=some (true,(⟨O,b,y.1,y.2⟩,l++l')):=by
 have fa:∀ r a,yA ⟨O,b,r,a⟩=lnS O b (ky ⟨O⟩ r):=fun r a=>jcL ⟨O,b,r,a⟩;have fb:∀ r a,yC ⟨O,b,r,a⟩=lnS O b (qw ⟨O⟩ r):=fun r a=>jcM ⟨O,b,r,a⟩;have fs:∀ r a,yy ⟨O,b,r,a⟩=lnS O b (kY ⟨O⟩ r):=fun r a=>Jm ⟨O,b,r,a⟩;have fu:∀ r a,xz ⟨O,b,r,a⟩=lnS O b (qv ⟨O⟩ r):=fun r a=>Zz ⟨O,b,r,a⟩;obtain⟨la,ea1,ea2⟩:=UC (by decide) (by decide) Ws fa (n:=1) ha (l:=l) (by omega) (by omega);obtain⟨lb,eb1,eb2⟩:=UC (by decide) (by decide) jhn fb (n:=1) hb (l:=l++la) (by rw[XE]; omega) (by omega);have hL:(l++la++lb).length<990:=by rw[XE,XE]; omega
 have s1:=ZA (by decide) (by decide) UB fs h1 (l:=l++la++lb) (by omega);have s2:=ZA (by decide) (by decide) Ws fa h2 (l:=l++la++lb++[⟨O,b,y.1,y.2⟩]) (by rw[XE,List.length_singleton]; omega);have s3:=ZA (by decide) (by decide) Ws fa h3 (l:=l++la++lb) (by omega);have s4:=ZA (by decide) (by decide) jcK fu h4 (l:=l++la++lb++[⟨O,b,y.1,y.2⟩]) (by rw[XE,List.length_singleton]; omega);have u1:=Wr (s0:=⟨O,b,y.1,y.2⟩) (s1:=⟨O,b,y1.1,y1.2⟩) (s2:=⟨O,b,y2.1,y2.2⟩) (l:=l++la++lb);have u2:=Wr (s0:=⟨O,b,y.1,y.2⟩) (s1:=⟨O,b,y3.1,y3.2⟩) (s2:=⟨O,b,y4.1,y4.2⟩) (l:=l++la++lb);have ap:∀ (p q:MSpot),l++la++lb++[p]++[q]=l++la++lb++[p,q]:=fun p q=>by simp
 have n0:jaA y.2 y.2=false:=by unfold jaA; simp
 have ea2:qG (⟨O,b,y.1,y.2⟩,l) "above" 2=some (y.2,(⟨O,b,y.1,y.2⟩,l++la)):=ea2;have eb2:qG (⟨O,b,y.1,y.2⟩,l++la) "below" 2=some (y.2,(⟨O,b,y.1,y.2⟩,l++la++lb)):=eb2;refine⟨la++lb,by rw[XE]; omega,?_⟩;unfold Jl;simp only[MM.bs];rw[ea2];simp only[MM.bs,jcF,n0,orK,MM.cf];rw[eb2];simp only[MM.bs,n0,ifK,MM.cf];rw[s1];simp only[MM.bs,Zm];rw[s2];simp only[MM.bs,ap];rw[u1];simp only[MM.bs];rw[s3];simp only[MM.bs];rw[s4];simp only[MM.bs,ap];rw[u2];simp only[MM.bs];rw[he,List.append_assoc];simp
def jn1 (row:Str):Option (Str×List Int):=
 bif (U3 row "order ") then none else
 (Gw row).bind fun words=>(pAt words 0).bind fun name=>
 (k7 (cut words (some 1) none) (fun word=>xU word) (fun word=>J2 word)).bind fun numbers=>
 bif (!decide ((numbers.length:Int)=((words.length:Int)-1))) then none else some (name,numbers)
def jhp (spot:MSpot) (name:Str) (numbers:List Int):Option MSpot:=
 bif ((Y4 name ["great","ungreat","slide","unslide","above","below"])&&(decide ((numbers.length:Int)=0))) then
 (lk1 zW name spot)
 else
 bif ((Y4 name ["stairs","down","toggle","line","swap"])&&(decide ((numbers.length:Int)=1))) then
 (((pAt numbers 0)).bind fun t3=>lk2 zw name spot t3)
 else
 bif ((decide (name=("field":Str)))&&(decide ((numbers.length:Int)=2))) then
 (((((pAt numbers 0)).bind fun t4=>((pAt numbers 1)).bind fun t5=>(Gk t4 t5))).bind fun t6=>(qu t6))
 else
 none
def jhq (s:MSpot) (row:Str):kg s row=(jn1 row).bind fun z=>jhp s z.1 z.2:=by
 unfold kg jn1;cases U3 row "order " with
 | true=>rfl
 | false=>
  rw[MM.cf,MM.cf];cases Gw row with
  | none=>rfl
  | some words=>
   rw[MM.bs,MM.bs];cases pAt words 0 with
   | none=>rfl
   | some name=>
    rw[MM.bs,MM.bs];cases k7 (cut words (some 1) none) (fun word=>xU word) (fun word=>J2 word) with
    | none=>rfl
    | some numbers=>
     rw[MM.bs,MM.bs];cases !decide ((numbers.length:Int)=((words.length:Int)-1)) with
     | true=>rfl
     | false=>
      rw[MM.cf,MM.cf,MM.bs];rfl
def jeZ (s:MSpot) (a b:Int):jhp s "field" [a,b]=(Gk a b).bind qu:=by kernel_rfl
def jhr (s:MSpot) (a:Int):jhp s "down" [a]=zH s a:=by kernel_rfl
def jbm (s:MSpot) (a:Int):jhp s "line" [a]=zI s a:=by kernel_rfl
def jcO (s:MSpot) (a:Int):jhp s "stairs" [a]=yn s a:=by kernel_rfl
def jnb (x:Str) (n:Int):Option Str:=(JL n).bind fun t=>xr x t
def jow (a b:Int):Option Str:=((((JL a).bind fun t6=>xr ("field ":Str) t6).bind fun t7=>xr t7 (" ":Str))).bind fun t9=>(JL b).bind fun t10=>xr t9 t10
def je0 (r:Option Str) (z:Str×List Int):Bool:=decide (((r.bind fun r=>some (decide (r=("undo":Str))||Y4 r ["show","counts","where","round","mean","sizes","falls"]))=some false))&&decide ((r.bind jn1)=some z)
def ji5:∀ k∈List.range 64,je0 (jnb ("down ":Str) ((k:Nat):Int)) ("down",[((k:Nat):Int)])=true:=by decide +kernel
def jeb:∀ k∈List.range 64,je0 (jnb ("line ":Str) ((k:Nat):Int)) ("line",[((k:Nat):Int)])=true:=by decide +kernel
def je1:∀ k∈List.range 4,je0 (jnb ("stairs ":Str) ((k:Nat):Int)) ("stairs",[((k:Nat):Int)])=true:=by decide +kernel
end Lw
namespace Lw
open PySem L2 L3 M01
def T94:List ((Int×Int)×MOrder×List Int×List (Int×Int)):=[((1,1),⟨1,[0],[]⟩,[0,1],[(1,1),(0,1)]),
 ((1,2),⟨2,[0,1],[(0,1)]⟩,[0,1,3],[(3,1),(1,1),(0,1)]),
 ((1,3),⟨3,[0,1,3],[(0,1),(1,2)]⟩,[0,1,3,7],[(7,1),(3,1),(1,1),(0,1)]),
 ((1,4),⟨4,[0,1,3,7],[(0,1),(1,2),(2,3)]⟩,[0,1,3,7,15],[(15,1),(7,1),(3,1),(1,1),(0,1)]),
 ((1,5),⟨5,[0,1,3,7,15],[(0,1),(1,2),(2,3),(3,4)]⟩,[0,1,3,7,15,31],[(31,1),(15,1),(7,1),(3,1),(1,1),(0,1)]),
 ((1,6),⟨6,[0,1,3,7,15,31],[(0,1),(1,2),(2,3),(3,4),(4,5)]⟩,[0,1,3,7,15,31,63],[(63,1),(31,1),(15,1),(7,1),(3,1),(1,1),(0,1)]),
 ((1,7),⟨7,[0,1,3,7,15,31,63],[(0,1),(1,2),(2,3),(3,4),(4,5),(5,6)]⟩,[0,1,3,7,15,31,63,127],[(127,1),(63,1),(31,1),(15,1),(7,1),(3,1),(1,1),(0,1)]),
 ((1,8),⟨8,[0,1,3,7,15,31,63,127],[(0,1),(1,2),(2,3),(3,4),(4,5),(5,6),(6,7)]⟩,[0,1,3,7,15,31,63,127,255],[(255,1),(127,1),(63,1),(31,1),(15,1),(7,1),(3,1),(1,1),(0,1)]),
 ((1,9),⟨9,[0,1,3,7,15,31,63,127,255],[(0,1),(1,2),(2,3),(3,4),(4,5),(5,6),(6,7),(7,8)]⟩,[0,1,3,7,15,31,63,127,255,511],[(511,1),(255,1),(127,1),(63,1),(31,1),(15,1),(7,1),(3,1),(1,1),(0,1)]),
 ((2,1),⟨2,[0,1],[(0,1)]⟩,[0,1,3],[(3,1),(1,1),(0,1)]),
 ((2,2),⟨4,[0,1,1,7],[(0,1),(0,2),(1,3),(2,3)]⟩,[0,1,3,5,7,15],[(15,1),(7,1),(5,1),(3,1),(1,2),(0,2)]),
 ((2,3),⟨6,[0,1,3,1,11,31],[(0,1),(0,3),(1,2),(1,4),(2,5),(3,4),(4,5)]⟩,[0,1,3,7,9,11,15,27,31,63],[(63,1),(31,1),(27,1),(15,1),(11,2),(9,2),(7,1),(3,3),(1,5),(0,5)]),
 ((2,4),⟨8,[0,1,3,7,1,19,55,127],[(0,1),(0,4),(1,2),(1,5),(2,3),(2,6),(3,7),(4,5),(5,6),(6,7)]⟩,[0,1,3,7,15,17,19,23,31,51,55,63,119,127,255],[(255,1),(127,1),(119,1),(63,1),(55,2),(51,2),(31,1),(23,3),(19,5),(17,5),(15,1),(7,4),(3,9),(1,14),(0,14)]),
 ((3,1),⟨3,[0,1,3],[(0,1),(1,2)]⟩,[0,1,3,7],[(7,1),(3,1),(1,1),(0,1)]),
 ((3,2),⟨6,[0,1,1,7,5,31],[(0,1),(0,2),(1,3),(2,3),(2,4),(3,5),(4,5)]⟩,[0,1,3,5,7,15,21,23,31,63],[(63,1),(31,1),(23,1),(21,1),(15,1),(7,2),(5,3),(3,2),(1,5),(0,5)]),
 ((3,3),⟨9,[0,1,3,1,11,31,9,91,255],[(0,1),(0,3),(1,2),(1,4),(2,5),(3,4),(3,6),(4,5),(4,7),(5,8),(6,7),(7,8)]⟩,[0,1,3,7,9,11,15,27,31,63,73,75,79,91,95,127,219,223,255,511],[(511,1),(255,1),(223,1),(219,1),(127,1),(95,2),(91,3),(79,2),(75,5),(73,5),(63,1),(31,3),(27,6),(15,5),(11,16),(9,21),(7,5),(3,21),(1,42),(0,42)]),
 ((4,1),⟨4,[0,1,3,7],[(0,1),(1,2),(2,3)]⟩,[0,1,3,7,15],[(15,1),(7,1),(3,1),(1,1),(0,1)]),
 ((4,2),⟨8,[0,1,1,7,5,31,21,127],[(0,1),(0,2),(1,3),(2,3),(2,4),(3,5),(4,5),(4,6),(5,7),(6,7)]⟩,[0,1,3,5,7,15,21,23,31,63,85,87,95,127,255],[(255,1),(127,1),(95,1),(87,1),(85,1),(63,1),(31,2),(23,3),(21,4),(15,2),(7,5),(5,9),(3,5),(1,14),(0,14)]),
 ((5,1),⟨5,[0,1,3,7,15],[(0,1),(1,2),(2,3),(3,4)]⟩,[0,1,3,7,15,31],[(31,1),(15,1),(7,1),(3,1),(1,1),(0,1)]),
 ((6,1),⟨6,[0,1,3,7,15,31],[(0,1),(1,2),(2,3),(3,4),(4,5)]⟩,[0,1,3,7,15,31,63],[(63,1),(31,1),(15,1),(7,1),(3,1),(1,1),(0,1)]),
 ((7,1),⟨7,[0,1,3,7,15,31,63],[(0,1),(1,2),(2,3),(3,4),(4,5),(5,6)]⟩,[0,1,3,7,15,31,63,127],[(127,1),(63,1),(31,1),(15,1),(7,1),(3,1),(1,1),(0,1)]),
 ((8,1),⟨8,[0,1,3,7,15,31,63,127],[(0,1),(1,2),(2,3),(3,4),(4,5),(5,6),(6,7)]⟩,[0,1,3,7,15,31,63,127,255],[(255,1),(127,1),(63,1),(31,1),(15,1),(7,1),(3,1),(1,1),(0,1)]),
 ((9,1),⟨9,[0,1,3,7,15,31,63,127,255],[(0,1),(1,2),(2,3),(3,4),(4,5),(5,6),(6,7),(7,8)]⟩,[0,1,3,7,15,31,63,127,255,511],[(511,1),(255,1),(127,1),(63,1),(31,1),(15,1),(7,1),(3,1),(1,1),(0,1)])]
def jll (order:MOrder) (DS:List Int):Option (List (Int×Int)):=
 (some (([]:(List (Int×Int))))).bind fun ways=>
 ((some (DS.reverse)).bind fun l14=>L3.forM l14 ways (fun ways ahead=>
 ((((kR order ahead)).bind fun l8=>k7 l8 (fun _=>some true) (fun thing=>((some (ahead)).bind fun t6=>((jbR 1 thing)).bind fun t7=>some ((Builtin.bitOr t6 t7)))))).bind fun grown=>
 (((bif (decide (0<(grown.length:Int))) then (((k7 grown (fun _=>some true) (fun bits=>(WV ways bits)))).bind fun t11=>some ((t11.sum))) else some (1))).bind fun t12=>(some (ahead)).bind fun t13=>jkS ways t13 t12).bind fun ways=>
 some ways)).bind fun ways=>
 some ways
def ZB (order:MOrder) (ways:List (Int×Int)) (number:Int):Option (List Int):=
 ((((bif (decide (0<=number)) then ((WV ways 0)).bind fun t1=>some (decide (number<t1)) else some false)).bind fun t2=>some ((!t2)))).bind fun q31=>bif q31 then
 none
 else
 (some (([]:List Int))).bind fun row=>
 (some (0)).bind fun ahead=>
 (some (number)).bind fun left=>
 (pWh (fun z4=>((some ((z4.1.length:Int))).bind fun t5=>((jR order)).bind fun t6=>some ((decide (t5<t6))))) (fun z4=>
 ((kR order z4.2.1)).bind fun choices=>
 (pWh (fun z7=>((some (z7.1)).bind fun t14=>(((some (ways)).bind fun t12=>(((some (z4.2.1)).bind fun t10=>(((some (1)).bind fun t8=>((pAt z7.2 0)).bind fun t9=>(jbR t8 t9))).bind fun t11=>some ((Builtin.bitOr t10 t11)))).bind fun t13=>(WV t12 t13))).bind fun t15=>some ((decide (t15<=t14))))) (fun z7=>
 (((some (z7.1)).bind fun t22=>(((some (ways)).bind fun t20=>(((some (z4.2.1)).bind fun t18=>(((some (1)).bind fun t16=>((pAt z7.2 0)).bind fun t17=>(jbR t16 t17))).bind fun t19=>some ((Builtin.bitOr t18 t19)))).bind fun t21=>(WV t20 t21))).bind fun t23=>some ((t22-t23)))).bind fun left=>
 (some ((cut z7.2 (some 1) none))).bind fun choices=>
 some (left,choices)) (z4.2.2,choices)).bind fun z24=>
 ((((pAt z24.2 0)).bind fun t29=>(jaz z4.1 t29))).bind fun row=>
 (((some (z4.2.1)).bind fun t27=>(((some (1)).bind fun t25=>((pAt z24.2 0)).bind fun t26=>(jbR t25 t26))).bind fun t28=>some ((Builtin.bitOr t27 t28)))).bind fun ahead=>
 some (row,ahead,z24.1)) (row,ahead,left)).bind fun z30=>
 some (z30.1)
def jn2 (x:Option MOrder):Option (Int×List Int×List (Int×Int)):=x.map fun O=>(O.many,O.beneath,O.neighbours)
def jec {x:Option MOrder} (h:jn2 x=some (O.many,O.beneath,O.neighbours)):x=some O:=by
 cases x with
 | none=>cases h
 | some y=>
  obtain⟨y1,y2,y3⟩:=y;obtain⟨o1,o2,o3⟩:=O;have h:some (y1,y2,y3)=some (o1,o2,o3):=h;cases h;rfl
def jlm (h:kW O=some DS):xk O=jll O DS:=by
 unfold xk jll;rw[h];rfl
def jcP {W:List (Int×Int)} (h:xk O=some W) (n:Int):zE O n=ZB O W n:=by
 unfold zE ZB;rw[h,MM.bs]
def jln:∀ p∈jny,∃ r∈T94,r.1=p:=by decide +kernel
def jn3:∀ r∈T94,jn2 (Gk r.1.1 r.1.2)=some (r.2.1.many,r.2.1.beneath,r.2.1.neighbours):=by decide +kernel
def jn4:∀ r∈T94,kW r.2.1=some r.2.2.1:=by decide +kernel
def jn5:∀ r∈T94,jll r.2.1 r.2.2.1=some r.2.2.2:=by decide +kernel
def t94 {p:Int×Int} (hp:p∈jny):∃ O DS W,(p,O,DS,W)∈T94/\Gk p.1 p.2=some O/\kW O=some DS/\xk O=some W:=by
 obtain⟨⟨q,O,DS,W⟩,hr,e⟩:=jln p hp;have e:q=p:=e;subst e;have h2:=jn4 _ hr;exact⟨O,DS,W,hr,jec (jn3 _ hr),h2,(jlm h2).trans (jn5 _ hr)⟩
def ji6 (s:MSpot) (l:List MSpot):jO (s,l) "show"=yw s:=by kernel_rfl
def YD (s:MSpot) (l:List MSpot):jO (s,l) "counts"=kK s:=by kernel_rfl
def jhs (s:MSpot) (l:List MSpot):jO (s,l) "sizes"=xx s:=by kernel_rfl
def jht (s:MSpot) (l:List MSpot):jO (s,l) "falls"=xy s:=by kernel_rfl
def jhu (s:MSpot) (l:List MSpot):jO (s,l) "round"=xw ⟨s.order,s.bits,[],""⟩:=by
 have e:jO (s,l) "round"=xw s:=by kernel_rfl
 rw[e];unfold xw xC;rfl
def ji7 (s:MSpot) (l:List MSpot):jO (s,l) "mean"=xS ⟨s.order,s.bits,[],""⟩:=by
 have e:jO (s,l) "mean"=xS s:=by kernel_rfl
 rw[e];unfold xS xC;rfl
def jbn {x:Option Str}{z:Str×List Int} (h:je0 x z=true):∃ r,x=some r/\∀ {s s':MSpot}{l:List MSpot},jhp s z.1 z.2=some s'->l.length<1000->jH (s,l) r=some (s'.answer,(s',l++[s])):=by
 unfold je0 at h;rw[XB] at h;obtain⟨h1,h2⟩:=h;have h1:=of_decide_eq_true h1;have h2:=of_decide_eq_true h2;obtain⟨r,er,h1⟩:=bind_some h1;rw[er,MM.bs] at h2;have h1:=Option.some.inj h1;rw[Bool.or_eq_false_iff] at h1;refine⟨r,er,fun {s s' l} ha hl=>Uz h1.1 h1.2 ?_ (Nat.lt_trans hl (by decide))⟩;rw[jhq,h2,MM.bs];exact ha
def je2 (h:kW O=some DS) {b0:Int}{a:Str}{d:Nat} (hd:d<DS.length):zH ⟨O,b0,ln,a⟩ (d:Int)=(dnT (DS[d]'hd)).bind fun t=>some ⟨O,DS[d]'hd,ln,t⟩:=by
 unfold zH zG;dsimp only;rw[h,MM.bs,MM.bs,show (!((decide (0<=(d:Int)))&&(decide ((d:Int)<(DS.length:Int)))))=false by simp; omega,MM.cf];have e:pAt DS (d:Int)=some (DS[d]'hd):=MM.at_get hd;rw[e,MM.bs];exact Qa _ _
def YE {W:List (Int×Int)} (h:xk O=some W) {b0:Int}{r:List Int}{a:Str}{n:Int} (hr:ZB O W n=some r):zI ⟨O,b0,ln,a⟩ n=(qA r).bind fun t=>some ⟨O,b0,r,t⟩:=by
 unfold zI;dsimp only;rw[MM.bs,jcP h,hr,MM.bs];exact zJ _ _
end Lw
namespace Lw
open PySem L2 L3
@[irreducible] def VT (many:Int) (pairs:(List (Int×Int))):Option Str:=
 (((((((JL many)).bind fun t1=>(some ([]:List Str)).bind fun t2=>some (t1::t2))).bind fun t14=>((((MM.pSrtP' pairs)).bind fun l13=>k7 l13 (fun _=>some true) (fun z5=>((some (z5.1)).bind fun i7=>(JL i7).bind fun y8=>(xr Str.empty y8).bind fun j6=>(xr j6 ("<":Str)).bind fun j9=>(some (z5.2)).bind fun i11=>(JL i11).bind fun y12=>(xr j9 y12).bind fun j10=>jlO j10)))).bind fun t15=>(Yp t14 t15))).bind fun t16=>(Zi (" ":Str) t16))
def YF:@J6=@VT:=by
 funext _ _
 unfold J6 VT;rw[MM.pSrtP_tw]
@[irreducible] def U8 (order:MOrder) (line:(List Int)):Option Bool:=
 ((((MM.pSrt' line)).bind fun t2=>((((jR order)).bind fun t1=>(jit t1))).bind fun t3=>some ((!jmk t2 t3)))).bind fun q12=>bif q12 then
 some (false)
 else
 (some (0)).bind fun ahead=>
 (jjG line ahead (fun ahead thing=>
 (((((some (ahead)).bind fun t5=>((pAt order.beneath thing)).bind fun t6=>(qW t5 t6))).bind fun t7=>some ((!t7)))).bind fun q10=>bif q10 then
 (some (false)).bind fun y=>some (.rt y)
 else
 (((some (ahead)).bind fun t8=>((jbR 1 thing)).bind fun t9=>some ((Builtin.bitOr t8 t9)))).bind fun ahead=>
 some (.nx ahead))).bind fun x_=>x_.el (fun c_=>some c_) (fun ahead=>
 some (true))
def jbo:@za=@U8:=by
 funext _ _
 unfold za U8;rw[MM.pSrt_tw]
@[irreducible] def x6 (order:MOrder) (line:(List Int)):Option Unit:=
 ((((U8 order line)).bind fun t1=>some ((!t1)))).bind fun q2=>bif q2 then
 none
 else
 some ()
def zd:@ku=@x6:=by
 funext _ _
 unfold ku x6;rw[jbo]
@[irreducible] def x8 (self:MSlide) (one:(List Int)):Option (List Int):=
 ((x6 self.order one)).bind fun _=>
 (J9 self.order one)
def Qb:@kY=@x8:=by
 funext _ _
 unfold kY x8;rw[zd]
@[irreducible] def Jn (self:MSlide) (one:(List Int)):Option (List Int):=
 ((x6 self.order one)).bind fun _=>
 (q8 self.order one)
def Wt:@qv=@Jn:=by
 funext _ _
 unfold qv Jn;rw[zd]
@[irreducible] def ze (self:MAbove) (one:(List Int)):Option (List Int):=
 ((x6 self.order one)).bind fun _=>
 (some (one)).bind fun row=>
 (((jgE (one.length:Int) 1)).bind fun l4=>L3.forM l4 row (fun row end_=>
 ((((J9 self.order (cut row none (some end_)))).bind fun t2=>(some ((cut row (some end_) none))).bind fun t3=>(Yp t2 t3))).bind fun row=>
 some row)).bind fun row=>
 some (row)
def Wu:@ky=@ze:=by
 funext _ _
 unfold ky ze;rw[zd]
@[irreducible] def Jo (self:MBelow) (one:(List Int)):Option (List Int):=
 ((x6 self.order one)).bind fun _=>
 (some (one)).bind fun row=>
 (((Gu 0 ((one.length:Int)-1))).bind fun l4=>L3.forM l4 row (fun row GV=>
 (((some ((cut row none (some GV)))).bind fun t2=>((q8 self.order (cut row (some GV) none))).bind fun t3=>(Yp t2 t3))).bind fun row=>
 some row)).bind fun row=>
 some (row)
def Wv:@qw=@Jo:=by
 funext _ _
 unfold qw Jo;rw[zd]
end Lw
namespace Lw
open PySem L2 L3 M01
def jox (O:MOrder) (a b:Int) (bd:Int):Option Bool:=(dnT bd).bind fun td=>(dnN (qa ⟨O⟩) (a+b).toNat (bd,td)).bind fun z=>(xw ⟨O,bd,[],""⟩).bind fun r=>(J2 r).bind fun ri=>(jb4 (a+b) ri).bind fun m=>(xS ⟨O,bd,[],""⟩).bind fun mm=>
 ((((((W0 a b)).bind fun t49=>(some (2)).bind fun t50=>(zk t49 t50))).bind fun t51=>(some ((" ":Str))).bind fun t52=>(xr t51 t52))).bind fun t55=>((((W0 a b)).bind fun t53=>(some ((a+b))).bind fun t54=>(zk t53 t54))).bind fun t56=>(xr t55 t56).bind fun t58=>
 some (decide (z=(bd,td))&&(decide (m=0)&&decide (mm=t58)))
def jnz (O:MOrder) (ab:Nat) (ln:List Int):Option Bool:=(qA ln).bind fun t=>(lnN (x8 ⟨O⟩) ab (ln,t)).bind fun z1=>(lnN (ze ⟨O⟩) 1 (ln,t)).bind fun y3=>(lnN (ze ⟨O⟩) 1 y3).bind fun z2=>(lnN (Jo ⟨O⟩) 2 (ln,t)).bind fun z3=>(lnN (x8 ⟨O⟩) 1 (ln,t)).bind fun y1=>(lnN (ze ⟨O⟩) 1 y1).bind fun y2=>(lnN (Jn ⟨O⟩) 1 y3).bind fun y4=>
 some (decide (z1=(ln,t))&&(decide (z2=(ln,t))&&(decide (z3=(ln,t))&&decide (y2.2=y4.2))))
def jn6 (n:Int):List Int:=(List.range n.toNat).map fun k:Nat=>((k:Nat):Int)
def jn7:∀ r∈T94,∀ bd∈r.2.2.1,jox r.2.1 r.1.1 r.1.2 bd=some true:=by decide +kernel
def ji8 (k:Int):Bool:=T94.all fun r=>(jn6 ((WV r.2.2.2 0).getD 0)).all fun n=>bif decide (n % 8=k) then decide (((ZB r.2.1 r.2.2.2 n).bind fun ln=>jnz r.2.1 (r.1.1 * r.1.2).toNat ln)=some true) else true
def joT:ji8 0=true:=by decide +kernel
def joU:ji8 1=true:=by decide +kernel
def joV:ji8 2=true:=by decide +kernel
def joW:ji8 3=true:=by decide +kernel
def joX:ji8 4=true:=by decide +kernel
def joY:ji8 5=true:=by decide +kernel
def joZ:ji8 6=true:=by decide +kernel
def jo0:ji8 7=true:=by decide +kernel
def jn8:∀ r∈T94,∀ n∈jn6 ((WV r.2.2.2 0).getD 0),((ZB r.2.1 r.2.2.2 n).bind fun ln=>jnz r.2.1 (r.1.1 * r.1.2).toNat ln)=some true:=by
 intro r hr n hn;have h:∀ k:Int,ji8 k=true->n % 8=k->((ZB r.2.1 r.2.2.2 n).bind fun ln=>jnz r.2.1 (r.1.1 * r.1.2).toNat ln)=some true:=fun k h e=>by
  have q:=List.all_eq_true.mp (List.all_eq_true.mp h r hr) n hn;rw[Xy e,MM.ct] at q;exact of_decide_eq_true q
 have c:n % 8=0 \/ n % 8=1 \/ n % 8=2 \/ n % 8=3 \/ n % 8=4 \/ n % 8=5 \/ n % 8=6 \/ n % 8=7:=by omega
 rcases c with c | c | c | c | c | c | c | c
 ·exact h 0 joT c
 ·exact h 1 joU c
 ·exact h 2 joV c
 ·exact h 3 joW c
 ·exact h 4 joX c
 ·exact h 5 joY c
 ·exact h 6 joZ c
 ·exact h 7 jo0 c
def nms (x:Option Str):Option (List Int):=(x.bind fun t=>Gw t).bind fun l=>k7 l (fun _=>some true) (fun word=>J2 word)
def joy (a b:Int) (O:MOrder) (DS:List Int) (W:List (Int×Int)):Option Bool:=
 ((W0 a b).bind fun t3=>(yX a b).bind fun t4=>VT t3 t4).bind fun sh=>(xR O).bind fun tx=>(ZB O W 0).bind fun _=>
 (nms (kK ⟨O,0,[],""⟩)).bind fun counts=>(nms (xx ⟨O,0,[],""⟩)).bind fun sizes=>(nms (xy ⟨O,0,[],""⟩)).bind fun falls=>(WV W 0).bind fun w0=>(W0 a b).bind fun ab=>
 some (decide (tx=sh)&&(decide (counts=[(DS.length:Int),w0])&&(decide ((sizes.length:Int)=ab+1)&&(decide (sizes.sum=(DS.length:Int))&&(jmk sizes sizes.reverse&&(decide (falls.sum=w0)&&(decide (0<w0)&&decide (0<DS.length))))))))
def jn9:∀ r∈T94,joy r.1.1 r.1.2 r.2.1 r.2.2.1 r.2.2.2=some true:=by decide +kernel
def jnc:(m_Desk_init.map fun D=>D.2.length)=some 0:=by decide +kernel
def zl {x:Option α}{f:α->Option β}{c:α}{r:Option β} (h:x=some c) (k:f c=r):x.bind f=r:=by rw[h,MM.bs]; exact k
def jhv (desk:MSpot×List MSpot) (k_:Int) (cell:Int) (cells pairs:List (Int×Int)):Option (Bool×(MSpot×List MSpot)):=
 ((((((some (("stairs ":Str))).bind fun t20=>((JL k_)).bind fun t21=>(xr t20 t21))).bind fun a=>(some ()).bind fun b=>some (a,b)).bind fun z=>jH desk z.1).bind fun z=>jcF z jaA (fun desk=>(J6 (cells.length:Int) pairs))).bind fun z=>ifK z (fun desk=>
 ((some (false)).bind fun y=>some (y,desk))) (fun desk=>
 (((((some (("line ":Str))).bind fun t29=>(((((some (cell)).bind fun t26=>((((((((jO desk ("counts":Str))).bind fun t22=>(Gw t22))).bind fun t23=>(some (1)).bind fun t24=>(pAt t23 t24))).bind fun t25=>(J2 t25))).bind fun t27=>(jb4 t26 t27))).bind fun t28=>(JL t28))).bind fun t30=>(xr t29 t30))).bind fun a=>(some ()).bind fun b=>some (a,b)).bind fun z=>jH desk z.1).bind fun z=>Zm z (fun line desk=>
 (some (("":Str))).bind fun due=>
 (((QQ line)).bind fun l40=>L3.forM l40 due (fun due sign=>
 (((some (cells)).bind fun t34=>((J2 sign)).bind fun t35=>(pAt t34 t35))).bind fun z36=>
 (((some (due)).bind fun t38=>((((jcv cells (z36.2,z36.1))).bind fun t37=>(JL t37))).bind fun t39=>(xr t38 t39))).bind fun due=>
 some due)).bind fun due=>
 (((((some (("slide":Str))).bind fun a=>((some ((cells.length:Int))).bind fun a=>(some ()).bind fun b=>some (a,b)).bind fun b=>some (a,b)).bind fun z=>qG desk z.1 z.2.1).bind fun z=>jcF z jiU (fun desk=>some (due))).bind fun z=>jnx z (fun desk=>((((some (("slide":Str))).bind fun a=>((some ((cells.length:Int))).bind fun a=>(some ()).bind fun b=>some (a,b)).bind fun b=>some (a,b)).bind fun z=>qG desk z.1 z.2.1).bind fun z=>jcF z jiU (fun desk=>some (line)))))))
def cel (k:Int):List (Int×Int):=if k=1 then [(0,0)] else if k=2 then [(0,0),(0,1),(1,0)] else [(0,0),(0,1),(0,2),(1,0),(1,1),(2,0)]
def jj4 (k:Int):List (Int×Int):=if k=1 then [] else if k=2 then [(0,1),(0,2)] else [(0,1),(1,2),(0,3),(1,4),(3,4),(3,5)]
def jnd:List (Int×MOrder×List (Int×Int)):=[(1,⟨1,[0],[]⟩,[(1,1),(0,1)]),(2,⟨3,[0,1,1],[(0,1),(0,2)]⟩,[(7,1),(5,1),(3,1),(1,2),(0,2)]),(3,⟨6,[0,1,3,1,11,9],[(0,1),(0,3),(1,2),(1,4),(3,4),(3,5)]⟩,[(63,1),(59,1),(47,1),(43,2),(41,2),(31,1),(27,2),(15,2),(11,6),(9,8),(7,2),(3,8),(1,16),(0,16)])]
def ji9 (D:MSpot×List MSpot) (c:Int):qB D 1 c=jhv D 1 c (cel 1) (jj4 1):=by
 unfold qB;exact zl (c:=[]) rfl (zl (c:=cel 1) (by kernel_rfl) (zl (c:=[]) rfl (zl (c:=jj4 1) (by kernel_rfl) rfl)))
def ji_ (D:MSpot×List MSpot) (c:Int):qB D 2 c=jhv D 2 c (cel 2) (jj4 2):=by
 unfold qB;exact zl (c:=[]) rfl (zl (c:=cel 2) (by kernel_rfl) (zl (c:=[]) rfl (zl (c:=jj4 2) (by kernel_rfl) rfl)))
def jja (D:MSpot×List MSpot) (c:Int):qB D 3 c=jhv D 3 c (cel 3) (jj4 3):=by
 unfold qB;exact zl (c:=[]) rfl (zl (c:=cel 3) (by kernel_rfl) (zl (c:=[]) rfl (zl (c:=jj4 3) (by kernel_rfl) rfl)))
def jo1 (cells:List (Int×Int)) (line due:Str):Option Str:=
 (((QQ line)).bind fun l40=>L3.forM l40 due (fun due sign=>
 (((some (cells)).bind fun t34=>((J2 sign)).bind fun t35=>(pAt t34 t35))).bind fun z36=>
 (((some (due)).bind fun t38=>((((jcv cells (z36.2,z36.1))).bind fun t37=>(JL t37))).bind fun t39=>(xr t38 t39))).bind fun due=>
 some due))
def joz (k:Int) (O:MOrder) (W:List (Int×Int)) (m:Int):Option Bool:=(ZB O W m).bind fun ln=>(qA ln).bind fun t=>(jo1 (cel k) t "").bind fun due=>(lnN (x8 ⟨O⟩) (cel k).length (ln,t)).bind fun z=>(lnN (x8 ⟨O⟩) (cel k).length z).bind fun z'=>some (decide (z.2=due)&&decide (z'.2=t))
def hdS (k:Int) (O:MOrder) (W:List (Int×Int)):Option Bool:=(VT ((cel k).length:Int) (jj4 k)).bind fun sh=>(xR O).bind fun tx=>(ZB O W 0).bind fun _=>((((kK ⟨O,0,[],""⟩).bind fun t22=>Gw t22).bind fun t23=>pAt t23 1).bind fun t25=>J2 t25).bind fun w=>(WV W 0).bind fun w0=>some (decide (tx=sh)&&(decide (w=w0)&&(decide (0<w0)&&(decide (w0<=16)&&decide (0<(cel k).length/\(cel k).length<=6)))))
def jn_:∀ r∈jnd,jn2 (Uy r.1)=some (r.2.1.many,r.2.1.beneath,r.2.1.neighbours):=by decide +kernel
def joa:∀ r∈jnd,xk r.2.1=some r.2.2:=by decide +kernel
def job:∀ r∈jnd,hdS r.1 r.2.1 r.2.2=some true:=by decide +kernel
def joc:∀ r∈jnd,∀ m∈jn6 ((WV r.2.2 0).getD 0),joz r.1 r.2.1 r.2.2 m=some true:=by decide +kernel
def jcQ {kn:Nat}{W:List (Int×Int)} (hr:((kn:Int),O,W)∈jnd) (hk:kn<4) {s:MSpot}{l:List MSpot} (hl:l.length<100) (c:Int):∃ D,jhv (s,l) (kn:Int) c (cel (kn:Int)) (jj4 (kn:Int))=some (true,D):=by
 have hO:=jec (jn_ _ hr);have hW:=joa _ hr;have hH:=job _ hr;have hC:=joc _ hr;dsimp only at hO hW hH hC;unfold hdS at hH;rw[<- YF] at hH;obtain⟨sh,esh,hH⟩:=bind_some hH;obtain⟨tx,etx,hH⟩:=bind_some hH;obtain⟨L0,eL0,hH⟩:=bind_some hH;obtain⟨w,ew,hH⟩:=bind_some hH;obtain⟨w0,ew0,hH⟩:=bind_some hH;have hH:=Option.some.inj hH;simp only[XB,Xu] at hH;obtain⟨g1,g2,g3,g4,g5,g6⟩:=hH;subst g1 g2;obtain⟨n,hn,en⟩:=jlR c (m:=w.toNat) (by omega);rw[show ((w.toNat:Nat):Int)=w by omega] at en;have hC:=hC ((n:Nat):Int) (by
  rw[ew0];exact List.mem_map.mpr ⟨n,List.mem_range.mpr hn,rfl⟩)
 unfold joz at hC;rw[<- Qb] at hC;obtain⟨ln,eln,hC⟩:=bind_some hC;obtain⟨t,et,hC⟩:=bind_some hC;obtain⟨due,edue,hC⟩:=bind_some hC;obtain⟨z,ez,hC⟩:=bind_some hC;obtain⟨z',ez',hC⟩:=bind_some hC;have hC:=Option.some.inj hC;simp only[XB,Xu] at hC;obtain⟨rfl,rfl⟩:=hC;obtain⟨r1,er1,t1⟩:=jbn (je1 kn (List.mem_range.mpr hk));obtain⟨r2,er2,t2⟩:=jbn (jeb n (List.mem_range.mpr (by omega)));have a1:jhp s "stairs" [((kn:Nat):Int)]=some ⟨O,0,L0,tx⟩:=by
  rw[jcO];unfold yn;rw[hO,MM.bs];unfold qu;rw[MM.bs,MM.bs,jcP hW,eL0,MM.bs,etx,MM.bs];unfold qX;rw[MM.bs,MM.bs,MM.bs,MM.bs]
 have a2:jhp ⟨O,0,L0,tx⟩ "line" [((n:Nat):Int)]=some ⟨O,0,ln,z'.2⟩:=by
  rw[jbm,YE hW eln,et,MM.bs]
 have t1:=t1 (l:=l) a1 (by omega);have t2:=t2 (l:=l++[s]) a2 (by simp; omega);unfold jnb at er1 er2;obtain⟨q,eq⟩:∃ q:Nat,(cel (kn:Int)).length=q+1:=⟨(cel (kn:Int)).length-1,by omega⟩;rw[eq] at ez ez';obtain⟨l1,q1,o1⟩:=UC (O:=O) (b:=0) (by decide) (by decide) UB (fun r a=>Jm ⟨O,0,r,a⟩) (l:=l++[s]++[⟨O,0,L0,tx⟩]) ez (by simp; omega) (by omega);obtain⟨l2,q2,o2⟩:=UC (O:=O) (b:=0) (by decide) (by decide) UB (fun r a=>Jm ⟨O,0,r,a⟩) (l:=l++[s]++[⟨O,0,L0,tx⟩]++l1) ez' (by simp; omega) (by omega);have n0:jaA tx tx=false:=by unfold jaA; simp
 have m1:jiU z.2 z.2=true:=by unfold jiU; simp
 have m2:jiU z'.2 z'.2=true:=by unfold jiU; simp
 have ec:kK ⟨O,0,L0,tx⟩=kK ⟨O,0,[],""⟩:=by unfold kK; rfl
 unfold jhv;simp only[MM.bs];rw[er1,MM.bs,MM.bs,t1,MM.bs];simp only[jcF];rw[esh,MM.bs,MM.bs];simp only[n0,ifK,MM.cf,YD];rw[ec,ew,MM.bs,MM.modP (by omega),en,MM.bs,er2,MM.bs,MM.bs,t2,MM.bs];simp only[Zm];refine⟨(⟨O,0,z'.1,z'.2⟩,l++[s]++[⟨O,0,L0,tx⟩]++l1++l2),?_⟩;refine zl (c:=z.2) edue ?_;rw[eq,o1,MM.bs,MM.bs];simp only[m1,jnx,MM.bs,MM.ct];rw[o2,MM.bs];simp only[m2]
def jhw {s:MSpot}{l:List MSpot} (hl:l.length<100) (k c:Int):∃ D,qB (s,l) (1+k % 3) c=some (true,D):=by
 obtain⟨j,hj,ej⟩:=jlR k (m:=3) (by decide);have ej:k % 3=(j:Int):=ej;rw[ej]
 match j,hj with
 | 0,_=>obtain⟨D,e⟩:=jcQ (kn:=1) (Xo) (by decide) hl c; exact ⟨D,(ji9 _ c).trans e⟩
 | 1,_=>obtain⟨D,e⟩:=jcQ (kn:=2) (Xn _ Xo) (by decide) hl c; exact ⟨D,(ji_ _ c).trans e⟩
 | 2,_=>obtain⟨D,e⟩:=jcQ (kn:=3) (Xn _ (Xn _ Xo)) (by decide) hl c; exact ⟨D,(jja _ c).trans e⟩
def jod:∀ p∈jny,je0 (jow p.1 p.2) ("field",[p.1,p.2])=true:=by decide +kernel
def jlo:∀ r∈T94,r.2.2.1.length<=60/\(WV r.2.2.2 0).getD 0<=60/\1<=r.1.1/\1<=r.1.2/\(r.1.1+r.1.2<=20/\1<=r.1.1 * r.1.2/\r.1.1 * r.1.2<=9)/\W0 r.1.1 r.1.2=some (r.1.1 * r.1.2):=by decide +kernel
def law_true (ns:List Int) (hl:ns.length<=63):jbj ns=some true:=by
 unfold jbj;obtain⟨c0,e0⟩:=J_ ns 0;obtain⟨c1,e1⟩:=J_ ns 1;obtain⟨c2,e2⟩:=J_ ns 2;obtain⟨c3,e3⟩:=J_ ns 3;obtain⟨c4,e4⟩:=J_ ns 4;have e0:qk ns 0=some c0:=e0;have e1:qk ns 1=some c1:=e1;have e2:qk ns 2=some c2:=e2;have e3:qk ns 3=some c3:=e3;have e4:qk ns 4=some c4:=e4;obtain⟨⟨a,b⟩,hp,ep⟩:=jhk c0;obtain⟨O,DS,W,hT,hO,hD,hW⟩:=t94 hp;have hH:=jn9 _ hT;dsimp only at hH hO;unfold joy at hH;rw[<- YF] at hH;obtain⟨sh,esh,hH⟩:=bind_some hH;obtain⟨tx,etx,hH⟩:=bind_some hH;obtain⟨L0,eL0,hH⟩:=bind_some hH;obtain⟨cnt,ecnt,hH⟩:=bind_some hH;obtain⟨szs,eszs,hH⟩:=bind_some hH;obtain⟨fls,efls,hH⟩:=bind_some hH;obtain⟨w0,ew0,hH⟩:=bind_some hH;obtain⟨ab,eab,hH⟩:=bind_some hH;have hH:=Option.some.inj hH;simp only[XB,Xu] at hH;obtain⟨g1,g2,g3,g4,g5,g6,g7,g8⟩:=hH;obtain⟨s0,eD⟩:∃ s0,m_Desk_init=some (s0,[]):=by
  have h:=jnc;cases q:m_Desk_init with
  | none=>rw[q] at h; cases h
  | some D=>
   rw[q] at h;obtain⟨s,l⟩:=D;have h:some l.length=some 0:=h;have h:=List.length_eq_zero_iff.mp (Option.some.inj h);exact⟨s,by rw[h]⟩
 rw[e0,MM.bs,ep,MM.bs];dsimp only;rw[eD,MM.bs,esh,MM.bs];simp only[e1,e2,e3,e4,eab,MM.bs];obtain⟨r,er,tF⟩:=jbn (jod _ hp);have aF:jhp s0 "field" [a,b]=some ⟨O,0,L0,tx⟩:=by
  rw[jeZ,hO,MM.bs];unfold qu;rw[MM.bs,MM.bs,jcP hW,eL0,MM.bs,etx,MM.bs];unfold qX;rw[MM.bs,MM.bs,MM.bs,MM.bs]
 have tF:=tF (l:=[]) aF (by decide);unfold jow at er;dsimp only at er;rw[er,MM.bs,MM.bs,tF,MM.bs];subst g1;have n0:jaA tx tx=false:=by unfold jaA; simp
 dsimp only[List.nil_append];simp only[jcF,n0,orK,MM.bs,MM.cf,ji6];have es:∀ (bb:Int) (ll:List Int) (aa:Str),yw ⟨O,bb,ll,aa⟩=some tx:=fun _ _ _=>by unfold yw; exact etx
 rw[es];simp only[MM.bs,ifK,show (!decide (tx=tx))=false by simp,MM.cf,YD,jhs,jht];have ec:kK ⟨O,0,L0,tx⟩=kK ⟨O,0,[],""⟩:=by unfold kK; rfl
 have ez:xx ⟨O,0,L0,tx⟩=xx ⟨O,0,[],""⟩:=by unfold xx; rfl
 have ef:xy ⟨O,0,L0,tx⟩=xy ⟨O,0,[],""⟩:=by unfold xy; rfl
 unfold nms at ecnt eszs efls;rw[ec,ecnt,MM.bs,ez,eszs,MM.bs,ef,efls,MM.bs];subst g2;simp only[MM.bs,g3,g4,g5,g6,show pAt [(DS.length:Int),w0] 0=some (DS.length:Int) from MM.at_nat (i:=0) rfl,show pAt [(DS.length:Int),w0] 1=some w0 from MM.at_nat (i:=1) rfl,MM.ct,MM.cf,decide_true,Bool.not_true];have hB:=jlo _ hT;dsimp only at hB;rw[ew0] at hB;simp only[Option.getD_some] at hB;obtain⟨b1,b2,b3,b4,b5,b6⟩:=hB;rw[b6] at eab;have eab:ab=a * b:=(Option.some.inj eab).symm;obtain⟨d,hd,ed⟩:=jlR c1 (m:=DS.length) g8;obtain⟨n,hn,en⟩:=jlR c2 (m:=w0.toNat) (by omega);rw[show ((w0.toNat:Nat):Int)=w0 by omega] at en;rw[MM.modP (by omega),ed,MM.bs,MM.modP (by omega),en,MM.bs];obtain⟨r1,er1,t1⟩:=jbn (ji5 d (List.mem_range.mpr (by omega)));obtain⟨r2,er2,t2⟩:=jbn (jeb n (List.mem_range.mpr (by omega)));have hb:=jn7 _ hT (DS[d]'hd) (List.getElem_mem hd);have hL:=jn8 _ hT ((n:Nat):Int) (by
  dsimp only;rw[ew0];exact List.mem_map.mpr ⟨n,List.mem_range.mpr hn,rfl⟩)
 dsimp only at hb hL;generalize ebd:DS[d]'hd=bd at hb;unfold jox at hb;obtain⟨td,etd,hb⟩:=bind_some hb;obtain⟨zb,ezb,hb⟩:=bind_some hb;obtain⟨rd,erd,hb⟩:=bind_some hb;obtain⟨ri,eri,hb⟩:=bind_some hb;obtain⟨md,emd,hb⟩:=bind_some hb;obtain⟨mm,emm,hb⟩:=bind_some hb;obtain⟨f1,ef1,hb⟩:=bind_some hb;obtain⟨f2,ef2,hb⟩:=bind_some hb;obtain⟨f3,ef3,hb⟩:=bind_some hb;have hb:=Option.some.inj hb;simp only[XB,Xu] at hb;obtain⟨rfl,rfl,rfl⟩:=hb;obtain⟨ln,eln,hL⟩:=bind_some hL;unfold jnz at hL;rw[<- Qb,<- Wu,<- Wv,<- Wt] at hL;obtain⟨tl,etl,hL⟩:=bind_some hL;obtain⟨z1,ez1,hL⟩:=bind_some hL;obtain⟨y3,ey3,hL⟩:=bind_some hL;obtain⟨z2,ez2,hL⟩:=bind_some hL;obtain⟨z3,ez3,hL⟩:=bind_some hL;obtain⟨y1,ey1,hL⟩:=bind_some hL;obtain⟨y2,ey2,hL⟩:=bind_some hL;obtain⟨y4,ey4,hL⟩:=bind_some hL;have hL:=Option.some.inj hL;simp only[XB,Xu] at hL;obtain⟨rfl,rfl,rfl,hy⟩:=hL;have a1:jhp ⟨O,0,L0,tx⟩ "down" [((d:Nat):Int)]=some ⟨O,bd,L0,td⟩:=by
  rw[jhr,je2 hD hd,ebd,etd,MM.bs]
 have a2:jhp ⟨O,bd,L0,td⟩ "line" [((n:Nat):Int)]=some ⟨O,bd,ln,tl⟩:=by
  rw[jbm,YE hW eln,etl,MM.bs]
 have t1:=t1 (l:=[s0]) a1 (show 1<1000 by decide);have t2:=t2 (l:=[s0]++[(⟨O,0,L0,tx⟩:MSpot)]) a2 (by simp);unfold jnb at er1 er2;rw[er1,MM.bs,MM.bs,t1,MM.bs];simp only[Zm];rw[er2,MM.bs,MM.bs,t2,MM.bs];obtain⟨ng,eg⟩:∃ k:Nat,a+b=((k+1:Nat):Int):=⟨(a+b).toNat-1,by omega⟩;obtain⟨nb,eb⟩:∃ k:Nat,ab=((k+1:Nat):Int):=⟨ab.toNat-1,by omega⟩;have zb:dnN (qa ⟨O⟩) (ng+1) (bd,tl)=some (bd,td):=by
  rw[eg,XR] at ezb;exact ezb
 obtain⟨l1,q1,o1⟩:=ji4 (ln:=ln) (l:=[s0]++[(⟨O,0,L0,tx⟩:MSpot)]++[⟨O,bd,L0,td⟩]) zb (by simp) (by omega);have zs:lnN (kY ⟨O⟩) (nb+1) (ln,td)=some (ln,tl):=by
  rw[<- eab,eb,XR] at ez1;exact ez1
 obtain⟨l2,q2,o2⟩:=UC (O:=O) (b:=bd) (by decide) (by decide) UB (fun r a=>Jm ⟨O,bd,r,a⟩) (l:=[s0]++[(⟨O,0,L0,tx⟩:MSpot)]++[⟨O,bd,L0,td⟩]++l1) zs (by simp; omega) (by omega);have n1:jaA td td=false:=by unfold jaA; simp
 have n2:jaA tl tl=false:=by unfold jaA; simp
 have ha2:lnN (ky ⟨O⟩) 2 (ln,tl)=some (ln,tl):=by
  obtain⟨u,eu,ey3⟩:=bind_some ey3;obtain⟨v,ev,ey3⟩:=bind_some ey3;cases ey3;show ((ky ⟨O⟩ ln).bind fun r=>(qA r).bind fun a=>lnN (ky ⟨O⟩) 1 (r,a))=_;rw[eu,MM.bs,ev,MM.bs];exact ez2
 obtain⟨l3,q3,o3⟩:=jho (b:=bd) (l:=[s0]++[(⟨O,0,L0,tx⟩:MSpot)]++[⟨O,bd,L0,td⟩]++l1++l2) ha2 ez3 ey1 ey2 ey3 ey4 hy (by simp; omega);simp only[Zm];rw[eg,o1,MM.bs,MM.bs];dsimp only;rw[n1,MM.cf,eb,o2,MM.bs];dsimp only;rw[n2,MM.bs]
 try dsimp only
 rw[MM.cf,jhu]
 try dsimp only
 rw[eg] at emd;rw[erd,MM.bs,eri,MM.bs,emd,MM.bs,MM.bs]
 try dsimp only
 rw[MM.bs]
 try dsimp only
 rw[show (!decide ((0:Int)=0))=false from rfl,MM.cf,o3,MM.bs,MM.bs]
 try dsimp only
 rw[show (!true)=false from rfl,MM.cf,ji7]
 try dsimp only
 simp only[b6,MM.bs,<- eab,eb,eg] at ef1 ef2;rw[emm,MM.bs,ef1,MM.bs,ef2,MM.bs,ef3,MM.bs,MM.bs];rw[show (!decide (mm=mm))=false by simp,MM.cf];obtain⟨D,eS⟩:=jhw (s:=⟨O,bd,ln,tl⟩) (l:=[s0]++[(⟨O,0,L0,tx⟩:MSpot)]++[⟨O,bd,L0,td⟩]++l1++l2++l3) (by simp; omega) c3 c4;rw[eS,MM.bs]
end Lw
namespace Lw
open PySem L2 L3
def top (i:Nat):Stmt:=PySem.Challenge.pw_toggleclock_k94_whole_desk_on_fields.main.body.getD i (.Pass ⟨0,0,0,0⟩)
section
variable (P:Program) (w:World) (K:PySem.W.Frag) (mg:Str->Option Value) (base:Heap) (cs:Ecs) (jW kC ja kD ji:Addr)
abbrev jhx:=Def P w K mg base "has" 1 ["bits","thing"] (sp2 K (pF cI) (pF cI) (rF cB) U6)
abbrev qm:=Mth P w K mg base ja "size" 1 ["self"] (sp1 K (pF (jl ja)) (rF cI) jR)
abbrev yD:=Def P w K mg base "things_of" 2 ["bits"] (sp1 K (pF cI) (rO cI) kL)
abbrev Qc:=Def P w K mg base "holds_all" 1 ["bits","others"] (sp2 K (pF cI) (pF cI) (rF cB) qW)
abbrev UD:=Def P w K mg base "is_downset" 3 ["order","bits"] (sp2 K (pF (jl ja)) (pF cI) (rF cB) xu)
abbrev YG:=Def P w K mg base "is_door" 2 ["order","bits","thing"] (sp3 K (pF (jl ja)) (pF cI) (pF cI) (rF cB) yW)
abbrev Jp:=Def P w K mg base "downsets" 4 ["order"] (sp1 K (pF (jl ja)) (rO cI) kW)
abbrev GK:=Def P w K mg base "things_next" 3 ["order","ahead"] (sp2 K (pF (jl ja)) (pF cI) (rO cI) kR)
abbrev YH:=Def P w K mg base "ways_on" 5 ["order"] (sp1 K (pF (jl ja)) (rD (κ:=Int) cI) xk)
abbrev YI:=Def P w K mg base "line_at" 6 ["order","number"] (sp2 K (pF (jl ja)) (pF cI) (rF (cT cI)) zE)
abbrev UE:=Def P w K mg base "order_text" 2 ["order"] (sp1 K (pF (jl ja)) (rF cS) xR)
abbrev Qd:=Kls P w K mg base "Spot" ji 1 ["self","order","bits","line","answer"] (jnP K ji (pF (jl ja)) (pF cI) (pF (cT cI)) (pF cS) (jT ja ji) qX)
abbrev UF:=Kls P w K mg base "Order" ja 4 ["self","many","pairs"] (jlL K ja (pF cI) (pB (cP cI cI)) (jl ja) yu)
abbrev Jq:=Def P w K mg base "with_order" 7 ["order"] (sp1 K (pF (jl ja)) (rF (jT ja ji)) qu)
abbrev GL:=Def P w K mg base "with_blanks" 1 ["values"] (sp1 K (pB cI) (rF cS) xZ)
abbrev JH:=Def P w K mg base "check_downset" 4 ["order","bits"] (sp2 K (pF (jl ja)) (pF cI) (rF cU) xl)
abbrev UG:=Mth P w K mg base kC "done" 7 ["self","one"] (sp2 K (pF (QT ja kC)) (pF cI) (rF cI) qa)
abbrev UH:=Kls P w K mg base "Great" kC 1 ["self","order"] (jis K kC (pF (jl ja)) (QT ja kC) xv)
abbrev QU:=Def P w K mg base "great_round" 9 ["spot"] (sp1 K (pF (jT ja ji)) (rO cI) xC)
abbrev Qe:=Def P w K mg base "with_downset" 3 ["spot","bits"] (sp2 K (pF (jT ja ji)) (pF cI) (rF (jT ja ji)) qY)
abbrev zT:=Mth P w K mg base ja "check_thing" 1 ["self","thing"] (sp2 K (pF (jl ja)) (pF cI) (rF cU) kx)
abbrev JI:=Def P w K mg base "places_within" 1 ["row","things"] (sp2 K (pF (cT cI)) (pB cI) (rO cI) kS)
abbrev zY:=Def P w K mg base "check_line" 3 ["order","line"] (sp2 K (pF (jl ja)) (pF (cT cI)) (rF cU) ku)
abbrev jhy:=Def P w K mg base "slid" 3 ["order","row"] (sp2 K (pF (jl ja)) (pF (cT cI)) (rF (cT cI)) J9)
abbrev UI:=Kls P w K mg base "Slide" kD 1 ["self","order"] (jis K kD (pF (jl ja)) (J3 ja kD) qO)
abbrev zK:=Def P w K mg base "with_line" 3 ["spot","line"] (sp2 K (pF (jT ja ji)) (pF (cT cI)) (rF (jT ja ji)) qZ)
abbrev Vu:=Def P w K mg base "slid_back" 3 ["order","row"] (sp2 K (pF (jl ja)) (pF (cT cI)) (rF (cT cI)) q8)
abbrev Ww:=Def P w K mg base "cells_of" 1 ["widths"] (sp1 K (pB cI) (rO (cP cI cI)) G4)
abbrev Wx:=Def P w K mg base "order_of" 6 ["cells"] (sp1 K (pB (cP cI cI)) (rF (jl ja)) G5)
abbrev jed:=TabD P w K mg base "ASKED" 11 (ji1 K (pF (jT ja ji)) (rF cS) jcJ)
abbrev Gy:=Mth P w K mg base jW "told" 12 ["self","row"] (spK K jW (jT ja ji) (csC cS csN) cS (fun D z=>jH D z.1))
abbrev Jr:=Def P w K mg base "_law_often" 13 ["_law_desk","_law_row","_law_many"] (spK K jW (jT ja ji) (csC cS (csC cI csN)) cS (fun D z=>qG D z.1 z.2.1))
abbrev UJ:=Def P w K mg base "_law_shown" 1 ["_law_many","_law_pairs"] (sp2 K (pF cI) (pB (cP cI cI)) (rF cS) J6)
abbrev QV:=Mth P w K mg base jW "told" 12 ["self","row"] (sp2 K (pK (jT ja ji) jW) (pF cS) (rF cS) jO)
end
section
variable {f:Addr} 
def Wy:FnScope ["_law_script","_law_k","_law_cell","_law_low"] ["_law_script","_law_k"] (jh (top 127)):=scK
def Wz (B:BiX P w K mg base) (Fn:Fun K "_law_cell_at" "_law_cell_at" (top 127) f fd):FnOk P w K mg base CX0 1 f fd ["_law_script","_law_k"] (sp2 K (pF cScr) (pF cI) (rF cI) qk):=by
  refine(ok2 Fn Wy fun cdv A outer s H0 Q E_ hr nd hu script k_ VU V_k_ Fe R X jn P_k_ Hm Kk=>?_);refine⟨_,(jd (pS (i:=2) nd jo) (jd (jaV (xB (jP WZ (kB jw B.len_ (pv 0)) jo (jX _)) (jg (pS (i:=2) nd (pX k8 (pv 0) (jK JD (pv 1) (kB jw B.len_ (pv 0)))))) ka)) (jd (pS (i:=3) nd (jK JD (jK GT (jK yK (pv 2) (jK GT jo (jK yK (pv 1) jo))) jo) jo)) (jg (jv (jK yK (jK GT (jK Gs (jK JD (pv 2) (jK jl4 jo jo)) jo) jo) (pv 3))))))),?_⟩
  try dsimp only[jQ]
  unfold qk at Hm;replace jn:cScr.rep K Fe script VU:=jn;obtain rfl:V_k_=.int k_:=P_k_;refine(qt (K:=K) (jp _) X Hm ?_);intro cell F H Hm E X;replace jn:=E.xc jn;refine(jjH (K:=K) (fun cell σ' H'=>∃ F':Hp,σ'=[some VU,some (.int k_),some (.int cell),none]/\(Ext Fe H0 F' H'/\Same F F')) (qc (jf zj (jk xi (jkr (eV (i:=0) jn)) rfl) (jp _) rfl)) X Hm ?_ ?_ ?_)
  ·intro B_ F H Hm E X;replace jn:=E.xc jn;have SJ0:=E.f;refine(Ge (K:=K) (jy zA (jkr (eV (i:=0) jn)) (jf Y2 (eI (i:=1)) (jk xi (jkr (eV (i:=0) jn)) rfl) rfl) rfl) X Hm ?_);intro cell F H Hm E X;replace SJ0:=E.xd SJ0;cases Hm;exact⟨F,rfl,⟨X,SJ0⟩⟩
  ·intro B_ F H Hm E X;have SJ0:=E.f;refine Jf ?_;cases Hm;exact⟨F,rfl,⟨X,SJ0⟩⟩
  ·rintro cell σ_ H Hm ⟨F,rfl,⟨X,SF_⟩⟩
   try dsimp only at Hm
   refine(qt (K:=K) (Q2 (by decide) (V8 ⟨by decide,by decide⟩ (jf kN (eI (i:=2)) (jcg ⟨by decide,by decide⟩ (jp _) (jf kN (eI (i:=1)) (jp _) rfl) rfl) rfl) (jp _) rfl) (jp _) rfl) X Hm ?_);intro low F H Hm E X;exact jB (K:=K) (jf kN (V8 ⟨by decide,by decide⟩ (V9 ⟨by decide,by decide⟩ (Q2 (by decide) (eI (i:=2)) (jgq (i:=10) (j:=60) ⟨by decide,by decide,by decide⟩ (jp _) (jp _) rfl) rfl) (jp _) rfl) (jp _) rfl) (eI (i:=3)) rfl) X Hm Kk
def ZC:FnScope ["_law_cell","_law_a"] ["_law_cell"] (jh (top 129)):=scK
def ZD (B:BiX P w K mg base) (Fn:Fun K "_law_sides" "_law_sides" (top 129) f fd):FnOk P w K mg base CX0 1 f fd ["_law_cell"] (sp1 K (pF cI) (rF (cP cI cI)) GJ):=by
  refine(ok1 Fn ZC fun cdv A outer s H0 Q E_ hr nd hu cell jhD Fe R X jee Hm Kk=>?_);refine⟨_,(jd (pS (i:=1) nd (jK yK jo (jK JD (pv 0) jo))) (jg (jv (Gr (jc (pv 1) (jc (jK yK jo (jK JD (jK Gs (pv 0) jo) (jK Gs jo (pv 1)))) je)))))),?_⟩
  try dsimp only[jQ]
  unfold GJ at Hm;obtain rfl:jhD=.int cell:=jee;refine(qt (K:=K) (jf kN (jp _) (Q2 (by decide) (eI (i:=0)) (jp _) rfl) rfl) X Hm ?_);intro a_ F H Hm E X;exact jB (K:=K) (Us (eI (i:=1)) (jy kN (jp _) (jy Y2 (V9 ⟨by decide,by decide⟩ (eI (i:=0)) (jp _) rfl) (jf jb5 (jp _) (eI (i:=1)) rfl) rfl) rfl) rfl) X Hm Kk
def W2:FnScope ["many","pairs","low","high"] ["many","pairs"] (jh (top 16)):=scK
def W3 (B:BiX P w K mg base) (Fn:Fun K "check_parts" "check_parts" (top 16) f fd) (x9:∃ t,mg "MOST_THINGS"=some (.int 9 t)):FnOk P w K mg base CX0 1 f fd ["many","pairs"] (sp2 K (pF cI) (pB (cP cI cI)) (rF cU) yU):=by
  refine(ok2 Fn W2 fun cdv A outer s H0 Q E_ hr nd hu many pairs UM xn Fe R X QW jL Hm Kk=>?_);obtain⟨t_MOST_THINGS,g_MOST_THINGS⟩:=x9;refine⟨_,(jd (xB (JC (Qs VA VA jo (pv 0) (UR (v:=.int 9) rfl g_MOST_THINGS ⟨_,rfl⟩))) (jg qL) ka) (jg (xG PassesOwn.never rfl (qF (pv 1)) (QO rfl (qd (pG (i:=2) nd) (qd (pG (i:=3) nd) GD))) (jg (xB (JC (jfV VA WY WY jo (pv 2) (pv 3) (pv 0))) (jg qL) ka))))),?_⟩
  try dsimp only[jQ]
  unfold yU at Hm;obtain rfl:UM=.int many:=QW;have jE:Bor K H0 Fe (cP cI cI) pairs xn:=jL;clear jL;refine(Ur (K:=K) (GX (qc (Jg (jp _) (eI (i:=0)) (jp _) rfl)) rfl) X Hm ?_ ?_)
  ·intro F H Hc Hm E X;cases Hm
  ·intro F H Hc Hm E X;replace jE:=E.xb jE;refine Jf ?_;refine jip (K:=K) (c:=(cP cI cI)) ?_ X Hm (fun F1 b σ' F' H'=>∃ (w1_:Option V) (w2_:Option V),σ'=[some (.int many),some xn,w1_,w2_]/\(Ext Fe H0 F' H'/\Same F1 F')) ?_ ?_ ?_ ?_
   ·exact(jf2 (i:=1) rfl jE)
   ·intro F H E X;exact⟨_,_,rfl,⟨X,(Same.refl _)⟩⟩
   ·rintro F1 _ σ_ F_ H_ ⟨w1_,w2_,rfl,⟨X_,SF_⟩⟩;exact⟨X_,SF_⟩
   ·rintro F1 S0_ _ B_ ⟨low,high⟩ Bf σ_ F_ H_ F H ⟨w1_,w2_,rfl,⟨X,SF_⟩⟩ E Bb Hm
    try dsimp only at Hm
    have SL0:=SF_;replace X:=Ext.trans X E;replace SL0:=E.xd SL0;refine jdL Bb X.sub fun jal G6 jam G7=>?_;obtain rfl:jal=.int low:=jam;obtain rfl:G6=.int high:=G7;refine(jdI (K:=K) (GX (qc (ja0 (jp _) (eI (i:=2)) (eI (i:=3)) (eI (i:=0)) rfl)) rfl) X Hm ?_ ?_)
    ·intro F H Hc Hm E X;cases Hm
    ·intro F H Hc Hm E X;replace SL0:=E.xd SL0;refine Jf ?_;cases Hm;exact⟨F,_,_,rfl,⟨X,SL0⟩⟩
   ·rintro F1 S0_ _ σ_ F H Hm ⟨w1_,w2_,rfl,⟨X,SF_⟩⟩
    try dsimp only at Hm
    cases Hm;exact Kk _ F H X rfl
def ZE:FnScope ["many","pairs","found","thing","bits","low","high"] ["many","pairs"] (jh (top 18)):=scK
def ZF (B:BiX P w K mg base) (Fn:Fun K "sets_below" "sets_below" (top 18) f fd):FnOk P w K mg base CX0 1 f fd ["many","pairs"] (sp2 K (pF cI) (pB (cP cI cI)) (rF (cT cI)) zD):=by
  refine(ok2 Fn ZE fun cdv A outer s H0 Q E_ hr nd hu many pairs UM xn Fe R X QW jL Hm Kk=>?_);refine⟨_,(jd (pS (i:=2) nd (xM je)) (jd (xG PassesOwn.never rfl (kI rfl B.range_ (jc (pv 0) je)) (pG (i:=3) nd) (jd (pS (i:=4) nd jo) (jd (xG PassesOwn.never rfl (qF (pv 1)) (QO rfl (qd (pG (i:=5) nd) (qd (pG (i:=6) nd) GD))) (jg (jaV (xB (jP GU (pv 6) (pv 3) (jX _)) (jg (pS (i:=4) nd (jK VV (jK VV (pv 4) (pX k8 (pv 2) (pv 5))) (jK Um jo (pv 5))))) ka)))) (jg (qh (Gd Xv XT XS yM (pv 2) (jc (pv 4) je))))))) (jg (jv (cY yL B.tuple_ (pv 2)))))),?_⟩
  try dsimp only[jQ]
  unfold zD at Hm;obtain rfl:UM=.int many:=QW;have jE:Bor K H0 Fe (cP cI cI) pairs xn:=jL;clear jL;refine(JR (K:=K) (xO (xN (c:=cI)) (by decide)) X Hm ?_);intro found kE F H Hm E X Hn Ac;replace jE:=E.xb jE;refine JK (K:=K) (c:=cI) ?_ X Hm (fun F1 found σ' F' H'=>∃ (kE:Addr) (w1_:Option V) (w2_:Option V) (w3_:Option V) (w4_:Option V),σ'=[some (.int many),some xn,some (.ref kE),w1_,w2_,w3_,w4_]/\(Ext Fe H0 F' H'/\Same F1 F')/\Own K H0 F' H' cI found kE) ?_ ?_ ?_ ?_
  ·exact(qV (jbQ (i:=0) rfl) rfl)
  ·intro F H E X;replace Ac:=Ac.mono E;exact⟨_,_,_,_,_,rfl,⟨X,(Same.refl _)⟩,Ac⟩
  ·rintro F1 found σ_ F_ H_ ⟨kE,w1_,w2_,w3_,w4_,rfl,⟨X_,SF_⟩,Ac⟩;exact⟨X_,SF_⟩
  ·rintro F1 S0_ found B_ thing q_ σ_ F_ H_ F H ⟨kE,w1_,w2_,w3_,w4_,rfl,⟨X,SF_⟩,Ac⟩ E xa Hm
   try dsimp only at Hm
   have SL0:=SF_;replace SF_:=Same.trans S0_ SF_;replace jE:=Bor.mono jE SF_;replace X:=Ext.trans X E;replace jE:=E.xb jE;replace Ac:=Ac.mono E;replace SL0:=E.xd SL0;obtain rfl:q_=.int thing:=xa;refine yf ?_;refine(qt (K:=K) (jp _) X Hm ?_);intro bits F H Hm E X;replace jE:=E.xb jE;replace Ac:=Ac.mono E;replace SL0:=E.xd SL0;refine jce (K:=K) (c:=(cP cI cI)) ?_ X Hm (fun F1 bits σ' F' H'=>∃ (w5_:Option V) (w6_:Option V),σ'=[some (.int many),some xn,some (.ref kE),some (.int thing),some (.int bits),w5_,w6_]/\(Ext Fe H0 F' H'/\Same F1 F')/\Own K H0 F' H' cI found kE) ?_ ?_ ?_ ?_
   ·exact(jf2 (i:=1) rfl jE)
   ·intro F H E X;replace Ac:=Ac.mono E;exact⟨_,_,rfl,⟨X,(Same.refl _)⟩,Ac⟩
   ·rintro F1 bits σ_ F_ H_ ⟨w5_,w6_,rfl,⟨X_,SF_⟩,Ac⟩;exact⟨X_,SF_⟩
   ·rintro F1 S0_ bits B_ ⟨low,high⟩ Bg σ_ F_ H_ F H ⟨w5_,w6_,rfl,⟨X,SF_⟩,Ac⟩ E Bc Hm
    try dsimp only at Hm
    have SL1:=SF_;replace SF_:=Same.trans S0_ SF_;replace X:=Ext.trans X E;replace Ac:=Ac.mono E;replace SL1:=E.xd SL1;refine jdL Bc X.sub fun jal G6 jam G7=>?_;obtain rfl:jal=.int low:=jam;obtain rfl:G6=.int high:=G7;refine(jb_ (K:=K) (fun bits σ' H'=>∃ F':Hp,σ'=[some (.int many),some xn,some (.ref kE),some (.int thing),some (.int bits),some (.int low),some (.int high)]/\(Ext Fe H0 F' H'/\Same F F')/\Own K H0 F' H' cI found kE) (qc (jf UV (eI (i:=6)) (eI (i:=3)) rfl)) X Hm ?_ ?_ ?_)
    ·intro B_ F H Hm E X;replace Ac:=Ac.mono E;have SJ2:=E.f;refine(Ge (K:=K) (jy kN (jy kN (eI (i:=4)) (jf zA (jS (jZ (p:=pB cI) (i:=2) rfl Ac.b)) (eI (i:=5)) rfl) rfl) (jf Y3 (jp _) (eI (i:=5)) rfl) rfl) X Hm ?_);intro bits F H Hm E X;replace Ac:=Ac.mono E;replace SJ2:=E.xd SJ2;cases Hm;exact⟨F,rfl,⟨X,SJ2⟩,Ac⟩
    ·intro B_ F H Hm E X;replace Ac:=Ac.mono E;have SJ2:=E.f;refine Jf ?_;cases Hm;exact⟨F,rfl,⟨X,SJ2⟩,Ac⟩
    ·rintro bits σ_ H Hm ⟨F,rfl,⟨X,SF_⟩,Ac⟩
     try dsimp only at Hm
     replace SL1:=Same.trans SL1 SF_;cases Hm;exact⟨F,_,_,rfl,⟨X,SL1⟩,Ac⟩
   ·rintro F1 S0_ bits σ_ F H Hm ⟨w5_,w6_,rfl,⟨X,SF_⟩,Ac⟩
    try dsimp only at Hm
    replace SF_:=Same.trans S0_ SF_;replace SL0:=Same.trans SL0 SF_;refine(Q1 (K:=K) (k':=2) rfl Ac (eI (i:=4)) X Hm ?_);intro found F H Hm Cg X Ac;replace SL0:=Same.trans SL0 Cg.f;cases Hm;exact⟨F,_,_,_,_,_,rfl,⟨X,SL0⟩,Ac⟩
  ·rintro F1 S0_ found σ_ F H Hm ⟨kE,w1_,w2_,w3_,w4_,rfl,⟨X,SF_⟩,Ac⟩
   try dsimp only at Hm
   exact jB (K:=K) (jk jaW (jS (jZ (p:=pB cI) (i:=2) rfl Ac.b)) rfl) X Hm Kk
def jne:FnScope ["bits","thing"] ["bits","thing"] (jh (top 17)):=scK
def jnf (B:BiX P w K mg base) (Fn:Fun K "has" "has" (top 17) f fd):FnOk P w K mg base CX0 1 f fd ["bits","thing"] (sp2 K (pF cI) (pF cI) (rF cB) U6):=by
  refine(ok2 Fn jne fun cdv A outer s H0 Q E_ hr nd hu bits thing xV q_ Fe R X xW xa Hm Kk=>?_);refine⟨_,(jg (jv (JN GU (jK jfy (jK jjq (pv 0) (pv 1)) jo) jo (jX _)))),?_⟩
  try dsimp only[jQ]
  unfold U6 at Hm;obtain rfl:xV=.int bits:=xW;obtain rfl:q_=.int thing:=xa;exact jB (K:=K) (jy UV (jy kN (jf jmj (eI (i:=0)) (eI (i:=1)) rfl) (jp _) rfl) (jp _) rfl) X Hm Kk
def jcR:FnScope ["beneath","low","high"] ["beneath","low","high"] (jh (top 19)):=scK
def jcS (B:BiX P w K mg base) (Fn:Fun K "is_cover" "is_cover" (top 19) f fd) (WI:jhx P w K mg base):FnOk P w K mg base CX0 2 f fd ["beneath","low","high"] (sp3 K (pF (cT cI)) (pF cI) (pF cI) (rF cB) G1):=by
  refine(ok3 Fn jcR fun cdv A outer s H0 Q E_ hr nd hu beneath low high Gm jal G6 Fe R X jF jam G7 Hm Kk=>?_);refine⟨_,(jd (xB (JC (GR (pD_ WI hr (jc (pX zQ (pv 0) (pv 2)) (jc (pv 1) je))))) (jg (jv Uj)) ka) (jg (jv (jjn (kB (jh6 rfl) B.any_ (k9 (own:=["mid"]) (ix:=[0,1,2]) (qD rfl) rfl (jaE rfl B.range_ (jc (jK yK (pv 1) jo) (jc (pv 2) je))) (fun _=>(kA (i:=0) (show List.Nodup (["mid","beneath","low","high"]:List Str) by decide +kernel) rfl (Or.inl rfl))) (fun _=>xg) (fun _=>(jdp (pD_ WI hr (jc (pX zQ (pv 1) (pv 3)) (jc (pv 0) je))) (jdo (pD_ WI hr (jc (pX zQ (pv 1) (pv 0)) (jc (pv 2) je)))))))))))),?_⟩
  try dsimp only[jQ]
  unfold G1 at Hm;replace jF:(cT cI).rep K Fe beneath Gm:=jF;obtain rfl:jal=.int low:=jam;obtain rfl:G6=.int high:=G7;refine(jif (K:=K) (Qw (zR (jY (jf VC (eV (i:=0) jF) (eI (i:=2)) rfl) (eI (i:=1)) rfl)) rfl) X Hm ?_ ?_)
  ·intro F H Hm E X
   try dsimp only[wc] at Hm
   exact jB (K:=K) (Uq _) X Hm Kk
  ·intro F H Hm E X
   try dsimp only[X7] at Hm
   replace jF:=E.xc jF;refine Jf ?_;exact jB (K:=K) (jdQ (kO jnO (jS (kJ (qy (jci (jf kN (eI (i:=1)) (jp _) rfl) (eI (i:=2)) rfl) [some Gm,some (.int low),some (.int high)] rfl (fun b5 mid _ _ E4=>yq) (fun b5 mid _ _ E4=>(jdR (jY (jf VC (eV (i:=1) (Cd.mono _ (E4).f jF)) (eI (i:=3)) rfl) (eI (i:=0)) rfl) (jY (jf VC (eV (i:=1) (Cd.mono _ (E4).f jF)) (eI (i:=0)) rfl) (eI (i:=2)) rfl) rfl)) rfl))) rfl) rfl) X Hm Kk
def W4:FnScope ["beneath","found","low","high"] ["beneath"] (jh (top 20)):=scK
def W5 (B:BiX P w K mg base) (Fn:Fun K "cover_pairs" "cover_pairs" (top 20) f fd) (Vd:Def P w K mg base "is_cover" 2 ["beneath","low","high"] (sp3 K (pF (cT cI)) (pF cI) (pF cI) (rF cB) G1)):FnOk P w K mg base CX0 3 f fd ["beneath"] (sp1 K (pF (cT cI)) (rF (cT (cP cI cI))) yV):=by
  refine(ok1 Fn W4 fun cdv A outer s H0 Q E_ hr nd hu beneath Gm Fe R X jF Hm Kk=>?_);refine⟨_,(jd (pS (i:=1) nd (xM je)) (jd (xG PassesOwn.never rfl (kI rfl B.range_ (jc (kB jw B.len_ (pv 0)) je)) (pG (i:=2) nd) (jg (xG PassesOwn.never rfl (jaE rfl B.range_ (jc (jK yK (pv 2) jo) (jc (kB jw B.len_ (pv 0)) je))) (pG (i:=3) nd) (jg (jaV (xB (GR (pD_ Vd hr (jc (pv 0) (jc (pv 2) (jc (pv 3) je))))) (jg (qh (Gd Xv XT XS yM (pv 1) (jc (Gr (jc (pv 2) (jc (pv 3) je))) je)))) ka)))))) (jg (jv (cY yL B.tuple_ (pv 1)))))),?_⟩
  try dsimp only[jQ]
  unfold yV at Hm;replace jF:(cT cI).rep K Fe beneath Gm:=jF;refine(JR (K:=K) (xO (xN (c:=(cP cI cI))) (by decide)) X Hm ?_);intro found kE F H Hm E X Hn Ac;replace jF:=E.xc jF;refine JK (K:=K) (c:=cI) ?_ X Hm (fun F1 found σ' F' H'=>∃ (kE:Addr) (w1_:Option V) (w2_:Option V),σ'=[some Gm,some (.ref kE),w1_,w2_]/\(Ext Fe H0 F' H'/\Same F1 F')/\Own K H0 F' H' (cP cI cI) found kE) ?_ ?_ ?_ ?_
  ·exact(qV (jk jdD (jZ (p:=pF (cT cI)) (i:=0) rfl jF) rfl) rfl)
  ·intro F H E X;replace Ac:=Ac.mono E;exact⟨_,_,_,rfl,⟨X,(Same.refl _)⟩,Ac⟩
  ·rintro F1 found σ_ F_ H_ ⟨kE,w1_,w2_,rfl,⟨X_,SF_⟩,Ac⟩;exact⟨X_,SF_⟩
  ·rintro F1 S0_ found B_ low jal σ_ F_ H_ F H ⟨kE,w1_,w2_,rfl,⟨X,SF_⟩,Ac⟩ E jam Hm
   try dsimp only at Hm
   have SL0:=SF_;replace SF_:=Same.trans S0_ SF_;replace jF:=Cd.mono _ SF_ jF;replace X:=Ext.trans X E;replace jF:=E.xc jF;replace Ac:=Ac.mono E;replace SL0:=E.xd SL0;obtain rfl:jal=.int low:=jam;refine yf ?_;refine jaX (K:=K) (c:=cI) ?_ X Hm (fun F1 found σ' F' H'=>∃ (kE:Addr) (w3_:Option V),σ'=[some Gm,some (.ref kE),some (.int low),w3_]/\(Ext Fe H0 F' H'/\Same F1 F')/\Own K H0 F' H' (cP cI cI) found kE) ?_ ?_ ?_ ?_
   ·exact(jch (jf kN (jbQ (i:=2) rfl) (jp _) rfl) (jk jdD (jZ (p:=pF (cT cI)) (i:=0) rfl jF) rfl) rfl)
   ·intro F H E X;replace Ac:=Ac.mono E;exact⟨_,_,rfl,⟨X,(Same.refl _)⟩,Ac⟩
   ·rintro F1 found σ_ F_ H_ ⟨kE,w3_,rfl,⟨X_,SF_⟩,Ac⟩;exact⟨X_,SF_⟩
   ·rintro F1 S0_ found B_ high G6 σ_ F_ H_ F H ⟨kE,w3_,rfl,⟨X,SF_⟩,Ac⟩ E G7 Hm
    try dsimp only at Hm
    have SL1:=SF_;replace SF_:=Same.trans S0_ SF_;replace jF:=Cd.mono _ SF_ jF;replace X:=Ext.trans X E;replace jF:=E.xc jF;replace Ac:=Ac.mono E;replace SL1:=E.xd SL1;obtain rfl:G6=.int high:=G7;refine yf ?_;refine(jjE (K:=K) (fun found σ' H'=>∃ F':Hp,∃ (kE:Addr) ,σ'=[some Gm,some (.ref kE),some (.int low),some (.int high)]/\(Ext Fe H0 F' H'/\Same F F')/\Own K H0 F' H' (cP cI cI) found kE) (zR (JW (eV (i:=0) jF) (eI (i:=2)) (eI (i:=3)) rfl)) X Hm ?_ ?_ ?_)
    ·intro B_ F H Hm E X;replace Ac:=Ac.mono E;have SJ2:=E.f;refine(Q1 (K:=K) (k':=1) rfl Ac (qT (eI (i:=2)) (eI (i:=3)) rfl) X Hm ?_);intro found F H Hm Cg X Ac;replace SJ2:=Same.trans SJ2 Cg.f;cases Hm;exact⟨F,_,rfl,⟨X,SJ2⟩,Ac⟩
    ·intro B_ F H Hm E X;replace Ac:=Ac.mono E;have SJ2:=E.f;refine Jf ?_;cases Hm;exact⟨F,_,rfl,⟨X,SJ2⟩,Ac⟩
    ·rintro found σ_ H Hm ⟨F,kE,rfl,⟨X,SF_⟩,Ac⟩
     try dsimp only at Hm
     replace SL1:=Same.trans SL1 SF_;cases Hm;exact⟨F,_,_,rfl,⟨X,SL1⟩,Ac⟩
   ·rintro F1 S0_ found σ_ F H Hm ⟨kE,w3_,rfl,⟨X,SF_⟩,Ac⟩
    try dsimp only at Hm
    replace SF_:=Same.trans S0_ SF_;replace SL0:=Same.trans SL0 SF_;cases Hm;exact⟨F,_,_,_,rfl,⟨X,SL0⟩,Ac⟩
  ·rintro F1 S0_ found σ_ F H Hm ⟨kE,w1_,w2_,rfl,⟨X,SF_⟩,Ac⟩
   try dsimp only at Hm
   exact jB (K:=K) (jk jaW (jS (jZ (p:=pB (cP cI cI)) (i:=1) rfl Ac.b)) rfl) X Hm Kk
def A2:FnScope ["self","many","pairs"] ["self","many","pairs"] (jh ((jx (top 21) 0))):=scK
def ZG (B:BiX P w K mg base) (Aa:Ab K mg ja) (Fn:Fun K "__init__" "Order.__init__" ((jx (top 21) 0)) f fd) (Js:Def P w K mg base "check_parts" 1 ["many","pairs"] (sp2 K (pF cI) (pB (cP cI cI)) (rF cU) yU)) (Qf:Def P w K mg base "sets_below" 1 ["many","pairs"] (sp2 K (pF cI) (pB (cP cI cI)) (rF (cT cI)) zD)) (Jt:Def P w K mg base "cover_pairs" 3 ["beneath"] (sp1 K (pF (cT cI)) (rF (cT (cP cI cI))) yV)):FnOk P w K mg base CX0 4 f fd ["self","many","pairs"] (jlL K ja (pF cI) (pB (cP cI cI)) (jl ja) yu):=by
 refine Fn.ok A2 (fun vs H Q E h=>?_) (fun cdv A outer s Hq vs Q E_ hr h=>?_)
 ·obtain⟨_,_,_,_,_,_,_,_,_,rfl,_⟩:=h;rfl
 ·obtain⟨many,pairs,UM,xn,Fe,H0,x_self,dx_self,R,rfl,rfl,n1_,n2_,n3_,S_,QW,jL,Hm,Kk⟩:=h;have nd:=A2.nd;have hu:=QK hr;refine⟨_,(jd (qh (pD_ Js hr (jc (pv 1) (jc (pv 2) je)))) (jd (zz (pv 0) (pv 1) rfl) (jd (zz (pv 0) (pD_ Qf hr (jc (pv 1) (jc (pv 2) je))) rfl) (jg (zz (pv 0) (pD_ Jt hr (jc (j3 (pv 0) rfl) je)) rfl))))),?_⟩
  try dsimp only[jQ]
  obtain⟨X,j0⟩:=yr (C:=ja) S_ n1_ n2_ n3_;unfold yu at Hm;obtain rfl:UM=.int many:=QW;have jE:Bor K H0 Fe (cP cI cI) pairs xn:=jL;clear jL;refine(JS (K:=K) (jr (eI (i:=1)) (jZ (p:=pB (cP cI cI)) (i:=2) rfl (Bor.b jE X)) rfl) X Hm ?_);intro _ F H Hm E X;replace jE:=E.xb jE;replace j0:=OwnI.mono j0 E;refine(jcl (K:=K) (k':=0) (c:=cI) rfl j0 Aa.cl Aa.n_many (XG (Xe 0) (by decide:0<1000)) (eI (i:=1)) X Hm ?_);intro f_many jdc F H Hm Cg X jdd j0;replace jE:=Bor.mono jE Cg.f;obtain rfl:jdc=.int f_many:=jdd;refine(jcl (K:=K) (k':=0) (c:=(cT cI)) rfl j0 Aa.cl Aa.n_beneath (XG (GI (Xe 0)) (by decide:1<1000)) (jr (eI (i:=1)) (jZ (p:=pB (cP cI cI)) (i:=2) rfl (Bor.b jE X)) rfl) X Hm ?_);intro f_beneath jhM F H Hm Cg X zx j0;refine(Vq (K:=K) (k':=0) (c:=(cT (cP cI cI))) rfl j0 Aa.cl Aa.n_neighbours (XG (GI (GI (Xe 0))) (by decide:2<1000)) (jC (jck (p:=pF (cT cI)) (k:=0) rfl j0 Aa.cl Aa.n_beneath (by rw[jm,if_pos rfl]) zx) rfl) X Hm ?_);intro f_neighbours jfi F H Hm Cg X Ve j0;replace zx:=Cd.mono _ Cg.f zx;cases Hm;obtain⟨F',X',Cg,hx⟩:=OwnI.freeze j0 X;exact Kk F' H X' ⟨x_self,dx_self,_,_,_,rfl,hx,rfl,Cd.mono _ Cg.f zx,Cd.mono _ Cg.f Ve⟩
def ZH:FnScope ["self"] ["self"] (jh ((jx (top 21) 1))):=scK
def ZI (B:BiX P w K mg base) (Aa:Ab K mg ja) (Fn:Fun K "size" "Order.size" ((jx (top 21) 1)) f fd):FnOk P w K mg base CX0 1 f fd ["self"] (sp1 K (pF (jl ja)) (rF cI) jR):=by
  refine(ok1 Fn ZH fun cdv A outer s H0 Q E_ hr nd hu self xI Fe R X jt Hm Kk=>?_);refine⟨_,(jg (jv (j3 (pv 0) rfl))),?_⟩
  try dsimp only[jQ]
  unfold jR at Hm;replace jt:(jl ja).rep K Fe self xI:=jt;exact jB (K:=K) (js (QS Aa) (eV (i:=0) jt) rfl) X Hm Kk
def jbp:FnScope ["bits"] ["bits"] (jh (top 23)):=scK
def jbq (B:BiX P w K mg base) (Fn:Fun K "things_of" "things_of" (top 23) f fd) (WI:jhx P w K mg base):FnOk P w K mg base CX0 2 f fd ["bits"] (sp1 K (pF cI) (rO cI) kL):=by
  refine(ok1 Fn jbp fun cdv A outer s H0 Q E_ hr nd hu bits xV Fe R X xW Hm Kk=>?_);refine⟨_,(jg (jv (k9 (own:=["thing"]) (ix:=[0]) (qD rfl) rfl (kI rfl B.range_ (jc (jju PySem.F.plainAttrs_int PySem.F.slot_int_bit_length PySem.F.type_int_bit_length jfT (pv 0)) je)) (fun _=>(kA (i:=0) (show List.Nodup (["thing","bits"]:List Str) by decide +kernel) rfl (Or.inl rfl))) (fun _=>GG (GR (pD_ WI hr (jc (pv 1) (jc (pv 0) je))))) (fun _=>(pv 0))))),?_⟩
  try dsimp only[jQ]
  unfold kL at Hm;obtain rfl:xV=.int bits:=xW;exact jB (K:=K) (qy (Gf (Zb (eI (i:=0)) rfl) rfl) [some (.int bits)] rfl (fun b2 thing _ _ E1=>(zR (jr (eI (i:=1)) (eI (i:=0)) rfl))) (fun b2 thing _ _ E1=>(eI (i:=0))) rfl) X Hm Kk
def jbr:FnScope ["bits","others"] ["bits","others"] (jh (top 25)):=scK
def jbs (B:BiX P w K mg base) (Fn:Fun K "holds_all" "holds_all" (top 25) f fd):FnOk P w K mg base CX0 1 f fd ["bits","others"] (sp2 K (pF cI) (pF cI) (rF cB) qW):=by
  refine(ok2 Fn jbr fun cdv A outer s H0 Q E_ hr nd hu bits others xV jjh Fe R X xW jji Hm Kk=>?_);refine⟨_,(jg (jv (JN GU (jK jfy (pv 0) (pv 1)) (pv 1) (jX _)))),?_⟩
  try dsimp only[jQ]
  unfold qW at Hm;obtain rfl:xV=.int bits:=xW;obtain rfl:jjh=.int others:=jji;exact jB (K:=K) (jf UV (jf kN (eI (i:=0)) (eI (i:=1)) rfl) (eI (i:=1)) rfl) X Hm Kk
def ZJ:FnScope ["order","bits"] ["order","bits"] (jh (top 26)):=scK
def ZK (B:BiX P w K mg base) (Aa:Ab K mg ja) (Fn:Fun K "is_downset" "is_downset" (top 26) f fd) (jA:qm P w K mg base ja) (kh:yD P w K mg base) (xD:Qc P w K mg base):FnOk P w K mg base CX0 3 f fd ["order","bits"] (sp2 K (pF (jl ja)) (pF cI) (rF cB) xu):=by
  refine(ok2 Fn ZJ fun cdv A outer s H0 Q E_ hr nd hu order bits jz xV Fe R X jb xW Hm Kk=>?_);refine⟨_,(jd (xB (PW.pt (WW (jP WY (pv 1) jo (jX _)) (Vm (jP WZ (jK jjq (pv 1) (yN jA (hr.mono (by decide)) (pv 0))) jo (jX _))))) (jg (jv Uj)) ka) (jg (jv (kB (jdB rfl) B.all_ (k9 (own:=["thing"]) (ix:=[0,1]) (qD rfl) rfl (qF (pD_ kh hr (jc (pv 1) je))) (fun _=>(kA (i:=0) (show List.Nodup (["thing","order","bits"]:List Str) by decide +kernel) rfl (Or.inl rfl))) (fun _=>xg) (fun _=>(pD_ xD hr (jc (pv 2) (jc (pX zQ (j3 (pv 1) rfl) (pv 0)) je))))))))),?_⟩
  try dsimp only[jQ]
  unfold xu at Hm;replace jb:(jl ja).rep K Fe order jz:=jb;obtain rfl:xV=.int bits:=xW;refine(jif (K:=K) (V_ (qc (jf zj (eI (i:=1)) (jp _) rfl)) (qc (jy zj (jy jmj (eI (i:=1)) (kX kQ (eV (i:=0) jb) rfl) rfl) (jp _) rfl)) rfl) X Hm ?_ ?_)
  ·intro F H Hm E X
   try dsimp only[wc] at Hm
   exact jB (K:=K) (Uq _) X Hm Kk
  ·intro F H Hm E X
   try dsimp only[X7] at Hm
   replace jb:=E.xc jb;refine Jf ?_;exact jB (K:=K) (kO jmv (jS (kJ (qy (yP (jS (kJ (jC (eI (i:=1)) rfl)))) [some jz,some (.int bits)] rfl (fun b6 thing _ _ E5=>yq) (fun b6 thing _ _ E5=>(jY (eI (i:=2)) (jf VC (js (xj Aa) (eV (i:=1) (Cd.mono _ (E5).f jb)) rfl) (eI (i:=0)) rfl) rfl)) rfl))) rfl) X Hm Kk
def jcT:FnScope ["order"] ["order"] (jh (top 31)):=scK
def jcU (B:BiX P w K mg base) (Aa:Ab K mg ja) (Fn:Fun K "downsets" "downsets" (top 31) f fd) (jA:qm P w K mg base ja) (yE:UD P w K mg base ja):FnOk P w K mg base CX0 4 f fd ["order"] (sp1 K (pF (jl ja)) (rO cI) kW):=by
  refine(ok1 Fn jcT fun cdv A outer s H0 Q E_ hr nd hu order jz Fe R X jb Hm Kk=>?_);refine⟨_,(jg (jv (k9 (own:=["bits"]) (ix:=[0]) (qD rfl) rfl (kI rfl B.range_ (jc (jK Um jo (yN jA (hr.mono (by decide)) (pv 0))) je)) (fun _=>(kA (i:=0) (show List.Nodup (["bits","order"]:List Str) by decide +kernel) rfl (Or.inl rfl))) (fun _=>GG (GR (pD_ yE hr (jc (pv 1) (jc (pv 0) je))))) (fun _=>(pv 0))))),?_⟩
  try dsimp only[jQ]
  unfold kW at Hm;replace jb:(jl ja).rep K Fe order jz:=jb;exact jB (K:=K) (qy (JU (jy Y3 (jp _) (kX kQ (eV (i:=0) jb) rfl) rfl) rfl) [some jz] rfl (fun b5 bits _ _ E4=>(zR (jr (eV (i:=1) (Cd.mono _ (E4).f jb)) (eI (i:=0)) rfl))) (fun b5 bits _ _ E4=>(eI (i:=0))) rfl) X Hm Kk
def je3:FnScope ["order","bits","thing"] ["order","bits","thing"] (jh (top 29)):=scK
def je4 (B:BiX P w K mg base) (Aa:Ab K mg ja) (Fn:Fun K "is_door" "is_door" (top 29) f fd) (WI:jhx P w K mg base) (xD:Qc P w K mg base):FnOk P w K mg base CX0 2 f fd ["order","bits","thing"] (sp3 K (pF (jl ja)) (pF cI) (pF cI) (rF cB) yW):=by
  refine(ok3 Fn je3 fun cdv A outer s H0 Q E_ hr nd hu order bits thing jz xV q_ Fe R X jb xW xa Hm Kk=>?_);refine⟨_,(jg (jv (jdp (jjn (pD_ WI hr (jc (pv 1) (jc (pv 2) je)))) (jdo (pD_ xD hr (jc (pv 1) (jc (pX zQ (j3 (pv 0) rfl) (pv 2)) je))))))),?_⟩
  try dsimp only[jQ]
  unfold yW at Hm;replace jb:(jl ja).rep K Fe order jz:=jb;obtain rfl:xV=.int bits:=xW;obtain rfl:q_=.int thing:=xa;exact jB (K:=K) (jdR (jdQ (jr (eI (i:=1)) (eI (i:=2)) rfl) rfl) (jY (eI (i:=1)) (jf VC (js (xj Aa) (eV (i:=0) jb) rfl) (eI (i:=2)) rfl) rfl) rfl) X Hm Kk
def W6:FnScope ["order","ahead"] ["order","ahead"] (jh (top 42)):=scK
def W7 (B:BiX P w K mg base) (Aa:Ab K mg ja) (Fn:Fun K "things_next" "things_next" (top 42) f fd) (jA:qm P w K mg base ja) (G8:YG P w K mg base ja):FnOk P w K mg base CX0 3 f fd ["order","ahead"] (sp2 K (pF (jl ja)) (pF cI) (rO cI) kR):=by
  refine(ok2 Fn W6 fun cdv A outer s H0 Q E_ hr nd hu order ahead jz WJ Fe R X jb WK Hm Kk=>?_);refine⟨_,(jg (jv (k9 (own:=["thing"]) (ix:=[0,1]) (qD rfl) rfl (kI rfl B.range_ (jc (yN jA (hr.mono (by decide)) (pv 0)) je)) (fun _=>(kA (i:=0) (show List.Nodup (["thing","order","ahead"]:List Str) by decide +kernel) rfl (Or.inl rfl))) (fun _=>GG (GR (pD_ G8 hr (jc (pv 1) (jc (pv 2) (jc (pv 0) je)))))) (fun _=>(pv 0))))),?_⟩
  try dsimp only[jQ]
  unfold kR at Hm;replace jb:(jl ja).rep K Fe order jz:=jb;obtain rfl:WJ=.int ahead:=WK;exact jB (K:=K) (qy (JU (kX kQ (eV (i:=0) jb) rfl) rfl) [some jz,some (.int ahead)] rfl (fun b3 thing _ _ E2=>(zR (JW (eV (i:=1) (Cd.mono _ (E2).f jb)) (eI (i:=2)) (eI (i:=0)) rfl))) (fun b3 thing _ _ E2=>(eI (i:=0))) rfl) X Hm Kk
def je5:FnScope ["order","ways","ahead","grown"] ["order"] (jh (top 43)):=scK
def je6 (B:BiX P w K mg base) (Aa:Ab K mg ja) (Fn:Fun K "ways_on" "ways_on" (top 43) f fd) (qK:Jp P w K mg base ja) (qo:GK P w K mg base ja):FnOk P w K mg base CX0 5 f fd ["order"] (sp1 K (pF (jl ja)) (rD (κ:=Int) cI) xk):=by
  refine(ok1 Fn je5 fun cdv A outer s H0 Q E_ hr nd hu order jz Fe R X jb Hm Kk=>?_);refine⟨_,(jd (pS (i:=1) nd jiC) (jd (xG PassesOwn.never rfl (jmL rfl B.reversed_ (pD_ qK hr (jc (pv 0) je))) (pG (i:=2) nd) (jd (Qu (i:=3) (own:=["thing"]) (ix:=[2]) (qD rfl) rfl (qF (pD_ qo hr (jc (pv 0) (jc (pv 2) je)))) (fun _=>(kA (i:=0) (show List.Nodup (["thing","ahead"]:List Str) by decide +kernel) rfl (Or.inl rfl))) (fun _=>xg) (fun _=>(jK VV (pv 1) (jK Um jo (pv 0)))) nd rfl rfl) (jg (jgO (hu1 hu) (pv 1) (pv 2) (Uk (jP WZ (kB jw B.len_ (pv 3)) jo (jX _)) (kB (Up rfl) B.sum_ (k9 (own:=["bits"]) (ix:=[1]) (qD rfl) rfl (qF (pv 3)) (fun _=>(kA (i:=0) (show List.Nodup (["bits","ways"]:List Str) by decide +kernel) rfl (Or.inl rfl))) (fun _=>xg) (fun _=>(U0 (hu1 hu) (pv 1) (pv 0) (fun _ _=>rfl))))) jo) rfl)))) (jg (jv (pv 1))))),?_⟩
  try dsimp only[jQ]
  unfold xk at Hm;replace jb:(jl ja).rep K Fe order jz:=jb;refine(jjR (K:=K) (jkU (κ:=Int) (c:=cI)) X Hm ?_);intro ways G9 F H Hm E X Hn Ag;replace jb:=E.xc jb;refine JK (K:=K) (c:=cI) ?_ X Hm (fun F1 ways σ' F' H'=>∃ (G9:Addr) (w2_:Option V) (w3_:Option V),σ'=[some jz,some (.ref G9),w2_,w3_]/\(Ext Fe H0 F' H'/\Same F1 F')/\OwnD K H0 F' H' cI ways G9) ?_ ?_ ?_ ?_
  ·exact(jiH (xh (jC (jZ (p:=pF (jl ja)) (i:=0) rfl jb) rfl)) rfl)
  ·intro F H E X;replace Ag:=Ag.mono E;exact⟨_,_,_,rfl,⟨X,(Same.refl _)⟩,Ag⟩
  ·rintro F1 ways σ_ F_ H_ ⟨G9,w2_,w3_,rfl,⟨X_,SF_⟩,Ag⟩;exact⟨X_,SF_⟩
  ·rintro F1 S0_ ways B_ ahead WJ σ_ F_ H_ F H ⟨G9,w2_,w3_,rfl,⟨X,SF_⟩,Ag⟩ E WK Hm
   try dsimp only at Hm
   have SL0:=SF_;replace SF_:=Same.trans S0_ SF_;replace jb:=Cd.mono _ SF_ jb;replace X:=Ext.trans X E;replace jb:=E.xc jb;replace Ag:=Ag.mono E;replace SL0:=E.xd SL0;obtain rfl:WJ=.int ahead:=WK;refine yf ?_;refine(yQ (K:=K) (c:=(cL cI)) (xh (qy (yP (jS (kJ (jr (eV (i:=0) jb) (eI (i:=2)) rfl)))) [some (.int ahead)] rfl (fun b5 thing _ _ E4=>yq) (fun b5 thing _ _ E4=>(jy kN (eI (i:=1)) (jf Y3 (jp _) (eI (i:=0)) rfl) rfl)) rfl)) X Hm ?_);intro grown jlv F H Hm E X Gn;replace Ag:=Ag.mono E;replace SL0:=E.xd SL0;refine(jkW (K:=K) (k':=1) rfl Ag (JT (qc (jf zj (jk xi (jS (qx (eV (i:=3) Gn))) rfl) (jp _) rfl)) (kO jf9 (jS (kJ (xP (yP (jS (qx (eV (i:=3) Gn)))) [some (.ref G9)] rfl (fun b10 bits _ _ E9=>yq) (fun b10 bits _ _ E9=>(Wb (jZ (p:=pD (κ:=Int) cI) (i:=1) rfl (OwnD.mono Ag (E9)).b) (eI (i:=0)) rfl)) rfl))) rfl) (jp _) rfl) (eI (i:=2)) X Hm ?_);intro ways F H Hm Cg X Ag;replace SL0:=Same.trans SL0 Cg.f;cases Hm;exact⟨F,_,_,_,rfl,⟨X,SL0⟩,Ag⟩
  ·rintro F1 S0_ ways σ_ F H Hm ⟨G9,w2_,w3_,rfl,⟨X,SF_⟩,Ag⟩
   try dsimp only at Hm
   exact jk2 (K:=K) (i:=1) rfl Ag X Hm Kk
def je7:FnScope ["order","number","ways","row","ahead","left","choices"] ["order","number"] (jh (top 46)):=scK
def je8 (B:BiX P w K mg base) (Aa:Ab K mg ja) (Fn:Fun K "line_at" "line_at" (top 46) f fd) (G_:YH P w K mg base ja) (jA:qm P w K mg base ja) (qo:GK P w K mg base ja):FnOk P w K mg base CX0 6 f fd ["order","number"] (sp2 K (pF (jl ja)) (pF cI) (rF (cT cI)) zE):=by
  refine(ok2 Fn je7 fun cdv A outer s H0 Q E_ hr nd hu order number jz jan Fe R X jb jao Hm Kk=>?_);refine⟨_,(jd (pS (i:=2) nd (pD_ G_ hr (jc (pv 0) je))) (jd (xB (JC (Qs VA WY jo (pv 1) (U0 (hu1 hu) (pv 2) jo (fun _ _=>rfl)))) (jg qL) ka) (jd (pS (i:=3) nd (xM je)) (jd (pS (i:=4) nd jo) (jd (pS (i:=5) nd (pv 1)) (jd (Jd PassesOwn.never (jP WY (kB jw B.len_ (pv 3)) (yN jA (hr.mono (by decide)) (pv 0)) (jX _)) (jd (pS (i:=6) nd (pD_ qo hr (jc (pv 0) (jc (pv 4) je)))) (jd (Jd PassesOwn.never (jP jnF (pv 5) (U0 (hu1 hu) (pv 2) (jK VV (pv 4) (jK Um jo (pX k8 (pv 6) jo))) (fun _ _=>rfl)) (jX _)) (jd (pS (i:=5) nd (jK Vn (pv 5) (U0 (hu1 hu) (pv 2) (jK VV (pv 4) (jK Um jo (pX k8 (pv 6) jo))) (fun _ _=>rfl)))) (jg (pS (i:=6) nd (zp UT (pv 6) (GF jo) GE))))) (jd (qh (Gd Xv XT XS yM (pv 3) (jc (pX k8 (pv 6) jo) je))) (jg (pS (i:=4) nd (jK VV (pv 4) (jK Um jo (pX k8 (pv 6) jo))))))))) (jg (jv (cY yL B.tuple_ (pv 3)))))))))),?_⟩
  try dsimp only[jQ]
  unfold zE at Hm;replace jb:(jl ja).rep K Fe order jz:=jb;obtain rfl:jan=.int number:=jao;refine(jjR (K:=K) (jC (eV (i:=0) jb) rfl) X Hm ?_);intro ways G9 F H Hm E X Hn Ag;replace jb:=E.xc jb;refine(jif (K:=K) (Qw (qc (jaZ (jp _) (eI (i:=1)) (Wb (jZ (p:=pD (κ:=Int) cI) (i:=2) rfl Ag.b) (jp _) rfl) rfl)) rfl) X Hm ?_ ?_)
  ·intro F H Hm E X
   try dsimp only[wc] at Hm
   cases Hm
  ·intro F H Hm E X
   try dsimp only[X7] at Hm
   replace jb:=E.xc jb;replace Ag:=Ag.mono E;refine Jf ?_;refine(JR (K:=K) (xO (xN (c:=cI)) (by decide)) X Hm ?_);intro row Yj F H Hm E X Hn Al;have xo:=OwnD.ne Ag Hn;have Vf:=Ne.symm xo;replace jb:=E.xc jb;replace Ag:=Ag.mono E;refine(qt (K:=K) (jp _) X Hm ?_);intro ahead F H Hm E X;replace jb:=E.xc jb;replace Ag:=Ag.mono E;replace Al:=Al.mono E;refine(qt (K:=K) (eI (i:=1)) X Hm ?_);intro left F H Hm E X;replace jb:=E.xc jb;replace Ag:=Ag.mono E;replace Al:=Al.mono E;refine Q3 (K:=K) X Hm (fun F1 b σ' F' H'=>match b with | (row,ahead,left)=>∃ (Yj:Addr) (w3_:Option V),σ'=[some jz,some (.int number),some (.ref G9),some (.ref Yj),some (.int ahead),some (.int left),w3_]/\(Ext Fe H0 F' H'/\Same F1 F')/\OwnD K H0 F' H' cI ways G9/\Own K H0 F' H' cI row Yj/\G9≠Yj) ?_ ?_ ?_ ?_ ?_
   ·exact⟨_,_,rfl,⟨X,(Same.refl _)⟩,Ag,Al,xo⟩
   ·rintro F1 ⟨row,ahead,left⟩ σ_ F_ H_ ⟨Yj,w3_,rfl,⟨X_,SF_⟩,Ag,Al,xo⟩;exact⟨X_,SF_⟩
   ·rintro⟨row,ahead,left⟩ σ_ F H ⟨Yj,w3_,rfl,⟨X,SF_⟩,Ag,Al,xo⟩;replace jb:=Cd.mono _ SF_ jb;have Vf:=Ne.symm xo;exact(qc (jy zj (jk xi (jS (jZ (p:=pB cI) (i:=3) rfl Al.b)) rfl) (kX kQ (jZ (p:=pF (jl ja)) (i:=0) rfl jb) rfl) rfl))
   ·rintro⟨row,ahead,left⟩ B_ σ_ F_ H_ F H ⟨Yj,w3_,rfl,⟨X,SF_⟩,Ag,Al,xo⟩ E Hm
    try dsimp only at Hm
    have SL0:=SF_;replace jb:=Cd.mono _ SF_ jb;have Vf:=Ne.symm xo;replace X:=Ext.trans X E;replace jb:=E.xc jb;replace Ag:=Ag.mono E;replace Al:=Al.mono E;replace SL0:=E.xd SL0;refine(yQ (K:=K) (c:=(cL cI)) (xh (jr (eV (i:=0) jb) (eI (i:=4)) rfl)) X Hm ?_);intro choices zL F H Hm E X kF;replace Ag:=Ag.mono E;replace Al:=Al.mono E;replace SL0:=E.xd SL0;refine Q3 (K:=K) X Hm (fun F1 b σ' F' H'=>match b with | (left,choices)=>∃ (zL:V),σ'=[some jz,some (.int number),some (.ref G9),some (.ref Yj),some (.int ahead),some (.int left),some zL]/\(Ext Fe H0 F' H'/\Same F1 F')/\OwnD K H0 F' H' cI ways G9/\Own K H0 F' H' cI row Yj/\(cL cI).rep K F' choices zL) ?_ ?_ ?_ ?_ ?_
    ·exact⟨_,rfl,⟨X,(Same.refl _)⟩,Ag,Al,kF⟩
    ·rintro F1 ⟨left,choices⟩ σ_ F_ H_ ⟨zL,rfl,⟨X_,SF_⟩,Ag,Al,kF⟩;exact⟨X_,SF_⟩
    ·rintro⟨left,choices⟩ σ_ F H ⟨zL,rfl,⟨X,SF_⟩,Ag,Al,kF⟩;exact(qc (jy zj (jbQ (i:=5) rfl) (Uw (jZ (p:=pD (κ:=Int) cI) (i:=2) rfl Ag.b) (jy kN (jbQ (i:=4) rfl) (jy Y3 (jp _) (jf zA (jS (qx (jZ (p:=pF (cL cI)) (i:=6) rfl kF))) (jp _) rfl) rfl) rfl) rfl) rfl))
    ·rintro⟨left,choices⟩ B_ σ_ F_ H_ F H ⟨zL,rfl,⟨X,SF_⟩,Ag,Al,kF⟩ E Hm
     try dsimp only at Hm
     have SL1:=SF_;replace X:=Ext.trans X E;replace Ag:=Ag.mono E;replace Al:=Al.mono E;replace kF:=E.xc kF;replace SL1:=E.xd SL1;refine(qt (K:=K) (jy kN (eI (i:=5)) (Uw (jZ (p:=pD (κ:=Int) cI) (i:=2) rfl Ag.b) (jy kN (eI (i:=4)) (jy Y3 (jp _) (jf zA (jS (qx (eV (i:=6) kF))) (jp _) rfl) rfl) rfl) rfl) rfl) X Hm ?_);intro left F H Hm E X;replace Ag:=Ag.mono E;replace Al:=Al.mono E;replace kF:=E.xc kF;replace SL1:=E.xd SL1;refine(JQ (K:=K) (c:=(cL cI)) (xh (Ga (jS (qx (eV (i:=6) kF))) (qU (jp _) rfl) GH rfl)) X Hm ?_);intro choices zL F H Hm E X kF;replace Ag:=Ag.mono E;replace Al:=Al.mono E;replace SL1:=E.xd SL1;cases Hm;exact⟨F,_,rfl,⟨X,SL1⟩,Ag,Al,kF⟩
    ·rintro⟨left,choices⟩ σ_ F_ H_ F H ⟨zL,rfl,⟨X,SF_⟩,Ag,Al,kF⟩ E Hm
     try dsimp only at Hm
     replace SL0:=Same.trans SL0 SF_;replace X:=Ext.trans X E;replace Ag:=Ag.mono E;replace Al:=Al.mono E;replace kF:=E.xc kF;replace SL0:=E.xd SL0;refine(jig (K:=K) (i:=3) rfl Al (jf zA (jS (qx (eV (i:=6) kF))) (jp _) rfl) X Hm ?_);intro row F H Hm Cg X Al;replace Ag:=OwnD.chg Ag Cg xo;replace kF:=Cd.mono _ Cg.f kF;replace SL0:=Same.trans SL0 Cg.f;refine(Ge (K:=K) (jy kN (eI (i:=4)) (jy Y3 (jp _) (jf zA (jS (qx (eV (i:=6) kF))) (jp _) rfl) rfl) rfl) X Hm ?_);intro ahead F H Hm E X;replace Ag:=Ag.mono E;replace Al:=Al.mono E;replace SL0:=E.xd SL0;cases Hm;exact⟨F,_,_,rfl,⟨X,SL0⟩,Ag,Al,xo⟩
   ·rintro⟨row,ahead,left⟩ σ_ F_ H_ F H ⟨Yj,w3_,rfl,⟨X,SF_⟩,Ag,Al,xo⟩ E Hm
    try dsimp only at Hm
    have Vf:=Ne.symm xo;replace X:=Ext.trans X E;replace Al:=Al.mono E;exact jB (K:=K) (jk jaW (jS (jZ (p:=pB cI) (i:=3) rfl Al.b)) rfl) X Hm Kk
def WA:FnScope ["self"] ["self"] (jh ((jx (top 21) 4))):=scK
def WB (B:BiX P w K mg base) (Aa:Ab K mg ja) (Fn:Fun K "covers" "Order.covers" ((jx (top 21) 4)) f fd):FnOk P w K mg base CX0 1 f fd ["self"] (sp1 K (pF (jl ja)) (rO (cP cI cI)) zt):=by
  refine(ok1 Fn WA fun cdv A outer s H0 Q E_ hr nd hu self xI Fe R X jt Hm Kk=>?_);refine⟨_,(jg (jv (cY JO B.list_ (j3 (pv 0) rfl)))),?_⟩
  try dsimp only[jQ]
  unfold zt at Hm;replace jt:(jl ja).rep K Fe self xI:=jt;exact jB (K:=K) (jk jb8 (js (yd Aa) (eV (i:=0) jt) rfl) rfl) X Hm Kk
def ZL:FnScope ["order","words","low","high"] ["order"] (jh (top 66)):=scK
def ZM (B:BiX P w K mg base) (Aa:Ab K mg ja) (Fn:Fun K "order_text" "order_text" (top 66) f fd) (jA:qm P w K mg base ja) (GM:Mth P w K mg base ja "covers" 1 ["self"] (sp1 K (pF (jl ja)) (rO (cP cI cI)) zt)):FnOk P w K mg base CX0 2 f fd ["order"] (sp1 K (pF (jl ja)) (rF cS) xR):=by
  refine(ok1 Fn ZL fun cdv A outer s H0 Q E_ hr nd hu order jz Fe R X jb Hm Kk=>?_);refine⟨_,(jd (pS (i:=1) nd (xM (jc (cY j2 B.str_ (yN jA (hr.mono (by decide)) (pv 0))) je))) (jd (xG PassesOwn.never rfl (qF (yN GM (hr.mono (by decide)) (pv 0))) (QO rfl (qd (pG (i:=2) nd) (qd (pG (i:=3) nd) GD))) (jg (qh (Gd Xv XT XS yM (pv 1) (jc (jcz (Yw (pv 2) (jg4 (Yw (pv 3) jg3)))) je))))) (jg (jv (Gd Xz PySem.F.slot_str_join PySem.F.type_str_join U2 kr (jc (pv 1) je)))))),?_⟩
  try dsimp only[jQ]
  unfold xR at Hm;replace jb:(jl ja).rep K Fe order jz:=jb;refine(JR (K:=K) (xO (GY (kO zC (kX kQ (eV (i:=0) jb) rfl) rfl) (xN (c:=cS)) rfl) (by decide)) X Hm ?_);intro words Vg F H Hm E X Hn Aq;replace jb:=E.xc jb;refine JK (K:=K) (c:=(cP cI cI)) ?_ X Hm (fun F1 words σ' F' H'=>∃ (Vg:Addr) (w4_:Option V) (w5_:Option V),σ'=[some jz,some (.ref Vg),w4_,w5_]/\(Ext Fe H0 F' H'/\Same F1 F')/\Own K H0 F' H' cS words Vg) ?_ ?_ ?_ ?_
  ·exact(V7 (xh (kX Wj (jZ (p:=pF (jl ja)) (i:=0) rfl jb) rfl)))
  ·intro F H E X;replace Aq:=Aq.mono E;exact⟨_,_,_,rfl,⟨X,(Same.refl _)⟩,Aq⟩
  ·rintro F1 words σ_ F_ H_ ⟨Vg,w4_,w5_,rfl,⟨X_,SF_⟩,Aq⟩;exact⟨X_,SF_⟩
  ·rintro F1 S0_ words B_ ⟨low,high⟩ Bh σ_ F_ H_ F H ⟨Vg,w4_,w5_,rfl,⟨X,SF_⟩,Aq⟩ E Be Hm
   try dsimp only at Hm
   have SL0:=SF_;replace X:=Ext.trans X E;replace Aq:=Aq.mono E;replace SL0:=E.xd SL0;refine jdL Be X.sub fun jal G6 jam G7=>?_;obtain rfl:jal=.int low:=jam;obtain rfl:G6=.int high:=G7;refine(JP (K:=K) (i:=1) rfl Aq (jcA (Yy (eI (i:=2)) (jg6 (Yy (eI (i:=3)) jg5))) rfl) X Hm ?_);intro words F H Hm Cg X Aq;replace SL0:=Same.trans SL0 Cg.f;cases Hm;exact⟨F,_,_,_,rfl,⟨X,SL0⟩,Aq⟩
  ·rintro F1 S0_ words σ_ F H Hm ⟨Vg,w4_,w5_,rfl,⟨X,SF_⟩,Aq⟩
   try dsimp only at Hm
   exact jB (K:=K) (Qz (ko _) (jS (jZ (p:=pB cS) (i:=1) rfl Aq.b)) rfl) X Hm Kk
def A8:FnScope ["self","order","bits","line","answer"] ["self","order","bits","line","answer"] (jh ((jx (top 94) 0))):=scK
def jbt (B:BiX P w K mg base) (Aa:Ab K mg ja) (Ad:Ah K mg ji) (Fn:Fun K "__init__" "Spot.__init__" ((jx (top 94) 0)) f fd):FnOk P w K mg base CX0 1 f fd ["self","order","bits","line","answer"] (jnP K ji (pF (jl ja)) (pF cI) (pF (cT cI)) (pF cS) (jT ja ji) qX):=by
 refine Fn.ok A8 (fun vs H Q E h=>?_) (fun cdv A outer s Hq vs Q E_ hr h=>?_)
 ·obtain⟨_,_,_,_,_,_,_,_,_,_,_,_,_,rfl,_⟩:=h;rfl
 ·obtain⟨order,bits,line,answer,jz,xV,QX,jjj,Fe,H0,x_self,dx_self,R,rfl,rfl,n1_,n2_,n3_,S_,jb,xW,kf,jjk,Hm,Kk⟩:=h;have nd:=A8.nd;have hu:=QK hr;refine⟨_,(jd (zz (pv 0) (pv 1) rfl) (jd (zz (pv 0) (pv 2) rfl) (jd (zz (pv 0) (pv 3) rfl) (jg (zz (pv 0) (pv 4) rfl))))),?_⟩
  try dsimp only[jQ]
  obtain⟨X,j0⟩:=yr (C:=ji) S_ n1_ n2_ n3_;unfold qX at Hm;replace jb:(jl ja).rep K Fe order jz:=jb;obtain rfl:xV=.int bits:=xW;replace kf:(cT cI).rep K Fe line QX:=kf;obtain rfl:jjj=.str answer:=jjk;refine(jcl (K:=K) (k':=0) (c:=(jl ja)) rfl j0 Ad.cl Ad.n_order (XG (Xe 0) (by decide:0<1000)) (eV (i:=1) jb) X Hm ?_);intro f_order Gz F H Hm Cg X kz j0;replace kf:=Cd.mono _ Cg.f kf;refine(jcl (K:=K) (k':=0) (c:=cI) rfl j0 Ad.cl Ad.n_bits (XG (GI (Xe 0)) (by decide:1<1000)) (eI (i:=2)) X Hm ?_);intro f_bits jde F H Hm Cg X jdf j0;replace kf:=Cd.mono _ Cg.f kf;replace kz:=Cd.mono _ Cg.f kz;obtain rfl:jde=.int f_bits:=jdf;refine(jcl (K:=K) (k':=0) (c:=(cT cI)) rfl j0 Ad.cl Ad.n_line (XG (GI (GI (Xe 0))) (by decide:2<1000)) (eV (i:=3) kf) X Hm ?_);intro f_line jlw F H Hm Cg X Ud j0;replace kz:=Cd.mono _ Cg.f kz;refine(Vq (K:=K) (k':=0) (c:=cS) rfl j0 Ad.cl Ad.n_answer (XG (GI (GI (GI (Xe 0)))) (by decide:3<1000)) (Qv (i:=4) rfl) X Hm ?_);intro f_answer jap F H Hm Cg X jaq j0;replace kz:=Cd.mono _ Cg.f kz;replace Ud:=Cd.mono _ Cg.f Ud;obtain rfl:jap=.str f_answer:=jaq;cases Hm;obtain⟨F',X',Cg,hx⟩:=OwnI.freeze j0 X;exact Kk F' H X' ⟨x_self,dx_self,_,_,_,_,rfl,hx,Cd.mono _ Cg.f kz,rfl,Cd.mono _ Cg.f Ud,rfl⟩
def ZN:FnScope ["order"] ["order"] (jh (top 97)):=scK
def ZO (B:BiX P w K mg base) (Aa:Ab K mg ja) (Ad:Ah K mg ji) (Fn:Fun K "with_order" "with_order" (top 97) f fd) (Ja:YI P w K mg base ja) (yF:UE P w K mg base ja) (xE:Qd P w K mg base ja ji):FnOk P w K mg base CX0 7 f fd ["order"] (sp1 K (pF (jl ja)) (rF (jT ja ji)) qu):=by
  refine(ok1 Fn ZN fun cdv A outer s H0 Q E_ hr nd hu order jz Fe R X jb Hm Kk=>?_);refine⟨_,(jg (jv (JF xE (hr.mono (by decide)) rfl (jc (pv 0) (jc jo (jc (pD_ Ja hr (jc (pv 0) (jc jo je))) (jc (pD_ yF hr (jc (pv 0) je)) je))))))),?_⟩
  try dsimp only[jQ]
  unfold qu at Hm;replace jb:(jl ja).rep K Fe order jz:=jb;exact jB (K:=K) (UY (eV (i:=0) jb) (jp _) (jr (eV (i:=0) jb) (jp _) rfl) (jC (eV (i:=0) jb) rfl) rfl) X Hm Kk
def A9:FnScope ["self"] ["self"] (jh ((jx (top 125) 0))):=scK
def jbu (B:BiX P w K mg base) (Aj:Ar K mg jW) (Aa:Ab K mg ja) (Ad:Ah K mg ji) (Fn:Fun K "__init__" "Desk.__init__" ((jx (top 125) 0)) f fd) (yG:UF P w K mg base ja) (qP:Jq P w K mg base ja ji):FnOk P w K mg base CX0 8 f fd ["self"] (jnY K jW (jT ja ji) m_Desk_init):=by
 refine Fn.ok A9 (fun vs H Q E h=>?_) (fun cdv A outer s Hq vs Q E_ hr h=>?_)
 ·obtain⟨_,_,_,_,_,rfl,_⟩:=h;rfl
 ·obtain⟨Fe,H0,x_self,dx_self,R,rfl,rfl,n1_,n2_,n3_,S_,Hm,Kk⟩:=h;have nd:=A9.nd;have hu:=QK hr;refine⟨_,(jd (zz (pv 0) (pD_ qP hr (jc (JF yG (hr.mono (by decide)) rfl (jc jo (jc (xM je) je))) je)) rfl) (jg (zz (pv 0) (xM je) rfl))),?_⟩
  try dsimp only[jQ]
  obtain⟨X,j0⟩:=yr (C:=jW) S_ n1_ n2_ n3_;unfold m_Desk_init at Hm;refine(jcl (K:=K) (k':=0) (c:=(jT ja ji)) rfl j0 Aj.cl Aj.n_spot (by decide:0<1000) (kU (JX (jp _) (kJ (xO (xN (c:=(cP cI cI))) (by decide))) rfl) rfl) X Hm ?_);intro f_spot jlx F H Hm Cg X jdg j0;refine(jiY (K:=K) (i:=0) rfl j0 jdg Aj.cl Aj.n_earlier (xO (xN (c:=(jT ja ji))) (by decide)) X Hm ?_);intro f_earlier F H Hm X xc;cases Hm;exact Kk F H X xc
def Q6:FnScope ["_law_a","_law_b","_law_pairs","_law_r","_law_c"] ["_law_a","_law_b"] (jh (top 128)):=scK
def Q7 (B:BiX P w K mg base) (Fn:Fun K "_law_field_pairs" "_law_field_pairs" (top 128) f fd):FnOk P w K mg base CX0 1 f fd ["_law_a","_law_b"] (sp2 K (pF cI) (pF cI) (rO (cP cI cI)) yX):=by
  refine(ok2 Fn Q6 fun cdv A outer s H0 Q E_ hr nd hu a_ b_ V_a_ V_b_ Fe R X P_a_ P_b_ Hm Kk=>?_);refine⟨_,(jd (pS (i:=2) nd (xM je)) (jd (xG PassesOwn.never rfl (kI rfl B.range_ (jc (pv 0) je)) (pG (i:=3) nd) (jg (xG PassesOwn.never rfl (kI rfl B.range_ (jc (pv 1) je)) (pG (i:=4) nd) (jd (jaV (xB (jP WZ (pv 4) jo (jX _)) (jg (qh (Gd Xv XT XS yM (pv 2) (jc (Gr (jc (jK Vn (jK yK (jK GT (pv 3) (pv 1)) (pv 4)) jo) (jc (jK yK (jK GT (pv 3) (pv 1)) (pv 4)) je))) je)))) ka)) (jg (jaV (xB (jP WZ (pv 3) jo (jX _)) (jg (qh (Gd Xv XT XS yM (pv 2) (jc (Gr (jc (jK Vn (jK yK (jK GT (pv 3) (pv 1)) (pv 4)) (pv 1)) (jc (jK yK (jK GT (pv 3) (pv 1)) (pv 4)) je))) je)))) ka))))))) (jg (jv (pv 2))))),?_⟩
  try dsimp only[jQ]
  unfold yX at Hm;obtain rfl:V_a_=.int a_:=P_a_;obtain rfl:V_b_=.int b_:=P_b_;refine(JR (K:=K) (xO (xN (c:=(cP cI cI))) (by decide)) X Hm ?_);intro pairs k0 F H Hm E X Hn Ae;refine JK (K:=K) (c:=cI) ?_ X Hm (fun F1 pairs σ' F' H'=>∃ (k0:Addr) (w1_:Option V) (w2_:Option V),σ'=[some (.int a_),some (.int b_),some (.ref k0),w1_,w2_]/\(Ext Fe H0 F' H'/\Same F1 F')/\Own K H0 F' H' (cP cI cI) pairs k0) ?_ ?_ ?_ ?_
  ·exact(qV (jbQ (i:=0) rfl) rfl)
  ·intro F H E X;replace Ae:=Ae.mono E;exact⟨_,_,_,rfl,⟨X,(Same.refl _)⟩,Ae⟩
  ·rintro F1 pairs σ_ F_ H_ ⟨k0,w1_,w2_,rfl,⟨X_,SF_⟩,Ae⟩;exact⟨X_,SF_⟩
  ·rintro F1 S0_ pairs B_ r_ V_r_ σ_ F_ H_ F H ⟨k0,w1_,w2_,rfl,⟨X,SF_⟩,Ae⟩ E P_r_ Hm
   try dsimp only at Hm
   have SL0:=SF_;replace SF_:=Same.trans S0_ SF_;replace X:=Ext.trans X E;replace Ae:=Ae.mono E;replace SL0:=E.xd SL0;obtain rfl:V_r_=.int r_:=P_r_;refine yf ?_;refine jaX (K:=K) (c:=cI) ?_ X Hm (fun F1 pairs σ' F' H'=>∃ (k0:Addr) (w3_:Option V),σ'=[some (.int a_),some (.int b_),some (.ref k0),some (.int r_),w3_]/\(Ext Fe H0 F' H'/\Same F1 F')/\Own K H0 F' H' (cP cI cI) pairs k0) ?_ ?_ ?_ ?_
   ·exact(qV (jbQ (i:=1) rfl) rfl)
   ·intro F H E X;replace Ae:=Ae.mono E;exact⟨_,_,rfl,⟨X,(Same.refl _)⟩,Ae⟩
   ·rintro F1 pairs σ_ F_ H_ ⟨k0,w3_,rfl,⟨X_,SF_⟩,Ae⟩;exact⟨X_,SF_⟩
   ·rintro F1 S0_ pairs B_ c_ V_c_ σ_ F_ H_ F H ⟨k0,w3_,rfl,⟨X,SF_⟩,Ae⟩ E P_c_ Hm
    try dsimp only at Hm
    have SL1:=SF_;replace SF_:=Same.trans S0_ SF_;replace X:=Ext.trans X E;replace Ae:=Ae.mono E;replace SL1:=E.xd SL1;obtain rfl:V_c_=.int c_:=P_c_;refine yf ?_;refine(jjH (K:=K) (fun pairs σ' H'=>∃ F':Hp,∃ (k0:Addr) ,σ'=[some (.int a_),some (.int b_),some (.ref k0),some (.int r_),some (.int c_)]/\(Ext Fe H0 F' H'/\Same F F')/\Own K H0 F' H' (cP cI cI) pairs k0) (qc (jf zj (eI (i:=4)) (jp _) rfl)) X Hm ?_ ?_ ?_)
    ·intro B_ F H Hm E X;replace Ae:=Ae.mono E;have SJ2:=E.f;refine(JP (K:=K) (i:=2) rfl Ae (Us (jy kN (jy kN (jf VB (eI (i:=3)) (eI (i:=1)) rfl) (eI (i:=4)) rfl) (jp _) rfl) (jy kN (jf VB (eI (i:=3)) (eI (i:=1)) rfl) (eI (i:=4)) rfl) rfl) X Hm ?_);intro pairs F H Hm Cg X Ae;replace SJ2:=Same.trans SJ2 Cg.f;cases Hm;exact⟨F,_,rfl,⟨X,SJ2⟩,Ae⟩
    ·intro B_ F H Hm E X;replace Ae:=Ae.mono E;have SJ2:=E.f;refine Jf ?_;cases Hm;exact⟨F,_,rfl,⟨X,SJ2⟩,Ae⟩
    ·rintro pairs σ_ H Hm ⟨F,k0,rfl,⟨X,SF_⟩,Ae⟩
     try dsimp only at Hm
     replace SL1:=Same.trans SL1 SF_;refine(jb_ (K:=K) (fun pairs σ' H'=>∃ F':Hp,∃ (k0:Addr) ,σ'=[some (.int a_),some (.int b_),some (.ref k0),some (.int r_),some (.int c_)]/\(Ext Fe H0 F' H'/\Same F F')/\Own K H0 F' H' (cP cI cI) pairs k0) (qc (jf zj (eI (i:=3)) (jp _) rfl)) X Hm ?_ ?_ ?_)
     ·intro B_ F H Hm E X;replace Ae:=Ae.mono E;have SJ2:=E.f;refine(JP (K:=K) (i:=2) rfl Ae (Us (jy kN (jy kN (jf VB (eI (i:=3)) (eI (i:=1)) rfl) (eI (i:=4)) rfl) (eI (i:=1)) rfl) (jy kN (jf VB (eI (i:=3)) (eI (i:=1)) rfl) (eI (i:=4)) rfl) rfl) X Hm ?_);intro pairs F H Hm Cg X Ae;replace SJ2:=Same.trans SJ2 Cg.f;cases Hm;exact⟨F,_,rfl,⟨X,SJ2⟩,Ae⟩
     ·intro B_ F H Hm E X;replace Ae:=Ae.mono E;have SJ2:=E.f;refine Jf ?_;cases Hm;exact⟨F,_,rfl,⟨X,SJ2⟩,Ae⟩
     ·rintro pairs σ_ H Hm ⟨F,k0,rfl,⟨X,SF_⟩,Ae⟩
      try dsimp only at Hm
      replace SL1:=Same.trans SL1 SF_;cases Hm;exact⟨F,_,_,rfl,⟨X,SL1⟩,Ae⟩
   ·rintro F1 S0_ pairs σ_ F H Hm ⟨k0,w3_,rfl,⟨X,SF_⟩,Ae⟩
    try dsimp only at Hm
    replace SF_:=Same.trans S0_ SF_;replace SL0:=Same.trans SL0 SF_;cases Hm;exact⟨F,_,_,_,rfl,⟨X,SL0⟩,Ae⟩
  ·rintro F1 S0_ pairs σ_ F H Hm ⟨k0,w1_,w2_,rfl,⟨X,SF_⟩,Ae⟩
   try dsimp only at Hm
   exact Y7 (K:=K) (i:=2) rfl Ae X Hm Kk
def ZP:FnScope ["_law_many","_law_pairs"] ["_law_many","_law_pairs"] (jh (top 133)):=scK
def ZQ (B:BiX P w K mg base) (Fn:Fun K "_law_shown" "_law_shown" (top 133) f fd):FnOk P w K mg base CX0 1 f fd ["_law_many","_law_pairs"] (sp2 K (pF cI) (pB (cP cI cI)) (rF cS) J6):=by
  refine(ok2 Fn ZP fun cdv A outer s H0 Q E_ hr nd hu many pairs UM xn Fe R X QW jL Hm Kk=>?_);refine⟨_,(jg (jv (Gd Xz PySem.F.slot_str_join PySem.F.type_str_join U2 kr (jc (jK V0 (xM (jc (cY j2 B.str_ (pv 0)) je)) (k9 (own:=["_law_low","_law_high"]) (ix:=[]) (qD rfl) rfl (qF (kB jbc B.sorted_ (pv 1))) (fun _=>(QO rfl (qd (kA (i:=0) (show List.Nodup (["_law_low","_law_high"]:List Str) by decide +kernel) rfl (Or.inl rfl)) (qd (kA (i:=1) (show List.Nodup (["_law_low","_law_high"]:List Str) by decide +kernel) rfl (Or.inl rfl)) GD)))) (fun _=>xg) (fun _=>(jcz (Yw (pv 0) (jg4 (Yw (pv 1) jg3))))))) je)))),?_⟩
  try dsimp only[jQ]
  unfold J6 at Hm;obtain rfl:UM=.int many:=QW;have jE:Bor K H0 Fe (cP cI cI) pairs xn:=jL;clear jL;exact jB (K:=K) (Qz (ko _) (jS (kJ (jy jb9 (kJ (xO (GY (jk zC (eI (i:=0)) rfl) (xN (c:=cS)) rfl) (by decide))) (kJ (jcj (yP (jS (kJ (jk jg1 (jS (jZ (p:=pB (cP cI cI)) (i:=1) rfl (Bor.b jE X))) rfl)))) [] rfl (fun b4 low high _ _ E3=>yq) (fun b4 low high _ _ E3=>(jcA (Yy (eI (i:=0)) (jg6 (Yy (eI (i:=1)) jg5))) rfl)) rfl)) rfl))) rfl) X Hm Kk
def A0:FnScope ["self"] ["self"] (jh ((jx (top 125) 2))):=scK
def W8 (B:BiX P w K mg base) (Aj:Ar K mg jW) (Aa:Ab K mg ja) (Ad:Ah K mg ji) (Fn:Fun K "undone" "Desk.undone" ((jx (top 125) 2)) f fd):FnOk P w K mg base CX0 1 f fd ["self"] (spK K jW (jT ja ji) csN cS (fun D z=>yY D)):=by
 refine Fn.ok A0 (fun vs H Q E h=>?_) (fun cdv A outer s Hq vs Q E_ hr h=>?_)
 ·obtain⟨_,_,_,_,_,_,_,rfl,_,_,hd_,_⟩:=h;obtain rfl:=hd_;rfl
 ·obtain⟨self,z_,jni,ws_,Fe,H0,R,rfl,X,xc,hd_,Hm,Kk⟩:=JZ h;obtain rfl:=hd_
  try dsimp only at Hm
  have nd:=A0.nd;have hu:=QK hr;refine⟨_,(jd (xB (jP GU (kB jw B.len_ (j3 (pv 0) rfl)) jo (jX _)) (jg qL) ka) (jd (zz (pv 0) (jju Xv PySem.F.slot_list_pop PySem.F.type_list_pop jmc (j3 (pv 0) rfl)) rfl) (jg (jv kr)))),?_⟩
  try dsimp only[jQ]
  unfold yY at Hm;refine(Ur (K:=K) (qc (jf UV (jk xi (jS (jlf (i:=0) rfl xc Aj.cl Aj.n_earlier)) rfl) (jp _) rfl)) X Hm ?_ ?_)
  ·intro F H Hc Hm E X;replace xc:=OwnK.mono xc E;cases Hm
  ·intro F H Hc Hm E X;replace xc:=OwnK.mono xc E;refine Jf ?_;refine(jmZ (K:=K) (i:=0) rfl xc Aj.cl Aj.n_spot Aj.n_earlier X Hm ?_);intro self H Hm X xc;exact J1 (K:=K) (QB xc X (ko _)) Hm Kk
def ZR:FnScope ["spot"] ["spot"] (jh (top 113)):=scK
def ZS (B:BiX P w K mg base) (Aa:Ab K mg ja) (Ad:Ah K mg ji) (Fn:Fun K "told_order" "told_order" (top 113) f fd) (yF:UE P w K mg base ja):FnOk P w K mg base CX0 3 f fd ["spot"] (sp1 K (pF (jT ja ji)) (rF cS) yw):=by
  refine(ok1 Fn ZR fun cdv A outer s H0 Q E_ hr nd hu spot k6 Fe R X jq Hm Kk=>?_);refine⟨_,(jg (jv (pD_ yF hr (jc (j3 (pv 0) rfl) je)))),?_⟩
  try dsimp only[jQ]
  unfold yw at Hm;replace jq:(jT ja ji).rep K Fe spot k6:=jq;exact jB (K:=K) (jC (js (jU Ad) (eV (i:=0) jq) rfl) rfl) X Hm Kk
def jcV:FnScope ["order"] ["order"] (jh (top 32)):=scK
def jcW (B:BiX P w K mg base) (Aa:Ab K mg ja) (Fn:Fun K "how_many" "how_many" (top 32) f fd) (qK:Jp P w K mg base ja):FnOk P w K mg base CX0 5 f fd ["order"] (sp1 K (pF (jl ja)) (rF cI) G2):=by
  refine(ok1 Fn jcV fun cdv A outer s H0 Q E_ hr nd hu order jz Fe R X jb Hm Kk=>?_);refine⟨_,(jg (jv (kB jw B.len_ (pD_ qK hr (jc (pv 0) je))))),?_⟩
  try dsimp only[jQ]
  unfold G2 at Hm;replace jb:(jl ja).rep K Fe order jz:=jb;exact jB (K:=K) (kO xi (jS (kJ (jC (eV (i:=0) jb) rfl))) rfl) X Hm Kk
def U9:FnScope ["order"] ["order"] (jh (top 44)):=scK
def U_ (B:BiX P w K mg base) (Aa:Ab K mg ja) (Fn:Fun K "how_many_lines" "how_many_lines" (top 44) f fd) (G_:YH P w K mg base ja):FnOk P w K mg base CX0 6 f fd ["order"] (sp1 K (pF (jl ja)) (rF cI) yh):=by
  refine(ok1 Fn U9 fun cdv A outer s H0 Q E_ hr nd hu order jz Fe R X jb Hm Kk=>?_);refine⟨_,(jg (jv (U0 (hu1 hu) (pD_ G_ hr (jc (pv 0) je)) jo (fun _ _=>rfl)))),?_⟩
  try dsimp only[jQ]
  unfold yh at Hm;replace jb:(jl ja).rep K Fe order jz:=jb;exact jB (K:=K) (Uw (jmO (jC (eV (i:=0) jb) rfl)) (jp _) rfl) X Hm Kk
def W9:FnScope ["values"] ["values"] (jh (top 96)):=scK
def W_ (B:BiX P w K mg base) (Fn:Fun K "with_blanks" "with_blanks" (top 96) f fd):FnOk P w K mg base CX0 1 f fd ["values"] (sp1 K (pB cI) (rF cS) xZ):=by
  refine(ok1 Fn W9 fun cdv A outer s H0 Q E_ hr nd hu values jar Fe R X UN Hm Kk=>?_);refine⟨_,(jg (jv (Gd Xz PySem.F.slot_str_join PySem.F.type_str_join U2 kr (jc (k9 (own:=["value"]) (ix:=[]) (qD rfl) rfl (qF (pv 0)) (fun _=>(kA (i:=0) (show List.Nodup (["value"]:List Str) by decide +kernel) rfl (Or.inl rfl))) (fun _=>xg) (fun _=>(cY j2 B.str_ (pv 0)))) je)))),?_⟩
  try dsimp only[jQ]
  unfold xZ at Hm;have jas:Bor K H0 Fe cI values jar:=UN;clear UN;exact jB (K:=K) (Qz (ko _) (jS (kJ (xP (yP (jS (jZ (p:=pB cI) (i:=0) rfl (Bor.b jas X)))) [] rfl (fun b2 value _ _ E1=>yq) (fun b2 value _ _ E1=>(jk zC (eI (i:=0)) rfl)) rfl))) rfl) X Hm Kk
def Ya:FnScope ["spot"] ["spot"] (jh (top 114)):=scK
def Yb (B:BiX P w K mg base) (Aa:Ab K mg ja) (Ad:Ah K mg ji) (Fn:Fun K "told_counts" "told_counts" (top 114) f fd) (Vh:Def P w K mg base "how_many" 5 ["order"] (sp1 K (pF (jl ja)) (rF cI) G2)) (zN:Def P w K mg base "how_many_lines" 6 ["order"] (sp1 K (pF (jl ja)) (rF cI) yh)) (qp:GL P w K mg base):FnOk P w K mg base CX0 7 f fd ["spot"] (sp1 K (pF (jT ja ji)) (rF cS) kK):=by
  refine(ok1 Fn Ya fun cdv A outer s H0 Q E_ hr nd hu spot k6 Fe R X jq Hm Kk=>?_);refine⟨_,(jg (jv (pD_ qp hr (jc (xM (jc (pD_ Vh hr (jc (j3 (pv 0) rfl) je)) (jc (pD_ zN hr (jc (j3 (pv 0) rfl) je)) je))) je)))),?_⟩
  try dsimp only[jQ]
  unfold kK at Hm;replace jq:(jT ja ji).rep K Fe spot k6:=jq;exact jB (K:=K) (kU (kJ (xO (GY (jC (js (jU Ad) (eV (i:=0) jq) rfl) rfl) (GY (jC (js (jU Ad) (eV (i:=0) jq) rfl) rfl) (xN (c:=cI)) rfl) rfl) (by decide))) rfl) X Hm Kk
def A3:FnScope ["self","order"] ["self","order"] (jh ((jx (top 86) 0))):=scK
def ZT (B:BiX P w K mg base) (Ap:Au K mg kC) (Aa:Ab K mg ja) (Fn:Fun K "__init__" "Turn.__init__" ((jx (top 86) 0)) f fd):FnOk P w K mg base CX0 1 f fd ["self","order"] (jis K kC (pF (jl ja)) (QT ja kC) xv):=by
 refine Fn.ok A3 (fun vs H Q E h=>?_) (fun cdv A outer s Hq vs Q E_ hr h=>?_)
 ·obtain⟨_,_,_,_,_,_,_,rfl,_⟩:=h;rfl
 ·obtain⟨order,jz,Fe,H0,x_self,dx_self,R,rfl,rfl,n1_,n2_,n3_,S_,jb,Hm,Kk⟩:=h;have nd:=A3.nd;have hu:=QK hr;refine⟨_,(jg (zz (pv 0) (pv 1) rfl)),?_⟩
  try dsimp only[jQ]
  obtain⟨X,j0⟩:=yr (C:=kC) S_ n1_ n2_ n3_;unfold xv at Hm;replace jb:(jl ja).rep K Fe order jz:=jb;refine(Vq (K:=K) (k':=0) (c:=(jl ja)) rfl j0 Ap.cl Ap.n_order (XG (Xe 0) (by decide:0<1000)) (eV (i:=1) jb) X Hm ?_);intro f_order Gz F H Hm Cg X kz j0;cases Hm;obtain⟨F',X',Cg,hx⟩:=OwnI.freeze j0 X;exact Kk F' H X' ⟨x_self,dx_self,_,rfl,hx,Cd.mono _ Cg.f kz⟩
def VE:FnScope ["order","bits"] ["order","bits"] (jh (top 27)):=scK
def VF (B:BiX P w K mg base) (Aa:Ab K mg ja) (Fn:Fun K "check_downset" "check_downset" (top 27) f fd) (yE:UD P w K mg base ja):FnOk P w K mg base CX0 4 f fd ["order","bits"] (sp2 K (pF (jl ja)) (pF cI) (rF cU) xl):=by
  refine(ok2 Fn VE fun cdv A outer s H0 Q E_ hr nd hu order bits jz xV Fe R X jb xW Hm Kk=>?_);refine⟨_,(jg (xB (JC (GR (pD_ yE hr (jc (pv 0) (jc (pv 1) je))))) (jg qL) ka)),?_⟩
  try dsimp only[jQ]
  unfold xl at Hm;replace jb:(jl ja).rep K Fe order jz:=jb;obtain rfl:xV=.int bits:=xW;refine(jia (K:=K) (Qw (zR (jr (eV (i:=0) jb) (eI (i:=1)) rfl)) rfl) X Hm ?_ ?_)
  ·intro F H Hm E X
   try dsimp only[wc] at Hm
   cases Hm
  ·intro F H Hm E X
   try dsimp only[X7] at Hm
   refine Jf ?_;cases Hm;exact Kk _ F H X rfl
def jhz:FnScope ["things","bits","thing"] ["things"] (jh (top 24)):=scK
def jhA (B:BiX P w K mg base) (Fn:Fun K "set_of" "set_of" (top 24) f fd):FnOk P w K mg base CX0 1 f fd ["things"] (sp1 K (pB cI) (rF cI) QD):=by
  refine(ok1 Fn jhz fun cdv A outer s H0 Q E_ hr nd hu zc GA Fe R X yj Hm Kk=>?_);refine⟨_,(jd (pS (i:=1) nd jo) (jd (xG PassesOwn.never rfl (qF (pv 0)) (pG (i:=2) nd) (jg (pS (i:=1) nd (jK VV (pv 1) (jK Um jo (pv 2)))))) (jg (jv (pv 1))))),?_⟩
  try dsimp only[jQ]
  unfold QD at Hm;have qQ:Bor K H0 Fe cI zc GA:=yj;clear yj;refine(qt (K:=K) (jp _) X Hm ?_);intro bits F H Hm E X;replace qQ:=E.xb qQ;refine jce (K:=K) (c:=cI) ?_ X Hm (fun F1 bits σ' F' H'=>∃ (w1_:Option V),σ'=[some GA,some (.int bits),w1_]/\(Ext Fe H0 F' H'/\Same F1 F')) ?_ ?_ ?_ ?_
  ·exact(jf2 (i:=0) rfl qQ)
  ·intro F H E X;exact⟨_,rfl,⟨X,(Same.refl _)⟩⟩
  ·rintro F1 bits σ_ F_ H_ ⟨w1_,rfl,⟨X_,SF_⟩⟩;exact⟨X_,SF_⟩
  ·rintro F1 S0_ bits B_ thing q_ σ_ F_ H_ F H ⟨w1_,rfl,⟨X,SF_⟩⟩ E xa Hm
   try dsimp only at Hm
   have SL0:=SF_;replace X:=Ext.trans X E;replace SL0:=E.xd SL0;obtain rfl:q_=.int thing:=xa;refine yf ?_;refine(Ge (K:=K) (jy kN (eI (i:=1)) (jf Y3 (jp _) (eI (i:=2)) rfl) rfl) X Hm ?_);intro bits F H Hm E X;replace SL0:=E.xd SL0;cases Hm;exact⟨F,_,rfl,⟨X,SL0⟩⟩
  ·rintro F1 S0_ bits σ_ F H Hm ⟨w1_,rfl,⟨X,SF_⟩⟩
   try dsimp only at Hm
   exact jB (K:=K) (eI (i:=1)) X Hm Kk
def jjb:FnScope ["order","bits"] ["order","bits"] (jh (top 30)):=scK
def jjc (B:BiX P w K mg base) (Aa:Ab K mg ja) (Fn:Fun K "doors" "doors" (top 30) f fd) (xp:JH P w K mg base ja) (jA:qm P w K mg base ja) (G8:YG P w K mg base ja) (jat:Def P w K mg base "set_of" 1 ["things"] (sp1 K (pB cI) (rF cI) QD)):FnOk P w K mg base CX0 5 f fd ["order","bits"] (sp2 K (pF (jl ja)) (pF cI) (rF cI) U7):=by
  refine(ok2 Fn jjb fun cdv A outer s H0 Q E_ hr nd hu order bits jz xV Fe R X jb xW Hm Kk=>?_);refine⟨_,(jd (qh (pD_ xp hr (jc (pv 0) (jc (pv 1) je)))) (jg (jv (pD_ jat hr (jc (k9 (own:=["thing"]) (ix:=[0,1]) (qD rfl) rfl (kI rfl B.range_ (jc (yN jA (hr.mono (by decide)) (pv 0)) je)) (fun _=>(kA (i:=0) (show List.Nodup (["thing","order","bits"]:List Str) by decide +kernel) rfl (Or.inl rfl))) (fun _=>GG (GR (pD_ G8 hr (jc (pv 1) (jc (pv 2) (jc (pv 0) je)))))) (fun _=>(pv 0))) je))))),?_⟩
  try dsimp only[jQ]
  unfold U7 at Hm;replace jb:(jl ja).rep K Fe order jz:=jb;obtain rfl:xV=.int bits:=xW;refine(JS (K:=K) (jr (eV (i:=0) jb) (eI (i:=1)) rfl) X Hm ?_);intro _ F H Hm E X;replace jb:=E.xc jb;exact jB (K:=K) (kU (kJ (qy (JU (kX kQ (eV (i:=0) jb) rfl) rfl) [some jz,some (.int bits)] rfl (fun b3 thing _ _ E2=>(zR (JW (eV (i:=1) (Cd.mono _ (E2).f jb)) (eI (i:=2)) (eI (i:=0)) rfl))) (fun b3 thing _ _ E2=>(eI (i:=0))) rfl)) rfl) X Hm Kk
def ZU:FnScope ["order","bits","entered","turned","thing"] ["order","bits"] (jh (top 81)):=scK
def ZV (B:BiX P w K mg base) (Aa:Ab K mg ja) (Fn:Fun K "great_turn" "great_turn" (top 81) f fd) (jdh:Def P w K mg base "doors" 5 ["order","bits"] (sp2 K (pF (jl ja)) (pF cI) (rF cI) U7)) (kh:yD P w K mg base):FnOk P w K mg base CX0 6 f fd ["order","bits"] (sp2 K (pF (jl ja)) (pF cI) (rF cI) zF):=by
  refine(ok2 Fn ZU fun cdv A outer s H0 Q E_ hr nd hu order bits jz xV Fe R X jb xW Hm Kk=>?_);refine⟨_,(jd (pS (i:=2) nd (pD_ jdh hr (jc (pv 0) (jc (pv 1) je)))) (jd (pS (i:=3) nd (pv 2)) (jd (xG PassesOwn.never rfl (qF (pD_ kh hr (jc (pv 2) je))) (pG (i:=4) nd) (jg (pS (i:=3) nd (jK VV (pv 3) (pX zQ (j3 (pv 0) rfl) (pv 4)))))) (jg (jv (pv 3)))))),?_⟩
  try dsimp only[jQ]
  unfold zF at Hm;replace jb:(jl ja).rep K Fe order jz:=jb;obtain rfl:xV=.int bits:=xW;refine(qt (K:=K) (jr (eV (i:=0) jb) (eI (i:=1)) rfl) X Hm ?_);intro entered F H Hm E X;replace jb:=E.xc jb;refine(qt (K:=K) (eI (i:=2)) X Hm ?_);intro turned F H Hm E X;replace jb:=E.xc jb;refine JK (K:=K) (c:=cI) ?_ X Hm (fun F1 turned σ' F' H'=>∃ (w1_:Option V),σ'=[some jz,some (.int bits),some (.int entered),some (.int turned),w1_]/\(Ext Fe H0 F' H'/\Same F1 F')) ?_ ?_ ?_ ?_
  ·exact(V7 (xh (jC (jbQ (i:=2) rfl) rfl)))
  ·intro F H E X;exact⟨_,rfl,⟨X,(Same.refl _)⟩⟩
  ·rintro F1 turned σ_ F_ H_ ⟨w1_,rfl,⟨X_,SF_⟩⟩;exact⟨X_,SF_⟩
  ·rintro F1 S0_ turned B_ thing q_ σ_ F_ H_ F H ⟨w1_,rfl,⟨X,SF_⟩⟩ E xa Hm
   try dsimp only at Hm
   have SL0:=SF_;replace SF_:=Same.trans S0_ SF_;replace jb:=Cd.mono _ SF_ jb;replace X:=Ext.trans X E;replace jb:=E.xc jb;replace SL0:=E.xd SL0;obtain rfl:q_=.int thing:=xa;refine yf ?_;refine(Ge (K:=K) (jy kN (eI (i:=3)) (jf VC (js (xj Aa) (eV (i:=0) jb) rfl) (eI (i:=4)) rfl) rfl) X Hm ?_);intro turned F H Hm E X;replace SL0:=E.xd SL0;cases Hm;exact⟨F,_,rfl,⟨X,SL0⟩⟩
  ·rintro F1 S0_ turned σ_ F H Hm ⟨w1_,rfl,⟨X,SF_⟩⟩
   try dsimp only at Hm
   exact jB (K:=K) (eI (i:=3)) X Hm Kk
def ZW:FnScope ["self","one"] ["self","one"] (jh ((jx (top 87) 0))):=scK
def ZX (B:BiX P w K mg base) (Ap:Au K mg kC) (Aa:Ab K mg ja) (Fn:Fun K "done" "Great.done" ((jx (top 87) 0)) f fd) (Qg:Def P w K mg base "great_turn" 6 ["order","bits"] (sp2 K (pF (jl ja)) (pF cI) (rF cI) zF)):FnOk P w K mg base CX0 7 f fd ["self","one"] (sp2 K (pF (QT ja kC)) (pF cI) (rF cI) qa):=by
  refine(ok2 Fn ZW fun cdv A outer s H0 Q E_ hr nd hu self one xI Jb Fe R X jt kG Hm Kk=>?_);refine⟨_,(jg (jv (pD_ Qg hr (jc (j3 (pv 0) rfl) (jc (pv 1) je))))),?_⟩
  try dsimp only[jQ]
  unfold qa at Hm;replace jt:(QT ja kC).rep K Fe self xI:=jt;obtain rfl:Jb=.int one:=kG;exact jB (K:=K) (jr (js (Wm Ap) (eV (i:=0) jt) rfl) (eI (i:=1)) rfl) X Hm Kk
def jcX:FnScope ["turn","one","circle","following"] ["turn","one"] (jh (top 63)):=scK
def jcY (B:BiX P w K mg base) (Ap:Au K mg kC) (Aa:Ab K mg ja) (Fn:Fun K "round_of" "round_of" (top 63) f fd) (xX:UG P w K mg base kC ja):FnOk P w K mg base CX0 8 f fd ["turn","one"] (sp2 K (pF (QT ja kC)) (pF cI) (rO cI) QE):=by
  refine(ok2 Fn jcX fun cdv A outer s H0 Q E_ hr nd hu turn one jj5 Jb Fe R X yc kG Hm Kk=>?_);refine⟨_,(jd (pS (i:=2) nd (xM (jc (pv 1) je))) (jd (pS (i:=3) nd (qE xX (hr.mono (by decide)) (pv 0) (jc (pv 1) je))) (jd (Jd PassesOwn.never (jP QH (pv 3) (pv 1) (jX _)) (jd (qh (Gd Xv XT XS yM (pv 2) (jc (pv 3) je))) (jg (pS (i:=3) nd (qE xX (hr.mono (by decide)) (pv 0) (jc (pv 3) je)))))) (jg (jv (pv 2)))))),?_⟩
  try dsimp only[jQ]
  unfold QE at Hm;replace yc:(QT ja kC).rep K Fe turn jj5:=yc;obtain rfl:Jb=.int one:=kG;refine(JR (K:=K) (xO (qS (eI (i:=1)) (xN (c:=cI)) rfl) (by decide)) X Hm ?_);intro circle Ju F H Hm E X Hn qR;replace yc:=E.xc yc;refine(qt (K:=K) (xt Jj (eV (i:=0) yc) (eI (i:=1)) rfl) X Hm ?_);intro following F H Hm E X;replace yc:=E.xc yc;replace qR:=qR.mono E;refine Q3 (K:=K) X Hm (fun F1 b σ' F' H'=>match b with | (circle,following)=>∃ (Ju:Addr),σ'=[some jj5,some (.int one),some (.ref Ju),some (.int following)]/\(Ext Fe H0 F' H'/\Same F1 F')/\Own K H0 F' H' cI circle Ju) ?_ ?_ ?_ ?_ ?_
  ·exact⟨_,rfl,⟨X,(Same.refl _)⟩,qR⟩
  ·rintro F1 ⟨circle,following⟩ σ_ F_ H_ ⟨Ju,rfl,⟨X_,SF_⟩,qR⟩;exact⟨X_,SF_⟩
  ·rintro⟨circle,following⟩ σ_ F H ⟨Ju,rfl,⟨X,SF_⟩,qR⟩;exact(qc (jf jb6 (jbQ (i:=3) rfl) (jbQ (i:=1) rfl) rfl))
  ·rintro⟨circle,following⟩ B_ σ_ F_ H_ F H ⟨Ju,rfl,⟨X,SF_⟩,qR⟩ E Hm
   try dsimp only at Hm
   have SL0:=SF_;replace yc:=Cd.mono _ SF_ yc;replace X:=Ext.trans X E;replace yc:=E.xc yc;replace qR:=qR.mono E;replace SL0:=E.xd SL0;refine(jeC (K:=K) (k':=2) rfl qR (eI (i:=3)) X Hm ?_);intro circle F H Hm Cg X qR;replace yc:=Cd.mono _ Cg.f yc;replace SL0:=Same.trans SL0 Cg.f;refine(Ge (K:=K) (xt Jj (eV (i:=0) yc) (eI (i:=3)) rfl) X Hm ?_);intro following F H Hm E X;replace qR:=qR.mono E;replace SL0:=E.xd SL0;cases Hm;exact⟨F,_,rfl,⟨X,SL0⟩,qR⟩
  ·rintro⟨circle,following⟩ σ_ F_ H_ F H ⟨Ju,rfl,⟨X,SF_⟩,qR⟩ E Hm
   try dsimp only at Hm
   replace X:=Ext.trans X E;replace qR:=qR.mono E;exact Y7 (K:=K) (i:=2) rfl qR X Hm Kk
def Yc:FnScope ["spot"] ["spot"] (jh (top 111)):=scK
def Yd (B:BiX P w K mg base) (Ap:Au K mg kC) (Aa:Ab K mg ja) (Ad:Ah K mg ji) (Fn:Fun K "great_round" "great_round" (top 111) f fd) (yH:UH P w K mg base kC ja) (Vi:Def P w K mg base "round_of" 8 ["turn","one"] (sp2 K (pF (QT ja kC)) (pF cI) (rO cI) QE)):FnOk P w K mg base CX0 9 f fd ["spot"] (sp1 K (pF (jT ja ji)) (rO cI) xC):=by
  refine(ok1 Fn Yc fun cdv A outer s H0 Q E_ hr nd hu spot k6 Fe R X jq Hm Kk=>?_);refine⟨_,(jg (jv (pD_ Vi hr (jc (JF yH (hr.mono (by decide)) rfl (jc (j3 (pv 0) rfl) je)) (jc (j3 (pv 0) rfl) je))))),?_⟩
  try dsimp only[jQ]
  unfold xC at Hm;replace jq:(jT ja ji).rep K Fe spot k6:=jq;exact jB (K:=K) (jY (yt (js (jU Ad) (eV (i:=0) jq) rfl) rfl) (js (Ji Ad) (eV (i:=0) jq) rfl) rfl) X Hm Kk
def ZY:FnScope ["spot"] ["spot"] (jh (top 116)):=scK
def ZZ (B:BiX P w K mg base) (Aa:Ab K mg ja) (Ad:Ah K mg ji) (Fn:Fun K "told_round" "told_round" (top 116) f fd) (ya:QU P w K mg base ja ji):FnOk P w K mg base CX0 10 f fd ["spot"] (sp1 K (pF (jT ja ji)) (rF cS) xw):=by
  refine(ok1 Fn ZY fun cdv A outer s H0 Q E_ hr nd hu spot k6 Fe R X jq Hm Kk=>?_);refine⟨_,(jg (jv (cY j2 B.str_ (kB jw B.len_ (pD_ ya hr (jc (pv 0) je)))))),?_⟩
  try dsimp only[jQ]
  unfold xw at Hm;replace jq:(jT ja ji).rep K Fe spot k6:=jq;exact jB (K:=K) (kO zC (kO xi (jS (kJ (jC (eV (i:=0) jq) rfl))) rfl) rfl) X Hm Kk
def Q8:FnScope ["one","other","first","second","rest"] ["one","other"] (jh (top 36)):=scK
def Q9 (B:BiX P w K mg base) (Fn:Fun K "greatest_divisor" "greatest_divisor" (top 36) f fd):FnOk P w K mg base CX0 1 f fd ["one","other"] (sp2 K (pF cI) (pF cI) (rF cI) qe):=by
  refine(ok2 Fn Q8 fun cdv A outer s H0 Q E_ hr nd hu one other Jb Vj Fe R X kG Jv Hm Kk=>?_);refine⟨_,(jd (pS (i:=2) nd (kB jds B.abs_ (pv 0))) (jd (pS (i:=3) nd (kB jds B.abs_ (pv 1))) (jd (Jd PassesOwn.never (jP WZ (pv 3) jo (jX _)) (jd (pS (i:=4) nd (jK JD (pv 2) (pv 3))) (jd (pS (i:=2) nd (pv 3)) (jg (pS (i:=3) nd (pv 4)))))) (jg (jv (pv 2)))))),?_⟩
  try dsimp only[jQ]
  unfold qe at Hm;obtain rfl:Jb=.int one:=kG;obtain rfl:Vj=.int other:=Jv;refine(qt (K:=K) (jk jmA (eI (i:=0)) rfl) X Hm ?_);intro first F H Hm E X;refine(qt (K:=K) (jk jmA (eI (i:=1)) rfl) X Hm ?_);intro second F H Hm E X;refine Q3 (K:=K) X Hm (fun F1 b σ' F' H'=>match b with | (first,second)=>∃ (w1_:Option V),σ'=[some (.int one),some (.int other),some (.int first),some (.int second),w1_]/\(Ext Fe H0 F' H'/\Same F1 F')) ?_ ?_ ?_ ?_ ?_
  ·exact⟨_,rfl,⟨X,(Same.refl _)⟩⟩
  ·rintro F1 ⟨first,second⟩ σ_ F_ H_ ⟨w1_,rfl,⟨X_,SF_⟩⟩;exact⟨X_,SF_⟩
  ·rintro⟨first,second⟩ σ_ F H ⟨w1_,rfl,⟨X,SF_⟩⟩;exact(qc (jf zj (jbQ (i:=3) rfl) (jp _) rfl))
  ·rintro⟨first,second⟩ B_ σ_ F_ H_ F H ⟨w1_,rfl,⟨X,SF_⟩⟩ E Hm
   try dsimp only at Hm
   have SL0:=SF_;replace X:=Ext.trans X E;replace SL0:=E.xd SL0;refine(qt (K:=K) (jf Y2 (eI (i:=2)) (eI (i:=3)) rfl) X Hm ?_);intro rest_ F H Hm E X;replace SL0:=E.xd SL0;refine(qt (K:=K) (eI (i:=3)) X Hm ?_);intro first F H Hm E X;replace SL0:=E.xd SL0;refine(Ge (K:=K) (eI (i:=4)) X Hm ?_);intro second F H Hm E X;replace SL0:=E.xd SL0;cases Hm;exact⟨F,_,rfl,⟨X,SL0⟩⟩
  ·rintro⟨first,second⟩ σ_ F_ H_ F H ⟨w1_,rfl,⟨X,SF_⟩⟩ E Hm
   try dsimp only at Hm
   replace X:=Ext.trans X E;exact jB (K:=K) (eI (i:=2)) X Hm Kk
def Az:FnScope ["self","top","bottom","shared","divisor"] ["self","top","bottom"] (jh ((jx (top 37) 0))):=scK
def VG (B:BiX P w K mg base) (Ak:Ao K mg jN) (Fn:FunD K "__init__" "Fraction.__init__" ((jx (top 37) 0)) f fd) (zf:Def P w K mg base "greatest_divisor" 1 ["one","other"] (sp2 K (pF cI) (pF cI) (rF cI) qe)):FnOk P w K mg base CX0 2 f fd ["self","top","bottom"] (jlL K jN (pF cI) (pF cI) (xQ jN) xm):=by
 refine Fn.ok Az (fun vs H Q E h=>?_) (fun cdv A outer s Hq vs Q E_ hr h=>?_)
 ·obtain⟨_,_,_,_,_,_,_,_,_,rfl,_⟩:=h;rfl
 ·obtain⟨top,bottom,jly,jau,Fe,H0,x_self,dx_self,R,rfl,rfl,n1_,n2_,n3_,S_,jlz,jav,Hm,Kk⟩:=h;have nd:=Az.nd;have hu:=QK hr;refine⟨_,(jd (xB (jP GU (pv 2) jo (jX _)) (jg qL) ka) (jd (pS (i:=3) nd (pD_ zf hr (jc (pv 1) (jc (pv 2) je)))) (jd (pS (i:=4) nd (Uk (jP WY (pv 2) jo (jX _)) (jaG VW (pv 3)) (pv 3))) (jd (zz (pv 0) (jK Gs (pv 1) (pv 4)) rfl) (jg (zz (pv 0) (jK Gs (pv 2) (pv 4)) rfl)))))),?_⟩
  try dsimp only[jQ]
  obtain⟨X,j0⟩:=yr (C:=jN) S_ n1_ n2_ n3_;unfold xm at Hm;obtain rfl:jly=.int top:=jlz;obtain rfl:jau=.int bottom:=jav;refine(Ur (K:=K) (qc (jf UV (eI (i:=2)) (jp _) rfl)) X Hm ?_ ?_)
  ·intro F H Hc Hm E X;replace j0:=OwnI.mono j0 E;cases Hm
  ·intro F H Hc Hm E X;replace j0:=OwnI.mono j0 E;refine Jf ?_;refine(qt (K:=K) (jr (eI (i:=1)) (eI (i:=2)) rfl) X Hm ?_);intro shared F H Hm E X;replace j0:=OwnI.mono j0 E;refine(qt (K:=K) (JT (qc (jf zj (eI (i:=2)) (jp _) rfl)) (zB o_u (eI (i:=3)) rfl) (eI (i:=3)) rfl) X Hm ?_);intro divisor F H Hm E X;replace j0:=OwnI.mono j0 E;refine(jcl (K:=K) (k':=0) (c:=cI) rfl j0 Ak.cl Ak.n_top (XG (Xe 0) (by decide:0<1000)) (jf jb5 (eI (i:=1)) (eI (i:=4)) rfl) X Hm ?_);intro f_top jfj F H Hm Cg X jfk j0;obtain rfl:jfj=.int f_top:=jfk;refine(Vq (K:=K) (k':=0) (c:=cI) rfl j0 Ak.cl Ak.n_bottom (XG (GI (Xe 0)) (by decide:1<1000)) (jf jb5 (eI (i:=2)) (eI (i:=4)) rfl) X Hm ?_);intro f_bottom jaw F H Hm Cg X jax j0;obtain rfl:jaw=.int f_bottom:=jax;cases Hm;obtain⟨F',X',Cg,hx⟩:=OwnI.freeze j0 X;exact Kk F' H X' ⟨x_self,dx_self,_,_,rfl,hx,rfl,rfl⟩
def jlp:FnScope ["numbers"] ["numbers"] (jh (top 38)):=scK
def jlq (B:BiX P w K mg base) (Ak:Ao K mg jN) (Fn:Fun K "mean" "mean" (top 38) f fd) (Go:Kls P w K mg base "Fraction" jN 2 ["self","top","bottom"] (jlL K jN (pF cI) (pF cI) (xQ jN) xm)):FnOk P w K mg base CX0 4 f fd ["numbers"] (sp1 K (pB cI) (rF (xQ jN)) jd8):=by
  refine(ok1 Fn jlp fun cdv A outer s H0 Q E_ hr nd hu numbers jbM Fe R X j8 Hm Kk=>?_);refine⟨_,(jg (jv (JF Go (hr.mono (by decide)) rfl (jc (kB (Up rfl) B.sum_ (pv 0)) (jc (kB jw B.len_ (pv 0)) je))))),?_⟩
  try dsimp only[jQ]
  unfold jd8 at Hm;have jbN:Bor K H0 Fe cI numbers jbM:=j8;clear j8;exact jB (K:=K) (JX (jk jf9 (jS (jZ (p:=pB cI) (i:=0) rfl (Bor.b jbN X))) rfl) (jk xi (jS (jZ (p:=pB cI) (i:=0) rfl (Bor.b jbN X))) rfl) rfl) X Hm Kk
def Va:FnScope ["self","top","bottom"] ["self"] (jh ((jx (top 37) 2))):=scK
def Vb (B:BiX P w K mg base) (Ak:Ao K mg jN) (Fn:Fun K "shown" "Fraction.shown" ((jx (top 37) 2)) f fd):FnOk P w K mg base CX0 1 f fd ["self"] (sp1 K (pF (xQ jN)) (rF cS) yi):=by
  refine(ok1 Fn Va fun cdv A outer s H0 Q E_ hr nd hu self xI Fe R X jt Hm Kk=>?_);refine⟨_,(jd (pS (i:=1) nd (j3 (pv 0) rfl)) (jd (pS (i:=2) nd (j3 (pv 0) rfl)) (jg (jv (Uk (jP GU (pv 2) jo (jX _)) (cY j2 B.str_ (pv 1)) (jcz (Yw (pv 1) (jg4 (Yw (pv 2) jg3))))))))),?_⟩
  try dsimp only[jQ]
  unfold yi at Hm;replace jt:(xQ jN).rep K Fe self xI:=jt;refine(qt (K:=K) (js (VD Ak) (eV (i:=0) jt) rfl) X Hm ?_);intro top F H Hm E X;replace jt:=E.xc jt;refine(qt (K:=K) (js (Q5 Ak) (eV (i:=0) jt) rfl) X Hm ?_);intro bottom F H Hm E X;exact jB (K:=K) (JT (qc (jf UV (eI (i:=2)) (jp _) rfl)) (jk zC (eI (i:=1)) rfl) (jcA (Yy (eI (i:=1)) (jg6 (Yy (eI (i:=2)) jg5))) rfl) rfl) X Hm Kk
def jbv:FnScope ["sets"] ["sets"] (jh (top 112)):=scK
def jbw (B:BiX P w K mg base) (Ak:Ao K mg jN) (Fn:Fun K "mean_size" "mean_size" (top 112) f fd) (kh:yD P w K mg base) (jhE:Def P w K mg base "mean" 4 ["numbers"] (sp1 K (pB cI) (rF (xQ jN)) jd8)) (zO:Mth P w K mg base jN "shown" 1 ["self"] (sp1 K (pF (xQ jN)) (rF cS) yi)):FnOk P w K mg base CX0 5 f fd ["sets"] (sp1 K (pB cI) (rF cS) Gj):=by
  refine(ok1 Fn jbv fun cdv A outer s H0 Q E_ hr nd hu sets jnj Fe R X jj6 Hm Kk=>?_);refine⟨_,(jg (jv (yN zO (hr.mono (by decide)) (pD_ jhE hr (jc (k9 (own:=["bits"]) (ix:=[]) (qD rfl) rfl (qF (pv 0)) (fun _=>(kA (i:=0) (show List.Nodup (["bits"]:List Str) by decide +kernel) rfl (Or.inl rfl))) (fun _=>xg) (fun _=>(kB jw B.len_ (pD_ kh hr (jc (pv 0) je))))) je))))),?_⟩
  try dsimp only[jQ]
  unfold Gj at Hm;have jnk:Bor K H0 Fe cI sets jnj:=jj6;clear jj6;exact jB (K:=K) (jeM U5 (kU (kJ (xP (yP (jS (jZ (p:=pB cI) (i:=0) rfl (Bor.b jnk X)))) [] rfl (fun b2 bits _ _ E1=>yq) (fun b2 bits _ _ E1=>(kO xi (jS (kJ (jC (eI (i:=0)) rfl))) rfl)) rfl)) rfl) rfl) X Hm Kk
def jlr:FnScope ["order","bits","covered","thing"] ["order","bits"] (jh (top 28)):=scK
def jls (B:BiX P w K mg base) (Aa:Ab K mg ja) (Fn:Fun K "brim" "brim" (top 28) f fd) (xp:JH P w K mg base ja) (kh:yD P w K mg base):FnOk P w K mg base CX0 5 f fd ["order","bits"] (sp2 K (pF (jl ja)) (pF cI) (rF cI) YB):=by
  refine(ok2 Fn jlr fun cdv A outer s H0 Q E_ hr nd hu order bits jz xV Fe R X jb xW Hm Kk=>?_);refine⟨_,(jd (qh (pD_ xp hr (jc (pv 0) (jc (pv 1) je)))) (jd (pS (i:=2) nd jo) (jd (xG PassesOwn.never rfl (qF (pD_ kh hr (jc (pv 1) je))) (pG (i:=3) nd) (jg (pS (i:=2) nd (jK VV (pv 2) (pX zQ (j3 (pv 0) rfl) (pv 3)))))) (jg (jv (jK jfy (pv 1) (jaG jl5 (pv 2)))))))),?_⟩
  try dsimp only[jQ]
  unfold YB at Hm;replace jb:(jl ja).rep K Fe order jz:=jb;obtain rfl:xV=.int bits:=xW;refine(JS (K:=K) (jr (eV (i:=0) jb) (eI (i:=1)) rfl) X Hm ?_);intro _ F H Hm E X;replace jb:=E.xc jb;refine(qt (K:=K) (jp _) X Hm ?_);intro covered F H Hm E X;replace jb:=E.xc jb;refine JK (K:=K) (c:=cI) ?_ X Hm (fun F1 covered σ' F' H'=>∃ (w1_:Option V),σ'=[some jz,some (.int bits),some (.int covered),w1_]/\(Ext Fe H0 F' H'/\Same F1 F')) ?_ ?_ ?_ ?_
  ·exact(V7 (xh (jC (jbQ (i:=1) rfl) rfl)))
  ·intro F H E X;exact⟨_,rfl,⟨X,(Same.refl _)⟩⟩
  ·rintro F1 covered σ_ F_ H_ ⟨w1_,rfl,⟨X_,SF_⟩⟩;exact⟨X_,SF_⟩
  ·rintro F1 S0_ covered B_ thing q_ σ_ F_ H_ F H ⟨w1_,rfl,⟨X,SF_⟩⟩ E xa Hm
   try dsimp only at Hm
   have SL0:=SF_;replace SF_:=Same.trans S0_ SF_;replace jb:=Cd.mono _ SF_ jb;replace X:=Ext.trans X E;replace jb:=E.xc jb;replace SL0:=E.xd SL0;obtain rfl:q_=.int thing:=xa;refine yf ?_;refine(Ge (K:=K) (jy kN (eI (i:=2)) (jf VC (js (xj Aa) (eV (i:=0) jb) rfl) (eI (i:=3)) rfl) rfl) X Hm ?_);intro covered F H Hm E X;replace SL0:=E.xd SL0;cases Hm;exact⟨F,_,rfl,⟨X,SL0⟩⟩
  ·rintro F1 S0_ covered σ_ F H Hm ⟨w1_,rfl,⟨X,SF_⟩⟩
   try dsimp only at Hm
   exact jB (K:=K) (jf kN (eI (i:=1)) (zB o_u (eI (i:=2)) rfl) rfl) X Hm Kk
def VH:FnScope ["values"] ["values"] (jh (top 96)):=scK
def VI (B:BiX P w K mg base) (Fn:Fun K "with_blanks" "with_blanks" (top 96) f fd):FnOk P w K mg base CX0 1 f fd ["values"] (sp1 K (pB cS) (rF cS) yZ):=by
  refine(ok1 Fn VH fun cdv A outer s H0 Q E_ hr nd hu values jar Fe R X UN Hm Kk=>?_);refine⟨_,(jg (jv (Gd Xz PySem.F.slot_str_join PySem.F.type_str_join U2 kr (jc (k9 (own:=["value"]) (ix:=[]) (qD rfl) rfl (qF (pv 0)) (fun _=>(kA (i:=0) (show List.Nodup (["value"]:List Str) by decide +kernel) rfl (Or.inl rfl))) (fun _=>xg) (fun _=>(cY jbg B.str_ (pv 0)))) je)))),?_⟩
  try dsimp only[jQ]
  unfold yZ at Hm;have jas:Bor K H0 Fe cS values jar:=UN;clear UN;exact jB (K:=K) (Qz (ko _) (jS (kJ (JV (yP (jS (jZ (p:=pB cS) (i:=0) rfl (Bor.b jas X)))) [] rfl (fun b2 value jlA _ _ E1 jhF=>yq) (fun b2 value jlA _ _ E1 jhF=>(jk jm1 (eV (i:=0) jhF) rfl)) rfl))) rfl) X Hm Kk
def jbx:FnScope ["spot","circle"] ["spot"] (jh (top 117)):=scK
def jby (B:BiX P w K mg base) (Aa:Ab K mg ja) (Ad:Ah K mg ji) (Fn:Fun K "told_mean" "told_mean" (top 117) f fd) (ya:QU P w K mg base ja ji) (Jw:Def P w K mg base "mean_size" 5 ["sets"] (sp1 K (pB cI) (rF cS) Gj)) (jhG:Def P w K mg base "brim" 5 ["order","bits"] (sp2 K (pF (jl ja)) (pF cI) (rF cI) YB)) (Gp:Def P w K mg base "with_blanks" 1 ["values"] (sp1 K (pB cS) (rF cS) yZ)):FnOk P w K mg base CX0 10 f fd ["spot"] (sp1 K (pF (jT ja ji)) (rF cS) xS):=by
  refine(ok1 Fn jbx fun cdv A outer s H0 Q E_ hr nd hu spot k6 Fe R X jq Hm Kk=>?_);refine⟨_,(jd (pS (i:=1) nd (pD_ ya hr (jc (pv 0) je))) (jg (jv (pD_ Gp hr (jc (xM (jc (pD_ Jw hr (jc (pv 1) je)) (jc (pD_ Jw hr (jc (k9 (own:=["bits"]) (ix:=[0]) (qD rfl) rfl (qF (pv 1)) (fun _=>(kA (i:=0) (show List.Nodup (["bits","spot"]:List Str) by decide +kernel) rfl (Or.inl rfl))) (fun _=>xg) (fun _=>(pD_ jhG hr (jc (j3 (pv 1) rfl) (jc (pv 0) je))))) je)) je))) je))))),?_⟩
  try dsimp only[jQ]
  unfold xS at Hm;replace jq:(jT ja ji).rep K Fe spot k6:=jq;refine(yQ (K:=K) (c:=(cL cI)) (xh (jC (eV (i:=0) jq) rfl)) X Hm ?_);intro circle jnA F H Hm E X jef;replace jq:=E.xc jq;exact jB (K:=K) (kU (kJ (xO (GY (jC (qx (eV (i:=1) jef)) rfl) (GY (kU (kJ (xP (yP (jS (qx (eV (i:=1) jef)))) [some k6] rfl (fun b2 bits _ _ E1=>yq) (fun b2 bits _ _ E1=>(jr (js (jU Ad) (eV (i:=1) (Cd.mono _ (E1).f jq)) rfl) (eI (i:=0)) rfl)) rfl)) rfl) (xN (c:=cS)) rfl) rfl) (by decide))) rfl) X Hm Kk
def je9:FnScope ["order","counts","bits","many"] ["order"] (jh (top 58)):=scK
def je_ (B:BiX P w K mg base) (Aa:Ab K mg ja) (Fn:Fun K "by_size" "by_size" (top 58) f fd) (jA:qm P w K mg base ja) (qK:Jp P w K mg base ja) (kh:yD P w K mg base):FnOk P w K mg base CX0 5 f fd ["order"] (sp1 K (pF (jl ja)) (rO cI) J7):=by
  refine(ok1 Fn je9 fun cdv A outer s H0 Q E_ hr nd hu order jz Fe R X jb Hm Kk=>?_);refine⟨_,(jd (pS (i:=1) nd (jK jfO (xM (jc jo je)) (jK yK (yN jA (hr.mono (by decide)) (pv 0)) jo))) (jd (xG PassesOwn.never rfl (qF (pD_ qK hr (jc (pv 0) je))) (pG (i:=2) nd) (jd (pS (i:=3) nd (kB jw B.len_ (pD_ kh hr (jc (pv 2) je)))) (jg (Yk (jK yK (pX k8 (pv 1) (pv 3)) jo) (jft (pv 1) (pv 3) YT))))) (jg (jv (pv 1))))),?_⟩
  try dsimp only[jQ]
  unfold J7 at Hm;replace jb:(jl ja).rep K Fe order jz:=jb;refine(JR (K:=K) (jy jkX (kJ (xO (qS (jp _) (xN (c:=cI)) rfl) (by decide))) (jy kN (kX kQ (eV (i:=0) jb) rfl) (jp _) rfl) rfl) X Hm ?_);intro counts QF F H Hm E X Hn Am;replace jb:=E.xc jb;refine JK (K:=K) (c:=cI) ?_ X Hm (fun F1 counts σ' F' H'=>∃ (QF:Addr) (w5_:Option V) (w6_:Option V),σ'=[some jz,some (.ref QF),w5_,w6_]/\(Ext Fe H0 F' H'/\Same F1 F')/\Own K H0 F' H' cI counts QF) ?_ ?_ ?_ ?_
  ·exact(V7 (xh (jC (jZ (p:=pF (jl ja)) (i:=0) rfl jb) rfl)))
  ·intro F H E X;replace Am:=Am.mono E;exact⟨_,_,_,rfl,⟨X,(Same.refl _)⟩,Am⟩
  ·rintro F1 counts σ_ F_ H_ ⟨QF,w5_,w6_,rfl,⟨X_,SF_⟩,Am⟩;exact⟨X_,SF_⟩
  ·rintro F1 S0_ counts B_ bits xV σ_ F_ H_ F H ⟨QF,w5_,w6_,rfl,⟨X,SF_⟩,Am⟩ E xW Hm
   try dsimp only at Hm
   have SL0:=SF_;replace X:=Ext.trans X E;replace Am:=Am.mono E;replace SL0:=E.xd SL0;obtain rfl:xV=.int bits:=xW;refine yf ?_;refine(qt (K:=K) (kO xi (jS (kJ (jC (eI (i:=2)) rfl))) rfl) X Hm ?_);intro many F H Hm E X;replace Am:=Am.mono E;replace SL0:=E.xd SL0;refine(jga (K:=K) (k':=1) rfl Am (jy kN (jf zA (jS (jZ (p:=pB cI) (i:=1) rfl Am.b)) (eI (i:=3)) rfl) (jp _) rfl) (eI (i:=3)) X Hm ?_);intro counts F H Hm Cg X Am;replace SL0:=Same.trans SL0 Cg.f;cases Hm;exact⟨F,_,_,_,rfl,⟨X,SL0⟩,Am⟩
  ·rintro F1 S0_ counts σ_ F H Hm ⟨QF,w5_,w6_,rfl,⟨X,SF_⟩,Am⟩
   try dsimp only at Hm
   exact Y7 (K:=K) (i:=1) rfl Am X Hm Kk
def Z0:FnScope ["spot"] ["spot"] (jh (top 118)):=scK
def Z1 (B:BiX P w K mg base) (Aa:Ab K mg ja) (Ad:Ah K mg ji) (Fn:Fun K "told_sizes" "told_sizes" (top 118) f fd) (WL:Def P w K mg base "by_size" 5 ["order"] (sp1 K (pF (jl ja)) (rO cI) J7)) (qp:GL P w K mg base):FnOk P w K mg base CX0 6 f fd ["spot"] (sp1 K (pF (jT ja ji)) (rF cS) xx):=by
  refine(ok1 Fn Z0 fun cdv A outer s H0 Q E_ hr nd hu spot k6 Fe R X jq Hm Kk=>?_);refine⟨_,(jg (jv (pD_ qp hr (jc (pD_ WL hr (jc (j3 (pv 0) rfl) je)) je)))),?_⟩
  try dsimp only[jQ]
  unfold xx at Hm;replace jq:(jT ja ji).rep K Fe spot k6:=jq;exact jB (K:=K) (kU (kJ (jC (js (jU Ad) (eV (i:=0) jq) rfl) rfl)) rfl) X Hm Kk
def VJ:FnScope ["counts"] ["counts"] (jh (top 60)):=scK
def VL (B:BiX P w K mg base) (Fn:Fun K "one_fall_more" "one_fall_more" (top 60) f fd):FnOk P w K mg base CX0 1 f fd ["counts"] (sp1 K (pB cI) (rO cI) xT):=by
  refine(ok1 Fn VJ fun cdv A outer s H0 Q E_ hr nd hu counts QG Fe R X ju Hm Kk=>?_);refine⟨_,(jg (jv (jK V0 (xM (jc jo je)) (zp UT (pv 0) GE (GF (jaG VW jo)))))),?_⟩
  try dsimp only[jQ]
  unfold xT at Hm;have jjl:Bor K H0 Fe cI counts QG:=ju;clear ju;exact jB (K:=K) (jf jb9 (kJ (xO (qS (jp _) (xN (c:=cI)) rfl) (by decide))) (kJ (Ga (jS (jZ (p:=pB cI) (i:=0) rfl (Bor.b jjl X))) GH (qU (zB o_u (jp _) rfl) rfl) rfl)) rfl) X Hm Kk
def jjd:FnScope ["one","other"] ["one","other"] (jh (top 59)):=scK
def jje (B:BiX P w K mg base) (Fn:Fun K "added" "added" (top 59) f fd):FnOk P w K mg base CX0 1 f fd ["one","other"] (sp2 K (pB cI) (pB cI) (rO cI) Wp):=by
  refine(ok2 Fn jjd fun cdv A outer s H0 Q E_ hr nd hu one other Jb Vj Fe R X kG Jv Hm Kk=>?_);refine⟨_,(jg (jv (k9 (own:=["place"]) (ix:=[0,1]) (qD rfl) rfl (kI rfl B.range_ (jc (kB jw B.len_ (pv 0)) je)) (fun _=>(kA (i:=0) (show List.Nodup (["place","one","other"]:List Str) by decide +kernel) rfl (Or.inl rfl))) (fun _=>xg) (fun _=>(jK yK (pX k8 (pv 1) (pv 0)) (pX k8 (pv 2) (pv 0))))))),?_⟩
  try dsimp only[jQ]
  unfold Wp at Hm;have jnl:Bor K H0 Fe cI one Jb:=kG;clear kG;have jlB:Bor K H0 Fe cI other Vj:=Jv;clear Jv;exact jB (K:=K) (qy (Gf (jk xi (jS (jZ (p:=pB cI) (i:=0) rfl (Bor.b jnl X))) rfl) rfl) [some Jb,some Vj] rfl (fun b2 place _ _ E1=>yq) (fun b2 place _ _ E1=>(jy kN (jf zA (jS (jZ (p:=pB cI) (i:=1) rfl (Bor.b (Bor.mono jnl (E1).f) (Ext.trans X (E1))))) (eI (i:=0)) rfl) (jf zA (jS (jZ (p:=pB cI) (i:=2) rfl (Bor.b (Bor.mono jlB (E1).f) (Ext.trans X (E1))))) (eI (i:=0)) rfl) rfl)) rfl) X Hm Kk
def jcZ:FnScope ["order","nothing","begun","place","longer","ahead","last","counts","thing","grown","more"] ["order"] (jh (top 61)):=scK
def jc0 (B:BiX P w K mg base) (Aa:Ab K mg ja) (Fn:Fun K "by_falls" "by_falls" (top 61) f fd) (jA:qm P w K mg base ja) (qo:GK P w K mg base ja) (Gq:Def P w K mg base "one_fall_more" 1 ["counts"] (sp1 K (pB cI) (rO cI) xT)) (jdi:Def P w K mg base "added" 1 ["one","other"] (sp2 K (pB cI) (pB cI) (rO cI) Wp)):FnOk P w K mg base CX0 4 f fd ["order"] (sp1 K (pF (jl ja)) (rO cI) G3):=by
  refine(ok1 Fn jcZ fun cdv A outer s H0 Q E_ hr nd hu order jz Fe R X jb Hm Kk=>?_);refine⟨_,(jd (pS (i:=1) nd (jK jfO (xM (jc jo je)) (yN jA (hr.mono (by decide)) (pv 0)))) (jd (jdZ (i:=2) nd rfl (Or.inr rfl) (jiN (fl:=Kt.fl (Int×Int)) (hu1 hu) (Gr (jc jo (jc (jaG VW jo) je))) (jK V0 (xM (jc jo je)) (zp UT (pv 1) (GF jo) GE)))) (jd (xG PassesOwn.never rfl (kI rfl B.range_ (jc (yN jA (hr.mono (by decide)) (pv 0)) je)) (pG (i:=3) nd) (jd (pS (i:=4) nd (jiD (fl:=Kt.fl (Int×Int)))) (jd (xG PassesOwn.never rfl (jmS (pv 2)) (QO rfl (qd (pG (i:=5) nd) (qd (pG (i:=6) nd) GD))) (jd (pS (i:=7) nd (U0 (hu1 hu) (pv 2) (Gr (jc (pv 5) (jc (pv 6) je))) (fun _ _=>rfl))) (jg (xG PassesOwn.never rfl (qF (pD_ qo hr (jc (pv 0) (jc (pv 5) je)))) (pG (i:=8) nd) (jd (pS (i:=9) nd (Gr (jc (jK VV (pv 5) (jK Um jo (pv 8))) (jc (pv 8) je)))) (jd (pS (i:=10) nd (Uk (jP WZ (pv 6) (pv 8) (jX _)) (pD_ Gq hr (jc (pv 7) je)) (pv 7))) (jg (jgO (hu1 hu) (pv 4) (pv 9) (pD_ jdi hr (jc (jiE (hu1 hu) (pv 4) (pv 9) (pv 1) ⟨rfl,rfl,rfl,rfl⟩) (jc (pv 10) je))) rfl)))))))) (jg (jdZ (i:=2) nd rfl (Or.inr rfl) (pv 4)))))) (jg (jv (k9 (own:=["falls"]) (ix:=[2]) (qD rfl) rfl (kI rfl B.range_ (jc (yN jA (hr.mono (by decide)) (pv 0)) je)) (fun _=>(kA (i:=0) (show List.Nodup (["falls","begun"]:List Str) by decide +kernel) rfl (Or.inr rfl))) (fun _=>xg) (fun _=>(kB (Up rfl) B.sum_ (k9 (own:=["counts"]) (ix:=[0]) (qD rfl) rfl (jk9 (pv 1)) (fun _=>(kA (i:=0) (show List.Nodup (["counts","falls"]:List Str) by decide +kernel) rfl (Or.inl rfl))) (fun _=>xg) (fun _=>(pX k8 (pv 0) (pv 1)))))))))))),?_⟩
  try dsimp only[jQ]
  unfold G3 at Hm;replace jb:(jl ja).rep K Fe order jz:=jb;refine(yQ (K:=K) (c:=(cL cI)) (xh (jy jkX (kJ (xO (qS (jp _) (xN (c:=cI)) rfl) (by decide))) (kX kQ (eV (i:=0) jb) rfl) rfl)) X Hm ?_);intro nothing WM F H Hm E X jG;replace jb:=E.xc jb;refine(jk4 (K:=K) (jeS (qT (jp _) (zB o_u (jp _) rfl) rfl) (xh (jf jb9 (kJ (xO (qS (jp _) (xN (c:=cI)) rfl) (by decide))) (kJ (Ga (jS (qx (eV (i:=1) jG))) (qU (jp _) rfl) GH rfl)) rfl)) rfl) X Hm ?_);intro begun GN F H Hm E X kd;replace jb:=E.xc jb;replace jG:=E.xc jG;refine JK (K:=K) (c:=cI) ?_ X Hm (fun F1 begun σ' F' H'=>∃ (GN:V) (w6_:Option V) (w7_:Option V) (w8_:Option V) (w9_:Option V) (w10_:Option V) (w11_:Option V) (w12_:Option V) (w13_:Option V),σ'=[some jz,some WM,some GN,w6_,w7_,w8_,w9_,w10_,w11_,w12_,w13_]/\(Ext Fe H0 F' H'/\Same F1 F')/\(cFD (κ:=(Int×Int)) (cL cI)).rep K F' begun GN) ?_ ?_ ?_ ?_
  ·exact(jgp (kX kQ (jZ (p:=pF (jl ja)) (i:=0) rfl jb) rfl) rfl)
  ·intro F H E X;replace kd:=E.xc kd;exact⟨_,_,_,_,_,_,_,_,_,rfl,⟨X,(Same.refl _)⟩,kd⟩
  ·rintro F1 begun σ_ F_ H_ ⟨GN,w6_,w7_,w8_,w9_,w10_,w11_,w12_,w13_,rfl,⟨X_,SF_⟩,kd⟩;exact⟨X_,SF_⟩
  ·rintro F1 S0_ begun B_ place WN σ_ F_ H_ F H ⟨GN,w6_,w7_,w8_,w9_,w10_,w11_,w12_,w13_,rfl,⟨X,SF_⟩,kd⟩ E WO Hm
   try dsimp only at Hm
   have SL0:=SF_;replace SF_:=Same.trans S0_ SF_;replace jb:=Cd.mono _ SF_ jb;replace jG:=Cd.mono _ SF_ jG;replace X:=Ext.trans X E;replace jb:=E.xc jb;replace jG:=E.xc jG;replace kd:=E.xc kd;replace SL0:=E.xd SL0;obtain rfl:WN=.int place:=WO;refine yf ?_;refine(jk3 (K:=K) (jiO (κ:=(Int×Int)) (c:=(cL cI))) X Hm ?_);intro longer yk F H Hm E X Hn Ai;replace jb:=E.xc jb;replace jG:=E.xc jG;replace kd:=E.xc kd;replace SL0:=E.xd SL0;refine jce (K:=K) (c:=(cP cI cI)) ?_ X Hm (fun F1 longer σ' F' H'=>∃ (yk:Addr) (w14_:Option V) (w15_:Option V) (w16_:Option V) (w17_:Option V) (w18_:Option V) (w19_:Option V),σ'=[some jz,some WM,some GN,some (.int place),some (.ref yk),w14_,w15_,w16_,w17_,w18_,w19_]/\(Ext Fe H0 F' H'/\Same F1 F')/\OwnDT K H0 F' H' (cL cI) longer yk) ?_ ?_ ?_ ?_
   ·exact(jeT (jZ (p:=pF (cFD (κ:=(Int×Int)) (cL cI))) (i:=2) rfl kd) rfl)
   ·intro F H E X;replace Ai:=Ai.mono E;exact⟨_,_,_,_,_,_,_,rfl,⟨X,(Same.refl _)⟩,Ai⟩
   ·rintro F1 longer σ_ F_ H_ ⟨yk,w14_,w15_,w16_,w17_,w18_,w19_,rfl,⟨X_,SF_⟩,Ai⟩;exact⟨X_,SF_⟩
   ·rintro F1 S0_ longer B_ ⟨ahead,last⟩ jo2 σ_ F_ H_ F H ⟨yk,w14_,w15_,w16_,w17_,w18_,w19_,rfl,⟨X,SF_⟩,Ai⟩ E joe Hm
    try dsimp only at Hm
    have SL1:=SF_;replace SF_:=Same.trans S0_ SF_;replace jb:=Cd.mono _ SF_ jb;replace jG:=Cd.mono _ SF_ jG;replace kd:=Cd.mono _ SF_ kd;replace X:=Ext.trans X E;replace jb:=E.xc jb;replace jG:=E.xc jG;replace kd:=E.xc kd;replace Ai:=Ai.mono E;replace SL1:=E.xd SL1;refine jdL joe X.sub fun WJ jnm WK jnn=>?_;obtain rfl:WJ=.int ahead:=WK;obtain rfl:jnm=.int last:=jnn;refine(yQ (K:=K) (c:=(cL cI)) (jbd (eV (i:=2) kd) (qT (eI (i:=5)) (eI (i:=6)) rfl) rfl) X Hm ?_);intro counts QG F H Hm E X ju;replace jb:=E.xc jb;replace jG:=E.xc jG;replace Ai:=Ai.mono E;replace SL1:=E.xd SL1;refine jaX (K:=K) (c:=cI) ?_ X Hm (fun F1 longer σ' F' H'=>∃ (yk:Addr) (w21_:Option V) (w22_:Option V) (w23_:Option V),σ'=[some jz,some WM,some GN,some (.int place),some (.ref yk),some (.int ahead),some (.int last),some QG,w21_,w22_,w23_]/\(Ext Fe H0 F' H'/\Same F1 F')/\OwnDT K H0 F' H' (cL cI) longer yk) ?_ ?_ ?_ ?_
    ·exact(V7 (xh (jr (jZ (p:=pF (jl ja)) (i:=0) rfl jb) (jbQ (i:=5) rfl) rfl)))
    ·intro F H E X;replace Ai:=Ai.mono E;exact⟨_,_,_,_,rfl,⟨X,(Same.refl _)⟩,Ai⟩
    ·rintro F1 longer σ_ F_ H_ ⟨yk,w21_,w22_,w23_,rfl,⟨X_,SF_⟩,Ai⟩;exact⟨X_,SF_⟩
    ·rintro F1 S0_ longer B_ thing q_ σ_ F_ H_ F H ⟨yk,w21_,w22_,w23_,rfl,⟨X,SF_⟩,Ai⟩ E xa Hm
     try dsimp only at Hm
     have SL2:=SF_;replace SF_:=Same.trans S0_ SF_;replace jG:=Cd.mono _ SF_ jG;replace ju:=Cd.mono _ SF_ ju;replace X:=Ext.trans X E;replace jG:=E.xc jG;replace Ai:=Ai.mono E;replace ju:=E.xc ju;replace SL2:=E.xd SL2;obtain rfl:q_=.int thing:=xa;refine yf ?_;refine(yQ (K:=K) (c:=(cP cI cI)) (Us (jy kN (eI (i:=5)) (jf Y3 (jp _) (eI (i:=8)) rfl) rfl) (eI (i:=8)) rfl) X Hm ?_);intro grown jlv F H Hm E X Gn;replace jG:=E.xc jG;replace Ai:=Ai.mono E;replace ju:=E.xc ju;replace SL2:=E.xd SL2;refine(yQ (K:=K) (c:=(cL cI)) (JT (qc (jf zj (eI (i:=6)) (eI (i:=8)) rfl)) (xh (jC (qx (eV (i:=7) ju)) rfl)) (eV (i:=7) ju) rfl) X Hm ?_);intro more joA F H Hm E X jhH;replace jG:=E.xc jG;replace Ai:=Ai.mono E;replace Gn:=E.xc Gn;replace SL2:=E.xd SL2;refine(jiQ (K:=K) (k':=4) rfl Ai (xh (jr (qx (Zl (jZ (p:=pDT (κ:=(Int×Int)) (cL cI)) (i:=4) rfl Ai.b) (eV (i:=9) Gn) (eV (i:=1) jG) rfl)) (qx (eV (i:=10) jhH)) rfl)) (eV (i:=9) Gn) X Hm ?_);intro longer F H Hm Cg X Ai;replace SL2:=Same.trans SL2 Cg.f;cases Hm;exact⟨F,_,_,_,_,rfl,⟨X,SL2⟩,Ai⟩
    ·rintro F1 S0_ longer σ_ F H Hm ⟨yk,w21_,w22_,w23_,rfl,⟨X,SF_⟩,Ai⟩
     try dsimp only at Hm
     replace SF_:=Same.trans S0_ SF_;replace SL1:=Same.trans SL1 SF_;cases Hm;exact⟨F,_,_,_,_,_,_,_,rfl,⟨X,SL1⟩,Ai⟩
   ·rintro F1 S0_ longer σ_ F H Hm ⟨yk,w14_,w15_,w16_,w17_,w18_,w19_,rfl,⟨X,SF_⟩,Ai⟩
    try dsimp only at Hm
    replace SF_:=Same.trans S0_ SF_;replace kd:=Cd.mono _ SF_ kd;replace SL0:=Same.trans SL0 SF_;refine(jk5 (K:=K) (j:=4) rfl Ai X Hm ?_);intro begun GN F H Hm Cg X kd;replace SL0:=Same.trans SL0 Cg.f;cases Hm;exact⟨F,_,_,_,_,_,_,_,_,_,rfl,⟨X,SL0⟩,kd⟩
  ·rintro F1 S0_ begun σ_ F H Hm ⟨GN,w6_,w7_,w8_,w9_,w10_,w11_,w12_,w13_,rfl,⟨X,SF_⟩,kd⟩
   try dsimp only at Hm
   replace SF_:=Same.trans S0_ SF_;replace jb:=Cd.mono _ SF_ jb;exact jB (K:=K) (qy (JU (kX kQ (eV (i:=0) jb) rfl) rfl) [some GN] rfl (fun b35 falls _ _ E34=>yq) (fun b35 falls _ _ E34=>(kO jf9 (jS (kJ (JV (jcE (eV (i:=1) (Cd.mono _ (E34).f kd)) rfl) [some (.int falls)] rfl (fun b37 counts QG _ _ E36 ju=>yq) (fun b37 counts QG _ _ E36 ju=>(jf zA (jS (qx (eV (i:=0) ju))) (eI (i:=1)) rfl)) rfl))) rfl)) rfl) X Hm Kk
def Z2:FnScope ["spot"] ["spot"] (jh (top 119)):=scK
def Z3 (B:BiX P w K mg base) (Aa:Ab K mg ja) (Ad:Ah K mg ji) (Fn:Fun K "told_falls" "told_falls" (top 119) f fd) (Vk:Def P w K mg base "by_falls" 4 ["order"] (sp1 K (pF (jl ja)) (rO cI) G3)) (qp:GL P w K mg base):FnOk P w K mg base CX0 5 f fd ["spot"] (sp1 K (pF (jT ja ji)) (rF cS) xy):=by
  refine(ok1 Fn Z2 fun cdv A outer s H0 Q E_ hr nd hu spot k6 Fe R X jq Hm Kk=>?_);refine⟨_,(jg (jv (pD_ qp hr (jc (pD_ Vk hr (jc (j3 (pv 0) rfl) je)) je)))),?_⟩
  try dsimp only[jQ]
  unfold xy at Hm;replace jq:(jT ja ji).rep K Fe spot k6:=jq;exact jB (K:=K) (kU (kJ (jC (js (jU Ad) (eV (i:=0) jq) rfl) rfl)) rfl) X Hm Kk
def jbz:FnScope ["word"] ["word"] (jh (top 123)):=scK
def jbA (B:BiX P w K mg base) (Fn:Fun K "is_number" "is_number" (top 123) f fd) (GO:∃ t,mg "MOST_FIGURES"=some (.int 6 t)) (WP:∃ t,mg "FIGURES"=some (.str "0123456789" t)):FnOk P w K mg base CX0 1 f fd ["word"] (sp1 K (pF cS) (rF cB) xU):=by
  refine(ok1 Fn jbz fun cdv A outer s H0 Q E_ hr nd hu word UO Fe R X GB Hm Kk=>?_);obtain⟨t_MOST_FIGURES,g_MOST_FIGURES⟩:=GO;obtain⟨t_FIGURES,g_FIGURES⟩:=WP;refine⟨_,(jd (xB (PW.pt (WW (JC (Qs VA VA jo (kB jaO B.len_ (pv 0)) (UR (v:=.int 6) rfl g_MOST_FIGURES ⟨_,rfl⟩))) (Vm (PW.pt (jdn (jP GU (pX jl_ (pv 0) jo) kr (jX _)) (YQ (jP QH (pv 0) kr (jX _)))))))) (jg (jv Uj)) ka) (jg (jv (kB (jdB rfl) B.all_ (k9 (own:=["sign"]) (ix:=[]) (qD rfl) rfl (jj1 (pv 0)) (fun _=>(kA (i:=0) (show List.Nodup (["sign"]:List Str) by decide +kernel) rfl (Or.inl rfl))) (fun _=>xg) (fun _=>(JN jfB (pv 0) (UR (v:=.str "0123456789") rfl g_FIGURES ⟨_,rfl⟩) (by with_unfolding_all rfl)))))))),?_⟩
  try dsimp only[jQ]
  unfold xU at Hm;obtain rfl:UO=.str word:=GB;refine(jif (K:=K) (jcf (Qw (qc (jbh (jp _) (jk jmX (Qv (i:=0) rfl) rfl) (jp _) rfl)) rfl) (jir (qc (jy jeA (jf jnW (Qv (i:=0) rfl) (jp _) rfl) (ko _) rfl)) (qc (jf jh9 (Qv (i:=0) rfl) (ko _) rfl)) rfl) rfl) X Hm ?_ ?_)
  ·intro F H Hm E X
   try dsimp only[wc] at Hm
   exact jB (K:=K) (Uq _) X Hm Kk
  ·intro F H Hm E X
   try dsimp only[X7] at Hm
   refine Jf ?_;exact jB (K:=K) (kO jmv (jS (kJ (Qx (jeW (Qv (i:=0) rfl) rfl) [] rfl (fun b6 sign jhI _ _ E5 jeg=>yq) (fun b6 sign jhI _ _ E5 jeg=>(jf jnV (eV (i:=0) jeg) (ko _) rfl)) rfl))) rfl) X Hm Kk
def jfa:FnScope ["things"] ["things"] (jh (top 95)):=scK
def jfb (B:BiX P w K mg base) (Fn:Fun K "figures" "figures" (top 95) f fd):FnOk P w K mg base CX0 1 f fd ["things"] (sp1 K (pB cI) (rF cS) J8):=by
  refine(ok1 Fn jfa fun cdv A outer s H0 Q E_ hr nd hu zc GA Fe R X yj Hm Kk=>?_);refine⟨_,(jg (jv (Gd Xz PySem.F.slot_str_join PySem.F.type_str_join U2 kr (jc (k9 (own:=["thing"]) (ix:=[]) (qD rfl) rfl (qF (pv 0)) (fun _=>(kA (i:=0) (show List.Nodup (["thing"]:List Str) by decide +kernel) rfl (Or.inl rfl))) (fun _=>xg) (fun _=>(cY j2 B.str_ (pv 0)))) je)))),?_⟩
  try dsimp only[jQ]
  unfold J8 at Hm;have qQ:Bor K H0 Fe cI zc GA:=yj;clear yj;exact jB (K:=K) (Qz (ko _) (jS (kJ (xP (yP (jS (jZ (p:=pB cI) (i:=0) rfl (Bor.b qQ X)))) [] rfl (fun b2 thing _ _ E1=>yq) (fun b2 thing _ _ E1=>(jk zC (eI (i:=0)) rfl)) rfl))) rfl) X Hm Kk
def WC:FnScope ["spot","bits"] ["spot","bits"] (jh (top 98)):=scK
def WD (B:BiX P w K mg base) (Aa:Ab K mg ja) (Ad:Ah K mg ji) (Fn:Fun K "with_downset" "with_downset" (top 98) f fd) (kh:yD P w K mg base) (WQ:Def P w K mg base "figures" 1 ["things"] (sp1 K (pB cI) (rF cS) J8)) (xE:Qd P w K mg base ja ji):FnOk P w K mg base CX0 3 f fd ["spot","bits"] (sp2 K (pF (jT ja ji)) (pF cI) (rF (jT ja ji)) qY):=by
  refine(ok2 Fn WC fun cdv A outer s H0 Q E_ hr nd hu spot bits k6 xV Fe R X jq xW Hm Kk=>?_);refine⟨_,(jg (jv (JF xE (hr.mono (by decide)) rfl (jc (j3 (pv 0) rfl) (jc (pv 1) (jc (j3 (pv 0) rfl) (jc (Uk (jP GU (pv 1) jo (jX _)) kr (pD_ WQ hr (jc (pD_ kh hr (jc (pv 1) je)) je))) je))))))),?_⟩
  try dsimp only[jQ]
  unfold qY at Hm;replace jq:(jT ja ji).rep K Fe spot k6:=jq;obtain rfl:xV=.int bits:=xW;exact jB (K:=K) (UY (js (jU Ad) (eV (i:=0) jq) rfl) (eI (i:=1)) (js (yS Ad) (eV (i:=0) jq) rfl) (JT (qc (jf UV (eI (i:=1)) (jp _) rfl)) (ko _) (kU (kJ (jC (eI (i:=1)) rfl)) rfl) rfl) rfl) X Hm Kk
def jc1:FnScope ["spot"] ["spot"] (jh (top 105)):=scK
def jc2 (B:BiX P w K mg base) (Ap:Au K mg kC) (Aa:Ab K mg ja) (Ad:Ah K mg ji) (Fn:Fun K "at_great" "at_great" (top 105) f fd) (yH:UH P w K mg base kC ja) (xX:UG P w K mg base kC ja) (xH:Qe P w K mg base ja ji):FnOk P w K mg base CX0 8 f fd ["spot"] (sp1 K (pF (jT ja ji)) (rF (jT ja ji)) yx):=by
  refine(ok1 Fn jc1 fun cdv A outer s H0 Q E_ hr nd hu spot k6 Fe R X jq Hm Kk=>?_);refine⟨_,(jg (jv (pD_ xH hr (jc (pv 0) (jc (qE xX (hr.mono (by decide)) (JF yH (hr.mono (by decide)) rfl (jc (j3 (pv 0) rfl) je)) (jc (j3 (pv 0) rfl) je)) je))))),?_⟩
  try dsimp only[jQ]
  unfold yx at Hm;replace jq:(jT ja ji).rep K Fe spot k6:=jq;exact jB (K:=K) (jY (eV (i:=0) jq) (GZ Jj (yt (js (jU Ad) (eV (i:=0) jq) rfl) rfl) (js (Ji Ad) (eV (i:=0) jq) rfl) rfl) rfl) X Hm Kk
def A4:FnScope ["self","order"] ["self","order"] (jh ((jx (top 86) 0))):=scK
def Z4 (B:BiX P w K mg base) (Aa:Ab K mg ja) (An:Av K mg kD) (Fn:Fun K "__init__" "Turn.__init__" ((jx (top 86) 0)) f fd):FnOk P w K mg base CX0 1 f fd ["self","order"] (jis K kD (pF (jl ja)) (J3 ja kD) qO):=by
 refine Fn.ok A4 (fun vs H Q E h=>?_) (fun cdv A outer s Hq vs Q E_ hr h=>?_)
 ·obtain⟨_,_,_,_,_,_,_,rfl,_⟩:=h;rfl
 ·obtain⟨order,jz,Fe,H0,x_self,dx_self,R,rfl,rfl,n1_,n2_,n3_,S_,jb,Hm,Kk⟩:=h;have nd:=A4.nd;have hu:=QK hr;refine⟨_,(jg (zz (pv 0) (pv 1) rfl)),?_⟩
  try dsimp only[jQ]
  obtain⟨X,j0⟩:=yr (C:=kD) S_ n1_ n2_ n3_;unfold qO at Hm;replace jb:(jl ja).rep K Fe order jz:=jb;refine(Vq (K:=K) (k':=0) (c:=(jl ja)) rfl j0 An.cl An.n_order (XG (Xe 0) (by decide:0<1000)) (eV (i:=1) jb) X Hm ?_);intro f_order Gz F H Hm Cg X kz j0;cases Hm;obtain⟨F',X',Cg,hx⟩:=OwnI.freeze j0 X;exact Kk F' H X' ⟨x_self,dx_self,_,rfl,hx,Cd.mono _ Cg.f kz⟩
def jfc:FnScope ["order","line","ahead","thing"] ["order","line"] (jh (top 40)):=scK
def jfd (B:BiX P w K mg base) (Aa:Ab K mg ja) (Fn:Fun K "is_line" "is_line" (top 40) f fd) (jA:qm P w K mg base ja) (xD:Qc P w K mg base):FnOk P w K mg base CX0 2 f fd ["order","line"] (sp2 K (pF (jl ja)) (pF (cT cI)) (rF cB) za):=by
  refine(ok2 Fn jfc fun cdv A outer s H0 Q E_ hr nd hu order line jz QX Fe R X jb kf Hm Kk=>?_);refine⟨_,(jd (xB (jP (jjx hu) (kB ja3 B.sorted_ (pv 1)) (cY (Y0 rfl) B.list_ (jkp rfl B.range_ (jc (yN jA (hr.mono (by decide)) (pv 0)) je))) (jX _)) (jg (jv Uj)) ka) (jd (pS (i:=2) nd jo) (jd (xG PassesOwn.never rfl (jdq (pv 1)) (pG (i:=3) nd) (jd (xB (JC (GR (pD_ xD hr (jc (pv 2) (jc (pX zQ (j3 (pv 0) rfl) (pv 3)) je))))) (jg (jv Uj)) ka) (jg (pS (i:=2) nd (jK VV (pv 2) (jK Um jo (pv 3))))))) (jg (jv Uj))))),?_⟩
  try dsimp only[jQ]
  unfold za at Hm;replace jb:(jl ja).rep K Fe order jz:=jb;replace kf:(cT cI).rep K Fe line QX:=kf;refine(jif (K:=K) (qc (jy (jml (eqL eqI) (by decide) nfL) (jh8 (kJ (jk jgv (eV (i:=1) kf) rfl))) (jh8 (kJ (jgs (kX kQ (eV (i:=0) jb) rfl) rfl))) rfl)) X Hm ?_ ?_)
  ·intro F H Hm E X
   try dsimp only[wc] at Hm
   exact jB (K:=K) (Uq _) X Hm Kk
  ·intro F H Hm E X
   try dsimp only[X7] at Hm
   replace jb:=E.xc jb;replace kf:=E.xc kf;refine Jf ?_;refine(qt (K:=K) (jp _) X Hm ?_);intro ahead F H Hm E X;replace jb:=E.xc jb;replace kf:=E.xc kf;refine jiq (K:=K) (c:=cI) (fun c=>c=R) ?_ X Hm ?_ (fun F1 ahead σ' F' H'=>∃ (w4_:Option V),σ'=[some jz,some QX,some (.int ahead),w4_]/\(Ext Fe H0 F' H'/\Same F1 F')) ?_ ?_ ?_ ?_
   ·exact(jms (jZ (p:=pF (cT cI)) (i:=1) rfl kf))
   ·intro c h;exact Option.some.inj h
   ·intro F H E X;exact⟨_,rfl,⟨X,(Same.refl _)⟩⟩
   ·rintro F1 ahead σ_ F_ H_ ⟨w4_,rfl,⟨X_,SF_⟩⟩;exact⟨X_,SF_⟩
   ·rintro F1 S0_ ahead B_ thing q_ σ_ F_ H_ F H ⟨w4_,rfl,⟨X,SF_⟩⟩ E xa Hm Hr
    try dsimp only at Hm
    have SL0:=SF_;replace SF_:=Same.trans S0_ SF_;replace jb:=Cd.mono _ SF_ jb;replace X:=Ext.trans X E;replace jb:=E.xc jb;replace SL0:=E.xd SL0;obtain rfl:q_=.int thing:=xa;refine yf ?_;refine(jif (K:=K) (Qw (zR (jY (eI (i:=2)) (jf VC (js (xj Aa) (eV (i:=0) jb) rfl) (eI (i:=3)) rfl) rfl)) rfl) X Hm ?_ ?_)
    ·intro F H Hm E X
     try dsimp only[wc] at Hm
     obtain⟨y_,Hy_,Hm⟩:=bind_some Hm;cases Hm;exact jB (K:=K) (Uq _) X (Hy_.trans (congrArg some (Hr _ rfl))) Kk
    ·intro F H Hm E X
     try dsimp only[X7] at Hm
     replace SL0:=E.xd SL0;refine Jf ?_;refine(Ge (K:=K) (jy kN (eI (i:=2)) (jf Y3 (jp _) (eI (i:=3)) rfl) rfl) X Hm ?_);intro ahead F H Hm E X;replace SL0:=E.xd SL0;cases Hm;exact⟨_,F,rfl,_,rfl,⟨X,SL0⟩⟩
   ·rintro F1 S0_ ahead σ_ F H Hm ⟨w4_,rfl,⟨X,SF_⟩⟩
    try dsimp only at Hm
    exact jB (K:=K) (Uq _) X Hm Kk
def Z5:FnScope ["order","line"] ["order","line"] (jh (top 41)):=scK
def Z6 (B:BiX P w K mg base) (Aa:Ab K mg ja) (Fn:Fun K "check_line" "check_line" (top 41) f fd) (WR:Def P w K mg base "is_line" 2 ["order","line"] (sp2 K (pF (jl ja)) (pF (cT cI)) (rF cB) za)):FnOk P w K mg base CX0 3 f fd ["order","line"] (sp2 K (pF (jl ja)) (pF (cT cI)) (rF cU) ku):=by
  refine(ok2 Fn Z5 fun cdv A outer s H0 Q E_ hr nd hu order line jz QX Fe R X jb kf Hm Kk=>?_);refine⟨_,(jg (xB (JC (GR (pD_ WR hr (jc (pv 0) (jc (pv 1) je))))) (jg qL) ka)),?_⟩
  try dsimp only[jQ]
  unfold ku at Hm;replace jb:(jl ja).rep K Fe order jz:=jb;replace kf:(cT cI).rep K Fe line QX:=kf;refine(jia (K:=K) (Qw (zR (jr (eV (i:=0) jb) (eV (i:=1) kf) rfl)) rfl) X Hm ?_ ?_)
  ·intro F H Hm E X
   try dsimp only[wc] at Hm
   cases Hm
  ·intro F H Hm E X
   try dsimp only[X7] at Hm
   refine Jf ?_;cases Hm;exact Kk _ F H X rfl
def QM:FnScope ["self","thing"] ["self","thing"] (jh ((jx (top 21) 2))):=scK
def QN (B:BiX P w K mg base) (Aa:Ab K mg ja) (Fn:Fun K "check_thing" "Order.check_thing" ((jx (top 21) 2)) f fd):FnOk P w K mg base CX0 1 f fd ["self","thing"] (sp2 K (pF (jl ja)) (pF cI) (rF cU) kx):=by
  refine(ok2 Fn QM fun cdv A outer s H0 Q E_ hr nd hu self thing xI q_ Fe R X jt xa Hm Kk=>?_);refine⟨_,(jg (xB (JC (Qs VA WY jo (pv 1) (j3 (pv 0) rfl))) (jg qL) ka)),?_⟩
  try dsimp only[jQ]
  unfold kx at Hm;replace jt:(jl ja).rep K Fe self xI:=jt;obtain rfl:q_=.int thing:=xa;refine(jdI (K:=K) (GX (qc (Jg (jp _) (eI (i:=1)) (js (QS Aa) (eV (i:=0) jt) rfl) rfl)) rfl) X Hm ?_ ?_)
  ·intro F H Hc Hm E X;cases Hm
  ·intro F H Hc Hm E X;refine Jf ?_;cases Hm;exact Kk _ F H X rfl
def Q_:FnScope ["self","thing"] ["self","thing"] (jh ((jx (top 21) 6))):=scK
def Ua (B:BiX P w K mg base) (Aa:Ab K mg ja) (Fn:Fun K "just_above" "Order.just_above" ((jx (top 21) 6)) f fd) (k5:zT P w K mg base ja):FnOk P w K mg base CX0 2 f fd ["self","thing"] (sp2 K (pF (jl ja)) (pF cI) (rO cI) qf):=by
  refine(ok2 Fn Q_ fun cdv A outer s H0 Q E_ hr nd hu self thing xI q_ Fe R X jt xa Hm Kk=>?_);refine⟨_,(jd (qh (qE k5 (hr.mono (by decide)) (pv 0) (jc (pv 1) je))) (jg (jv (k9 (own:=["low","high"]) (ix:=[1]) (qD rfl) rfl (jdq (j3 (pv 0) rfl)) (fun _=>(QO rfl (qd (kA (i:=0) (show List.Nodup (["low","high","thing"]:List Str) by decide +kernel) rfl (Or.inl rfl)) (qd (kA (i:=1) (show List.Nodup (["low","high","thing"]:List Str) by decide +kernel) rfl (Or.inl rfl)) GD)))) (fun _=>GG (jP GU (pv 0) (pv 2) (jX _))) (fun _=>(pv 1)))))),?_⟩
  try dsimp only[jQ]
  unfold qf at Hm;replace jt:(jl ja).rep K Fe self xI:=jt;obtain rfl:q_=.int thing:=xa;refine(JS (K:=K) (xt zS (eV (i:=0) jt) (eI (i:=1)) rfl) X Hm ?_);intro _ F H Hm E X;replace jt:=E.xc jt;exact jB (K:=K) (Ut (jf4 (js (yd Aa) (eV (i:=0) jt) rfl)) [some (.int thing)] rfl (fun b2 low high _ _ E1=>(qc (jf UV (eI (i:=0)) (eI (i:=2)) rfl))) (fun b2 low high _ _ E1=>(eI (i:=1))) rfl) X Hm Kk
def VM:FnScope ["row","things"] ["row","things"] (jh (top 83)):=scK
def VN (B:BiX P w K mg base) (Fn:Fun K "places_within" "places_within" (top 83) f fd):FnOk P w K mg base CX0 1 f fd ["row","things"] (sp2 K (pF (cT cI)) (pB cI) (rO cI) kS):=by
  refine(ok2 Fn VM fun cdv A outer s H0 Q E_ hr nd hu row zc yb GA Fe R X jM yj Hm Kk=>?_);refine⟨_,(jg (jv (k9 (own:=["thing"]) (ix:=[0]) (qD rfl) rfl (qF (pv 1)) (fun _=>(kA (i:=0) (show List.Nodup (["thing","row"]:List Str) by decide +kernel) rfl (Or.inl rfl))) (fun _=>GG (jP (jjy hu) (pv 0) (pv 1) (by with_unfolding_all rfl))) (fun _=>(jnQ PySem.F.slot_tuple_index PySem.F.type_tuple_index jgy (pv 1) (jc (pv 0) je)))))),?_⟩
  try dsimp only[jQ]
  unfold kS at Hm;replace jM:(cT cI).rep K Fe row yb:=jM;have qQ:Bor K H0 Fe cI zc GA:=yj;clear yj;exact jB (K:=K) (xP (yP (jS (jZ (p:=pB cI) (i:=1) rfl (Bor.b qQ X)))) [some yb] rfl (fun b2 thing _ _ E1=>(qc (jf (jnM eqI (by decide)) (jh7 (eI (i:=0))) (jh7 (eV (i:=1) (Cd.mono _ (E1).f jM))) rfl))) (fun b2 thing _ _ E1=>(Zd (eV (i:=1) (Cd.mono _ (E1).f jM)) (eI (i:=0)) rfl)) rfl) X Hm Kk
def jlt:FnScope ["order","row","moved","gap","higher","place"] ["order","row"] (jh (top 84)):=scK
def jlu (B:BiX P w K mg base) (Aa:Ab K mg ja) (Fn:Fun K "slid" "slid" (top 84) f fd) (xJ:Mth P w K mg base ja "just_above" 2 ["self","thing"] (sp2 K (pF (jl ja)) (pF cI) (rO cI) qf)) (qb:JI P w K mg base):FnOk P w K mg base CX0 3 f fd ["order","row"] (sp2 K (pF (jl ja)) (pF (cT cI)) (rF (cT cI)) J9):=by
  refine(ok2 Fn jlt fun cdv A outer s H0 Q E_ hr nd hu order row jz yb Fe R X jb jM Hm Kk=>?_);refine⟨_,(jd (pS (i:=2) nd (cY JO B.list_ (pv 1))) (jd (pS (i:=3) nd (pX zQ (pv 1) jo)) (jd (pS (i:=4) nd (pD_ qb hr (jc (pv 1) (jc (qE xJ (hr.mono (by decide)) (pv 0) (jc (pv 3) je)) je)))) (jd (Jd PassesOwn.never (jP WZ (kB jw B.len_ (pv 4)) jo (jX _)) (jd (pS (i:=5) nd (kB (jgz rfl) B.min_ (pv 4))) (jd (Yk (pv 3) (jft (pv 2) (pv 5) YT)) (jd (pS (i:=3) nd (pX zQ (pv 1) (pv 5))) (jg (pS (i:=4) nd (pD_ qb hr (jc (pv 1) (jc (qE xJ (hr.mono (by decide)) (pv 0) (jc (pv 3) je)) je))))))))) (jg (jv (cY yL B.tuple_ (jK V0 (zp UT (pv 2) (GF jo) GE) (xM (jc (pv 3) je)))))))))),?_⟩
  try dsimp only[jQ]
  unfold J9 at Hm;replace jb:(jl ja).rep K Fe order jz:=jb;replace jM:(cT cI).rep K Fe row yb:=jM;refine(JR (K:=K) (jk jb8 (eV (i:=1) jM) rfl) X Hm ?_);intro moved yo F H Hm E X Hn Af;replace jb:=E.xc jb;replace jM:=E.xc jM;refine(qt (K:=K) (jf VC (eV (i:=1) jM) (jp _) rfl) X Hm ?_);intro gap F H Hm E X;replace jb:=E.xc jb;replace jM:=E.xc jM;replace Af:=Af.mono E;refine(yQ (K:=K) (c:=(cL cI)) (xh (jY (eV (i:=1) jM) (kJ (xt Gh (eV (i:=0) jb) (eI (i:=3)) rfl)) rfl)) X Hm ?_);intro higher GC F H Hm E X qr;replace jb:=E.xc jb;replace jM:=E.xc jM;replace Af:=Af.mono E;refine Q3 (K:=K) X Hm (fun F1 b σ' F' H'=>match b with | (moved,gap,higher)=>∃ (yo:Addr) (GC:V) (w3_:Option V),σ'=[some jz,some yb,some (.ref yo),some (.int gap),some GC,w3_]/\(Ext Fe H0 F' H'/\Same F1 F')/\Own K H0 F' H' cI moved yo/\(cL cI).rep K F' higher GC) ?_ ?_ ?_ ?_ ?_
  ·exact⟨_,_,_,rfl,⟨X,(Same.refl _)⟩,Af,qr⟩
  ·rintro F1 ⟨moved,gap,higher⟩ σ_ F_ H_ ⟨yo,GC,w3_,rfl,⟨X_,SF_⟩,Af,qr⟩;exact⟨X_,SF_⟩
  ·rintro⟨moved,gap,higher⟩ σ_ F H ⟨yo,GC,w3_,rfl,⟨X,SF_⟩,Af,qr⟩;exact(qc (jf zj (jk xi (jS (qx (jZ (p:=pF (cL cI)) (i:=4) rfl qr))) rfl) (jp _) rfl))
  ·rintro⟨moved,gap,higher⟩ B_ σ_ F_ H_ F H ⟨yo,GC,w3_,rfl,⟨X,SF_⟩,Af,qr⟩ E Hm
   try dsimp only at Hm
   have SL0:=SF_;replace jb:=Cd.mono _ SF_ jb;replace jM:=Cd.mono _ SF_ jM;replace X:=Ext.trans X E;replace jb:=E.xc jb;replace jM:=E.xc jM;replace Af:=Af.mono E;replace qr:=E.xc qr;replace SL0:=E.xd SL0;refine(qt (K:=K) (jk jmC (jS (qx (eV (i:=4) qr))) rfl) X Hm ?_);intro place F H Hm E X;replace jb:=E.xc jb;replace jM:=E.xc jM;replace Af:=Af.mono E;replace qr:=E.xc qr;replace SL0:=E.xd SL0;refine(jdP (K:=K) (k':=2) rfl Af (eI (i:=3)) (eI (i:=5)) X Hm ?_);intro moved F H Hm Cg X Af;replace jb:=Cd.mono _ Cg.f jb;replace jM:=Cd.mono _ Cg.f jM;replace qr:=Cd.mono _ Cg.f qr;replace SL0:=Same.trans SL0 Cg.f;refine(qt (K:=K) (jf VC (eV (i:=1) jM) (eI (i:=5)) rfl) X Hm ?_);intro gap F H Hm E X;replace jb:=E.xc jb;replace jM:=E.xc jM;replace Af:=Af.mono E;replace qr:=E.xc qr;replace SL0:=E.xd SL0;refine(JQ (K:=K) (c:=(cL cI)) (xh (jY (eV (i:=1) jM) (kJ (xt Gh (eV (i:=0) jb) (eI (i:=3)) rfl)) rfl)) X Hm ?_);intro higher GC F H Hm E X qr;replace Af:=Af.mono E;replace SL0:=E.xd SL0;cases Hm;exact⟨F,_,_,_,rfl,⟨X,SL0⟩,Af,qr⟩
  ·rintro⟨moved,gap,higher⟩ σ_ F_ H_ F H ⟨yo,GC,w3_,rfl,⟨X,SF_⟩,Af,qr⟩ E Hm
   try dsimp only at Hm
   replace X:=Ext.trans X E;replace Af:=Af.mono E;exact jB (K:=K) (kO jaW (jS (kJ (jf jb9 (kJ (Ga (jS (jZ (p:=pB cI) (i:=2) rfl Af.b)) (qU (jp _) rfl) GH rfl)) (kJ (xO (qS (eI (i:=3)) (xN (c:=cI)) rfl) (by decide))) rfl))) rfl) X Hm Kk
def Z7:FnScope ["self","one"] ["self","one"] (jh ((jx (top 88) 0))):=scK
def Z8 (B:BiX P w K mg base) (Aa:Ab K mg ja) (An:Av K mg kD) (Fn:Fun K "done" "Slide.done" ((jx (top 88) 0)) f fd) (kZ:zY P w K mg base ja) (YJ:jhy P w K mg base ja):FnOk P w K mg base CX0 4 f fd ["self","one"] (sp2 K (pF (J3 ja kD)) (pF (cT cI)) (rF (cT cI)) kY):=by
  refine(ok2 Fn Z7 fun cdv A outer s H0 Q E_ hr nd hu self one xI Jb Fe R X jt kG Hm Kk=>?_);refine⟨_,(jd (qh (pD_ kZ hr (jc (j3 (pv 0) rfl) (jc (pv 1) je)))) (jg (jv (pD_ YJ hr (jc (j3 (pv 0) rfl) (jc (pv 1) je)))))),?_⟩
  try dsimp only[jQ]
  unfold kY at Hm;replace jt:(J3 ja kD).rep K Fe self xI:=jt;replace kG:(cT cI).rep K Fe one Jb:=kG;refine(JS (K:=K) (jr (js (yT An) (eV (i:=0) jt) rfl) (eV (i:=1) kG) rfl) X Hm ?_);intro _ F H Hm E X;replace jt:=E.xc jt;replace kG:=E.xc kG;exact jB (K:=K) (jr (js (yT An) (eV (i:=0) jt) rfl) (eV (i:=1) kG) rfl) X Hm Kk
def jbB:FnScope ["things"] ["things"] (jh (top 95)):=scK
def jbC (B:BiX P w K mg base) (Fn:Fun K "figures" "figures" (top 95) f fd):FnOk P w K mg base CX0 1 f fd ["things"] (sp1 K (pF (cT cI)) (rF cS) qA):=by
  refine(ok1 Fn jbB fun cdv A outer s H0 Q E_ hr nd hu zc GA Fe R X yj Hm Kk=>?_);refine⟨_,(jg (jv (Gd Xz PySem.F.slot_str_join PySem.F.type_str_join U2 kr (jc (k9 (own:=["thing"]) (ix:=[]) (qD rfl) rfl (jdq (pv 0)) (fun _=>(kA (i:=0) (show List.Nodup (["thing"]:List Str) by decide +kernel) rfl (Or.inl rfl))) (fun _=>xg) (fun _=>(cY j2 B.str_ (pv 0)))) je)))),?_⟩
  try dsimp only[jQ]
  unfold qA at Hm;replace yj:(cT cI).rep K Fe zc GA:=yj;exact jB (K:=K) (Qz (ko _) (jS (kJ (xP (jf4 (eV (i:=0) yj)) [] rfl (fun b2 thing _ _ E1=>yq) (fun b2 thing _ _ E1=>(jk zC (eI (i:=0)) rfl)) rfl))) rfl) X Hm Kk
def jbD:FnScope ["spot","line"] ["spot","line"] (jh (top 99)):=scK
def jbE (B:BiX P w K mg base) (Aa:Ab K mg ja) (Ad:Ah K mg ji) (Fn:Fun K "with_line" "with_line" (top 99) f fd) (Ue:Def P w K mg base "figures" 1 ["things"] (sp1 K (pF (cT cI)) (rF cS) qA)) (xE:Qd P w K mg base ja ji):FnOk P w K mg base CX0 3 f fd ["spot","line"] (sp2 K (pF (jT ja ji)) (pF (cT cI)) (rF (jT ja ji)) qZ):=by
  refine(ok2 Fn jbD fun cdv A outer s H0 Q E_ hr nd hu spot line k6 QX Fe R X jq kf Hm Kk=>?_);refine⟨_,(jg (jv (JF xE (hr.mono (by decide)) rfl (jc (j3 (pv 0) rfl) (jc (j3 (pv 0) rfl) (jc (pv 1) (jc (pD_ Ue hr (jc (pv 1) je)) je))))))),?_⟩
  try dsimp only[jQ]
  unfold qZ at Hm;replace jq:(jT ja ji).rep K Fe spot k6:=jq;replace kf:(cT cI).rep K Fe line QX:=kf;exact jB (K:=K) (UY (js (jU Ad) (eV (i:=0) jq) rfl) (js (Ji Ad) (eV (i:=0) jq) rfl) (eV (i:=1) kf) (jC (eV (i:=1) kf) rfl) rfl) X Hm Kk
def jc3:FnScope ["spot"] ["spot"] (jh (top 107)):=scK
def jc4 (B:BiX P w K mg base) (Aa:Ab K mg ja) (An:Av K mg kD) (Ad:Ah K mg ji) (Fn:Fun K "at_slide" "at_slide" (top 107) f fd) (yI:UI P w K mg base ja kD) (Qh:Mth P w K mg base kD "done" 4 ["self","one"] (sp2 K (pF (J3 ja kD)) (pF (cT cI)) (rF (cT cI)) kY)) (kM:zK P w K mg base ja ji):FnOk P w K mg base CX0 5 f fd ["spot"] (sp1 K (pF (jT ja ji)) (rF (jT ja ji)) yy):=by
  refine(ok1 Fn jc3 fun cdv A outer s H0 Q E_ hr nd hu spot k6 Fe R X jq Hm Kk=>?_);refine⟨_,(jg (jv (pD_ kM hr (jc (pv 0) (jc (qE Qh (hr.mono (by decide)) (JF yI (hr.mono (by decide)) rfl (jc (j3 (pv 0) rfl) je)) (jc (j3 (pv 0) rfl) je)) je))))),?_⟩
  try dsimp only[jQ]
  unfold yy at Hm;replace jq:(jT ja ji).rep K Fe spot k6:=jq;exact jB (K:=K) (jY (eV (i:=0) jq) (GZ Zs (yt (js (jU Ad) (eV (i:=0) jq) rfl) rfl) (js (yS Ad) (eV (i:=0) jq) rfl) rfl) rfl) X Hm Kk
def Ub:FnScope ["self","thing"] ["self","thing"] (jh ((jx (top 21) 5))):=scK
def Uc (B:BiX P w K mg base) (Aa:Ab K mg ja) (Fn:Fun K "just_below" "Order.just_below" ((jx (top 21) 5)) f fd) (k5:zT P w K mg base ja):FnOk P w K mg base CX0 2 f fd ["self","thing"] (sp2 K (pF (jl ja)) (pF cI) (rO cI) qg):=by
  refine(ok2 Fn Ub fun cdv A outer s H0 Q E_ hr nd hu self thing xI q_ Fe R X jt xa Hm Kk=>?_);refine⟨_,(jd (qh (qE k5 (hr.mono (by decide)) (pv 0) (jc (pv 1) je))) (jg (jv (k9 (own:=["low","high"]) (ix:=[1]) (qD rfl) rfl (jdq (j3 (pv 0) rfl)) (fun _=>(QO rfl (qd (kA (i:=0) (show List.Nodup (["low","high","thing"]:List Str) by decide +kernel) rfl (Or.inl rfl)) (qd (kA (i:=1) (show List.Nodup (["low","high","thing"]:List Str) by decide +kernel) rfl (Or.inl rfl)) GD)))) (fun _=>GG (jP GU (pv 1) (pv 2) (jX _))) (fun _=>(pv 0)))))),?_⟩
  try dsimp only[jQ]
  unfold qg at Hm;replace jt:(jl ja).rep K Fe self xI:=jt;obtain rfl:q_=.int thing:=xa;refine(JS (K:=K) (xt zS (eV (i:=0) jt) (eI (i:=1)) rfl) X Hm ?_);intro _ F H Hm E X;replace jt:=E.xc jt;exact jB (K:=K) (Ut (jf4 (js (yd Aa) (eV (i:=0) jt) rfl)) [some (.int thing)] rfl (fun b2 low high _ _ E1=>(qc (jf UV (eI (i:=1)) (eI (i:=2)) rfl))) (fun b2 low high _ _ E1=>(eI (i:=0))) rfl) X Hm Kk
def jbF:FnScope ["order","row","moved","gap","lower","place"] ["order","row"] (jh (top 85)):=scK
def jbG (B:BiX P w K mg base) (Aa:Ab K mg ja) (Fn:Fun K "slid_back" "slid_back" (top 85) f fd) (xK:Mth P w K mg base ja "just_below" 2 ["self","thing"] (sp2 K (pF (jl ja)) (pF cI) (rO cI) qg)) (qb:JI P w K mg base):FnOk P w K mg base CX0 3 f fd ["order","row"] (sp2 K (pF (jl ja)) (pF (cT cI)) (rF (cT cI)) q8):=by
  refine(ok2 Fn jbF fun cdv A outer s H0 Q E_ hr nd hu order row jz yb Fe R X jb jM Hm Kk=>?_);refine⟨_,(jd (pS (i:=2) nd (cY JO B.list_ (pv 1))) (jd (pS (i:=3) nd (pX zQ (pv 1) (jaG VW jo))) (jd (pS (i:=4) nd (pD_ qb hr (jc (pv 1) (jc (qE xK (hr.mono (by decide)) (pv 0) (jc (pv 3) je)) je)))) (jd (Jd PassesOwn.never (jP WZ (kB jw B.len_ (pv 4)) jo (jX _)) (jd (pS (i:=5) nd (kB (jgA rfl) B.max_ (pv 4))) (jd (Yk (pv 3) (jft (pv 2) (pv 5) YT)) (jd (pS (i:=3) nd (pX zQ (pv 1) (pv 5))) (jg (pS (i:=4) nd (pD_ qb hr (jc (pv 1) (jc (qE xK (hr.mono (by decide)) (pv 0) (jc (pv 3) je)) je))))))))) (jg (jv (cY yL B.tuple_ (jK V0 (xM (jc (pv 3) je)) (zp UT (pv 2) GE (GF (jaG VW jo))))))))))),?_⟩
  try dsimp only[jQ]
  unfold q8 at Hm;replace jb:(jl ja).rep K Fe order jz:=jb;replace jM:(cT cI).rep K Fe row yb:=jM;refine(JR (K:=K) (jk jb8 (eV (i:=1) jM) rfl) X Hm ?_);intro moved yo F H Hm E X Hn Af;replace jb:=E.xc jb;replace jM:=E.xc jM;refine(qt (K:=K) (jf VC (eV (i:=1) jM) (zB o_u (jp _) rfl) rfl) X Hm ?_);intro gap F H Hm E X;replace jb:=E.xc jb;replace jM:=E.xc jM;replace Af:=Af.mono E;refine(yQ (K:=K) (c:=(cL cI)) (xh (jY (eV (i:=1) jM) (kJ (xt Gi (eV (i:=0) jb) (eI (i:=3)) rfl)) rfl)) X Hm ?_);intro lower Qi F H Hm E X xF;replace jb:=E.xc jb;replace jM:=E.xc jM;replace Af:=Af.mono E;refine Q3 (K:=K) X Hm (fun F1 b σ' F' H'=>match b with | (moved,gap,lower)=>∃ (yo:Addr) (Qi:V) (w3_:Option V),σ'=[some jz,some yb,some (.ref yo),some (.int gap),some Qi,w3_]/\(Ext Fe H0 F' H'/\Same F1 F')/\Own K H0 F' H' cI moved yo/\(cL cI).rep K F' lower Qi) ?_ ?_ ?_ ?_ ?_
  ·exact⟨_,_,_,rfl,⟨X,(Same.refl _)⟩,Af,xF⟩
  ·rintro F1 ⟨moved,gap,lower⟩ σ_ F_ H_ ⟨yo,Qi,w3_,rfl,⟨X_,SF_⟩,Af,xF⟩;exact⟨X_,SF_⟩
  ·rintro⟨moved,gap,lower⟩ σ_ F H ⟨yo,Qi,w3_,rfl,⟨X,SF_⟩,Af,xF⟩;exact(qc (jf zj (jk xi (jS (qx (jZ (p:=pF (cL cI)) (i:=4) rfl xF))) rfl) (jp _) rfl))
  ·rintro⟨moved,gap,lower⟩ B_ σ_ F_ H_ F H ⟨yo,Qi,w3_,rfl,⟨X,SF_⟩,Af,xF⟩ E Hm
   try dsimp only at Hm
   have SL0:=SF_;replace jb:=Cd.mono _ SF_ jb;replace jM:=Cd.mono _ SF_ jM;replace X:=Ext.trans X E;replace jb:=E.xc jb;replace jM:=E.xc jM;replace Af:=Af.mono E;replace xF:=E.xc xF;replace SL0:=E.xd SL0;refine(qt (K:=K) (jk jmD (jS (qx (eV (i:=4) xF))) rfl) X Hm ?_);intro place F H Hm E X;replace jb:=E.xc jb;replace jM:=E.xc jM;replace Af:=Af.mono E;replace xF:=E.xc xF;replace SL0:=E.xd SL0;refine(jdP (K:=K) (k':=2) rfl Af (eI (i:=3)) (eI (i:=5)) X Hm ?_);intro moved F H Hm Cg X Af;replace jb:=Cd.mono _ Cg.f jb;replace jM:=Cd.mono _ Cg.f jM;replace xF:=Cd.mono _ Cg.f xF;replace SL0:=Same.trans SL0 Cg.f;refine(qt (K:=K) (jf VC (eV (i:=1) jM) (eI (i:=5)) rfl) X Hm ?_);intro gap F H Hm E X;replace jb:=E.xc jb;replace jM:=E.xc jM;replace Af:=Af.mono E;replace xF:=E.xc xF;replace SL0:=E.xd SL0;refine(JQ (K:=K) (c:=(cL cI)) (xh (jY (eV (i:=1) jM) (kJ (xt Gi (eV (i:=0) jb) (eI (i:=3)) rfl)) rfl)) X Hm ?_);intro lower Qi F H Hm E X xF;replace Af:=Af.mono E;replace SL0:=E.xd SL0;cases Hm;exact⟨F,_,_,_,rfl,⟨X,SL0⟩,Af,xF⟩
  ·rintro⟨moved,gap,lower⟩ σ_ F_ H_ F H ⟨yo,Qi,w3_,rfl,⟨X,SF_⟩,Af,xF⟩ E Hm
   try dsimp only at Hm
   replace X:=Ext.trans X E;replace Af:=Af.mono E;exact jB (K:=K) (kO jaW (jS (kJ (jf jb9 (kJ (xO (qS (eI (i:=3)) (xN (c:=cI)) rfl) (by decide))) (kJ (Ga (jS (jZ (p:=pB cI) (i:=2) rfl Af.b)) GH (qU (zB o_u (jp _) rfl) rfl) rfl)) rfl))) rfl) X Hm Kk
def Z9:FnScope ["self","one"] ["self","one"] (jh ((jx (top 88) 1))):=scK
def Z_ (B:BiX P w K mg base) (Aa:Ab K mg ja) (An:Av K mg kD) (Fn:Fun K "back" "Slide.back" ((jx (top 88) 1)) f fd) (kZ:zY P w K mg base ja) (zm:Vu P w K mg base ja):FnOk P w K mg base CX0 4 f fd ["self","one"] (sp2 K (pF (J3 ja kD)) (pF (cT cI)) (rF (cT cI)) qv):=by
  refine(ok2 Fn Z9 fun cdv A outer s H0 Q E_ hr nd hu self one xI Jb Fe R X jt kG Hm Kk=>?_);refine⟨_,(jd (qh (pD_ kZ hr (jc (j3 (pv 0) rfl) (jc (pv 1) je)))) (jg (jv (pD_ zm hr (jc (j3 (pv 0) rfl) (jc (pv 1) je)))))),?_⟩
  try dsimp only[jQ]
  unfold qv at Hm;replace jt:(J3 ja kD).rep K Fe self xI:=jt;replace kG:(cT cI).rep K Fe one Jb:=kG;refine(JS (K:=K) (jr (js (yT An) (eV (i:=0) jt) rfl) (eV (i:=1) kG) rfl) X Hm ?_);intro _ F H Hm E X;replace jt:=E.xc jt;replace kG:=E.xc kG;exact jB (K:=K) (jr (js (yT An) (eV (i:=0) jt) rfl) (eV (i:=1) kG) rfl) X Hm Kk
def jaa:FnScope ["spot"] ["spot"] (jh (top 108)):=scK
def jab (B:BiX P w K mg base) (Aa:Ab K mg ja) (An:Av K mg kD) (Ad:Ah K mg ji) (Fn:Fun K "at_unslide" "at_unslide" (top 108) f fd) (yI:UI P w K mg base ja kD) (Qj:Mth P w K mg base kD "back" 4 ["self","one"] (sp2 K (pF (J3 ja kD)) (pF (cT cI)) (rF (cT cI)) qv)) (kM:zK P w K mg base ja ji):FnOk P w K mg base CX0 5 f fd ["spot"] (sp1 K (pF (jT ja ji)) (rF (jT ja ji)) xz):=by
  refine(ok1 Fn jaa fun cdv A outer s H0 Q E_ hr nd hu spot k6 Fe R X jq Hm Kk=>?_);refine⟨_,(jg (jv (pD_ kM hr (jc (pv 0) (jc (qE Qj (hr.mono (by decide)) (JF yI (hr.mono (by decide)) rfl (jc (j3 (pv 0) rfl) je)) (jc (j3 (pv 0) rfl) je)) je))))),?_⟩
  try dsimp only[jQ]
  unfold xz at Hm;replace jq:(jT ja ji).rep K Fe spot k6:=jq;exact jB (K:=K) (jY (eV (i:=0) jq) (GZ Zt (yt (js (jU Ad) (eV (i:=0) jq) rfl) rfl) (js (yS Ad) (eV (i:=0) jq) rfl) rfl) rfl) X Hm Kk
def A5:FnScope ["self","order"] ["self","order"] (jh ((jx (top 86) 0))):=scK
def jac (B:BiX P w K mg base) (As:Ax K mg qH) (Aa:Ab K mg ja) (Fn:Fun K "__init__" "Turn.__init__" ((jx (top 86) 0)) f fd):FnOk P w K mg base CX0 1 f fd ["self","order"] (jis K qH (pF (jl ja)) (Wn ja qH) yz):=by
 refine Fn.ok A5 (fun vs H Q E h=>?_) (fun cdv A outer s Hq vs Q E_ hr h=>?_)
 ·obtain⟨_,_,_,_,_,_,_,rfl,_⟩:=h;rfl
 ·obtain⟨order,jz,Fe,H0,x_self,dx_self,R,rfl,rfl,n1_,n2_,n3_,S_,jb,Hm,Kk⟩:=h;have nd:=A5.nd;have hu:=QK hr;refine⟨_,(jg (zz (pv 0) (pv 1) rfl)),?_⟩
  try dsimp only[jQ]
  obtain⟨X,j0⟩:=yr (C:=qH) S_ n1_ n2_ n3_;unfold yz at Hm;replace jb:(jl ja).rep K Fe order jz:=jb;refine(Vq (K:=K) (k':=0) (c:=(jl ja)) rfl j0 As.cl As.n_order (XG (Xe 0) (by decide:0<1000)) (eV (i:=1) jb) X Hm ?_);intro f_order Gz F H Hm Cg X kz j0;cases Hm;obtain⟨F',X',Cg,hx⟩:=OwnI.freeze j0 X;exact Kk F' H X' ⟨x_self,dx_self,_,rfl,hx,Cd.mono _ Cg.f kz⟩
def jad:FnScope ["self","one","row","end"] ["self","one"] (jh ((jx (top 89) 0))):=scK
def jae (B:BiX P w K mg base) (As:Ax K mg qH) (Aa:Ab K mg ja) (Fn:Fun K "done" "Above.done" ((jx (top 89) 0)) f fd) (kZ:zY P w K mg base ja) (YJ:jhy P w K mg base ja):FnOk P w K mg base CX0 4 f fd ["self","one"] (sp2 K (pF (Wn ja qH)) (pF (cT cI)) (rF (cT cI)) ky):=by
  refine(ok2 Fn jad fun cdv A outer s H0 Q E_ hr nd hu self one xI Jb Fe R X jt kG Hm Kk=>?_);refine⟨_,(jd (qh (pD_ kZ hr (jc (j3 (pv 0) rfl) (jc (pv 1) je)))) (jd (pS (i:=2) nd (pv 1)) (jd (xG PassesOwn.never rfl (jgD rfl B.range_ (jc (kB jw B.len_ (pv 1)) (jc jo (jc (jaG VW jo) je)))) (pG (i:=3) nd) (jg (pS (i:=2) nd (jK jdT (pD_ YJ hr (jc (j3 (pv 0) rfl) (jc (zp Zc (pv 2) GE (GF (pv 3))) je))) (zp Zc (pv 2) (GF (pv 3)) GE))))) (jg (jv (pv 2)))))),?_⟩
  try dsimp only[jQ]
  unfold ky at Hm;replace jt:(Wn ja qH).rep K Fe self xI:=jt;replace kG:(cT cI).rep K Fe one Jb:=kG;refine(JS (K:=K) (jr (js (J4 As) (eV (i:=0) jt) rfl) (eV (i:=1) kG) rfl) X Hm ?_);intro _ F H Hm E X;replace jt:=E.xc jt;replace kG:=E.xc kG;refine(yQ (K:=K) (c:=(cT cI)) (eV (i:=1) kG) X Hm ?_);intro row yb F H Hm E X jM;replace jt:=E.xc jt;replace kG:=E.xc kG;refine JK (K:=K) (c:=cI) ?_ X Hm (fun F1 row σ' F' H'=>∃ (yb:V) (w1_:Option V),σ'=[some xI,some Jb,some yb,w1_]/\(Ext Fe H0 F' H'/\Same F1 F')/\(cT cI).rep K F' row yb) ?_ ?_ ?_ ?_
  ·exact(jcr (jk jdD (jZ (p:=pF (cT cI)) (i:=1) rfl kG) rfl) (jp _) (zB o_u (jp _) rfl) rfl)
  ·intro F H E X;replace jM:=E.xc jM;exact⟨_,_,rfl,⟨X,(Same.refl _)⟩,jM⟩
  ·rintro F1 row σ_ F_ H_ ⟨yb,w1_,rfl,⟨X_,SF_⟩,jM⟩;exact⟨X_,SF_⟩
  ·rintro F1 S0_ row B_ end_ jno σ_ F_ H_ F H ⟨yb,w1_,rfl,⟨X,SF_⟩,jM⟩ E jnp Hm
   try dsimp only at Hm
   have SL0:=SF_;replace SF_:=Same.trans S0_ SF_;replace jt:=Cd.mono _ SF_ jt;replace X:=Ext.trans X E;replace jt:=E.xc jt;replace jM:=E.xc jM;replace SL0:=E.xd SL0;obtain rfl:jno=.int end_:=jnp;refine yf ?_;refine(JQ (K:=K) (c:=(cT cI)) (jy jjK (jr (js (J4 As) (eV (i:=0) jt) rfl) (Qy (eV (i:=2) jM) GH (qU (eI (i:=3)) rfl) rfl) rfl) (Qy (eV (i:=2) jM) (qU (eI (i:=3)) rfl) GH rfl) rfl) X Hm ?_);intro row yb F H Hm E X jM;replace SL0:=E.xd SL0;cases Hm;exact⟨F,_,_,rfl,⟨X,SL0⟩,jM⟩
  ·rintro F1 S0_ row σ_ F H Hm ⟨yb,w1_,rfl,⟨X,SF_⟩,jM⟩
   try dsimp only at Hm
   exact jB (K:=K) (eV (i:=2) jM) X Hm Kk
def jc5:FnScope ["spot"] ["spot"] (jh (top 109)):=scK
def jc6 (B:BiX P w K mg base) (As:Ax K mg qH) (Aa:Ab K mg ja) (Ad:Ah K mg ji) (Fn:Fun K "at_above" "at_above" (top 109) f fd) (Qk:Kls P w K mg base "Above" qH 1 ["self","order"] (jis K qH (pF (jl ja)) (Wn ja qH) yz)) (Ql:Mth P w K mg base qH "done" 4 ["self","one"] (sp2 K (pF (Wn ja qH)) (pF (cT cI)) (rF (cT cI)) ky)) (kM:zK P w K mg base ja ji):FnOk P w K mg base CX0 5 f fd ["spot"] (sp1 K (pF (jT ja ji)) (rF (jT ja ji)) yA):=by
  refine(ok1 Fn jc5 fun cdv A outer s H0 Q E_ hr nd hu spot k6 Fe R X jq Hm Kk=>?_);refine⟨_,(jg (jv (pD_ kM hr (jc (pv 0) (jc (qE Ql (hr.mono (by decide)) (JF Qk (hr.mono (by decide)) rfl (jc (j3 (pv 0) rfl) je)) (jc (j3 (pv 0) rfl) je)) je))))),?_⟩
  try dsimp only[jQ]
  unfold yA at Hm;replace jq:(jT ja ji).rep K Fe spot k6:=jq;exact jB (K:=K) (jY (eV (i:=0) jq) (GZ Zv (yt (js (jU Ad) (eV (i:=0) jq) rfl) rfl) (js (yS Ad) (eV (i:=0) jq) rfl) rfl) rfl) X Hm Kk
def A6:FnScope ["self","order"] ["self","order"] (jh ((jx (top 86) 0))):=scK
def jaf (B:BiX P w K mg base) (At:Ay K mg qI) (Aa:Ab K mg ja) (Fn:Fun K "__init__" "Turn.__init__" ((jx (top 86) 0)) f fd):FnOk P w K mg base CX0 1 f fd ["self","order"] (jis K qI (pF (jl ja)) (Wo ja qI) yB):=by
 refine Fn.ok A6 (fun vs H Q E h=>?_) (fun cdv A outer s Hq vs Q E_ hr h=>?_)
 ·obtain⟨_,_,_,_,_,_,_,rfl,_⟩:=h;rfl
 ·obtain⟨order,jz,Fe,H0,x_self,dx_self,R,rfl,rfl,n1_,n2_,n3_,S_,jb,Hm,Kk⟩:=h;have nd:=A6.nd;have hu:=QK hr;refine⟨_,(jg (zz (pv 0) (pv 1) rfl)),?_⟩
  try dsimp only[jQ]
  obtain⟨X,j0⟩:=yr (C:=qI) S_ n1_ n2_ n3_;unfold yB at Hm;replace jb:(jl ja).rep K Fe order jz:=jb;refine(Vq (K:=K) (k':=0) (c:=(jl ja)) rfl j0 At.cl At.n_order (XG (Xe 0) (by decide:0<1000)) (eV (i:=1) jb) X Hm ?_);intro f_order Gz F H Hm Cg X kz j0;cases Hm;obtain⟨F',X',Cg,hx⟩:=OwnI.freeze j0 X;exact Kk F' H X' ⟨x_self,dx_self,_,rfl,hx,Cd.mono _ Cg.f kz⟩
def jag:FnScope ["self","one","row","start"] ["self","one"] (jh ((jx (top 90) 0))):=scK
def jah (B:BiX P w K mg base) (At:Ay K mg qI) (Aa:Ab K mg ja) (Fn:Fun K "done" "Below.done" ((jx (top 90) 0)) f fd) (kZ:zY P w K mg base ja) (zm:Vu P w K mg base ja):FnOk P w K mg base CX0 4 f fd ["self","one"] (sp2 K (pF (Wo ja qI)) (pF (cT cI)) (rF (cT cI)) qw):=by
  refine(ok2 Fn jag fun cdv A outer s H0 Q E_ hr nd hu self one xI Jb Fe R X jt kG Hm Kk=>?_);refine⟨_,(jd (qh (pD_ kZ hr (jc (j3 (pv 0) rfl) (jc (pv 1) je)))) (jd (pS (i:=2) nd (pv 1)) (jd (xG PassesOwn.never rfl (kI rfl B.range_ (jc (jK Vn (kB jw B.len_ (pv 1)) jo) je)) (pG (i:=3) nd) (jg (pS (i:=2) nd (jK jdT (zp Zc (pv 2) GE (GF (pv 3))) (pD_ zm hr (jc (j3 (pv 0) rfl) (jc (zp Zc (pv 2) (GF (pv 3)) GE) je))))))) (jg (jv (pv 2)))))),?_⟩
  try dsimp only[jQ]
  unfold qw at Hm;replace jt:(Wo ja qI).rep K Fe self xI:=jt;replace kG:(cT cI).rep K Fe one Jb:=kG;refine(JS (K:=K) (jr (js (J5 At) (eV (i:=0) jt) rfl) (eV (i:=1) kG) rfl) X Hm ?_);intro _ F H Hm E X;replace jt:=E.xc jt;replace kG:=E.xc kG;refine(yQ (K:=K) (c:=(cT cI)) (eV (i:=1) kG) X Hm ?_);intro row yb F H Hm E X jM;replace jt:=E.xc jt;replace kG:=E.xc kG;refine JK (K:=K) (c:=cI) ?_ X Hm (fun F1 row σ' F' H'=>∃ (yb:V) (w1_:Option V),σ'=[some xI,some Jb,some yb,w1_]/\(Ext Fe H0 F' H'/\Same F1 F')/\(cT cI).rep K F' row yb) ?_ ?_ ?_ ?_
  ·exact(qV (jf kN (jk jdD (jZ (p:=pF (cT cI)) (i:=1) rfl kG) rfl) (jp _) rfl) rfl)
  ·intro F H E X;replace jM:=E.xc jM;exact⟨_,_,rfl,⟨X,(Same.refl _)⟩,jM⟩
  ·rintro F1 row σ_ F_ H_ ⟨yb,w1_,rfl,⟨X_,SF_⟩,jM⟩;exact⟨X_,SF_⟩
  ·rintro F1 S0_ row B_ GV jlC σ_ F_ H_ F H ⟨yb,w1_,rfl,⟨X,SF_⟩,jM⟩ E jlD Hm
   try dsimp only at Hm
   have SL0:=SF_;replace SF_:=Same.trans S0_ SF_;replace jt:=Cd.mono _ SF_ jt;replace X:=Ext.trans X E;replace jt:=E.xc jt;replace jM:=E.xc jM;replace SL0:=E.xd SL0;obtain rfl:jlC=.int GV:=jlD;refine yf ?_;refine(JQ (K:=K) (c:=(cT cI)) (jy jjK (Qy (eV (i:=2) jM) GH (qU (eI (i:=3)) rfl) rfl) (jr (js (J5 At) (eV (i:=0) jt) rfl) (Qy (eV (i:=2) jM) (qU (eI (i:=3)) rfl) GH rfl) rfl) rfl) X Hm ?_);intro row yb F H Hm E X jM;replace SL0:=E.xd SL0;cases Hm;exact⟨F,_,_,rfl,⟨X,SL0⟩,jM⟩
  ·rintro F1 S0_ row σ_ F H Hm ⟨yb,w1_,rfl,⟨X,SF_⟩,jM⟩
   try dsimp only at Hm
   exact jB (K:=K) (eV (i:=2) jM) X Hm Kk
def jc7:FnScope ["spot"] ["spot"] (jh (top 110)):=scK
def jc8 (B:BiX P w K mg base) (At:Ay K mg qI) (Aa:Ab K mg ja) (Ad:Ah K mg ji) (Fn:Fun K "at_below" "at_below" (top 110) f fd) (Qm:Kls P w K mg base "Below" qI 1 ["self","order"] (jis K qI (pF (jl ja)) (Wo ja qI) yB)) (Qn:Mth P w K mg base qI "done" 4 ["self","one"] (sp2 K (pF (Wo ja qI)) (pF (cT cI)) (rF (cT cI)) qw)) (kM:zK P w K mg base ja ji):FnOk P w K mg base CX0 5 f fd ["spot"] (sp1 K (pF (jT ja ji)) (rF (jT ja ji)) yC):=by
  refine(ok1 Fn jc7 fun cdv A outer s H0 Q E_ hr nd hu spot k6 Fe R X jq Hm Kk=>?_);refine⟨_,(jg (jv (pD_ kM hr (jc (pv 0) (jc (qE Qn (hr.mono (by decide)) (JF Qm (hr.mono (by decide)) rfl (jc (j3 (pv 0) rfl) je)) (jc (j3 (pv 0) rfl) je)) je))))),?_⟩
  try dsimp only[jQ]
  unfold yC at Hm;replace jq:(jT ja ji).rep K Fe spot k6:=jq;exact jB (K:=K) (jY (eV (i:=0) jq) (GZ Zx (yt (js (jU Ad) (eV (i:=0) jq) rfl) rfl) (js (yS Ad) (eV (i:=0) jq) rfl) rfl) rfl) X Hm Kk
def WE:FnScope ["k"] ["k"] (jh (top 50)):=scK
def WF (B:BiX P w K mg base) (Fn:Fun K "check_stairs" "check_stairs" (top 50) f fd) (Jx:∃ t,mg "MOST_STAIRS"=some (.int 3 t)):FnOk P w K mg base CX0 1 f fd ["k"] (sp1 K (pF cI) (rF cU) zu):=by
  refine(ok1 Fn WE fun cdv A outer s H0 Q E_ hr nd hu k_ V_k_ Fe R X P_k_ Hm Kk=>?_);obtain⟨t_MOST_STAIRS,g_MOST_STAIRS⟩:=Jx;refine⟨_,(jg (xB (JC (Qs VA VA jo (pv 0) (UR (v:=.int 3) rfl g_MOST_STAIRS ⟨_,rfl⟩))) (jg qL) ka)),?_⟩
  try dsimp only[jQ]
  unfold zu at Hm;obtain rfl:V_k_=.int k_:=P_k_;refine(jdI (K:=K) (GX (qc (Jg (jp _) (eI (i:=0)) (jp _) rfl)) rfl) X Hm ?_ ?_)
  ·intro F H Hc Hm E X;cases Hm
  ·intro F H Hc Hm E X;refine Jf ?_;cases Hm;exact Kk _ F H X rfl
def jc9:FnScope ["widths","found","row"] ["widths"] (jh (top 51)):=scK
def jc_ (B:BiX P w K mg base) (Fn:Fun K "cells_of" "cells_of" (top 51) f fd):FnOk P w K mg base CX0 1 f fd ["widths"] (sp1 K (pB cI) (rO (cP cI cI)) G4):=by
  refine(ok1 Fn jc9 fun cdv A outer s H0 Q E_ hr nd hu widths jeh Fe R X jei Hm Kk=>?_);refine⟨_,(jd (pS (i:=1) nd (xM je)) (jd (xG PassesOwn.never rfl (kI rfl B.range_ (jc (kB jw B.len_ (pv 0)) je)) (pG (i:=2) nd) (jg (qh (Gd Xv PySem.F.slot_list_extend PySem.F.type_list_extend jaQ (pv 1) (jc (k9 (own:=["column"]) (ix:=[2]) (qD rfl) rfl (kI rfl B.range_ (jc (pX k8 (pv 0) (pv 2)) je)) (fun _=>(kA (i:=0) (show List.Nodup (["column","row"]:List Str) by decide +kernel) rfl (Or.inl rfl))) (fun _=>xg) (fun _=>(Gr (jc (pv 1) (jc (pv 0) je))))) je))))) (jg (jv (pv 1))))),?_⟩
  try dsimp only[jQ]
  unfold G4 at Hm;have xL:Bor K H0 Fe cI widths jeh:=jei;clear jei;refine(JR (K:=K) (xO (xN (c:=(cP cI cI))) (by decide)) X Hm ?_);intro found kE F H Hm E X Hn Ac;replace xL:=E.xb xL;refine JK (K:=K) (c:=cI) ?_ X Hm (fun F1 found σ' F' H'=>∃ (kE:Addr) (w1_:Option V),σ'=[some jeh,some (.ref kE),w1_]/\(Ext Fe H0 F' H'/\Same F1 F')/\Own K H0 F' H' (cP cI cI) found kE) ?_ ?_ ?_ ?_
  ·exact(qV (jk xi (jS (jZ (p:=pB cI) (i:=0) rfl (Bor.b xL X))) rfl) rfl)
  ·intro F H E X;replace Ac:=Ac.mono E;exact⟨_,_,rfl,⟨X,(Same.refl _)⟩,Ac⟩
  ·rintro F1 found σ_ F_ H_ ⟨kE,w1_,rfl,⟨X_,SF_⟩,Ac⟩;exact⟨X_,SF_⟩
  ·rintro F1 S0_ found B_ row yb σ_ F_ H_ F H ⟨kE,w1_,rfl,⟨X,SF_⟩,Ac⟩ E jM Hm
   try dsimp only at Hm
   have SL0:=SF_;replace SF_:=Same.trans S0_ SF_;replace xL:=Bor.mono xL SF_;replace X:=Ext.trans X E;replace xL:=E.xb xL;replace Ac:=Ac.mono E;replace SL0:=E.xd SL0;obtain rfl:yb=.int row:=jM;refine yf ?_;refine(ja1 (K:=K) (k':=1) rfl Ac (kJ (qy (JU (jf zA (jS (jZ (p:=pB cI) (i:=0) rfl (Bor.b xL X))) (eI (i:=2)) rfl) rfl) [some (.int row)] rfl (fun b4 column _ _ E3=>yq) (fun b4 column _ _ E3=>(qT (eI (i:=1)) (eI (i:=0)) rfl)) rfl)) X Hm ?_);intro found F H Hm Cg X Ac;replace SL0:=Same.trans SL0 Cg.f;cases Hm;exact⟨F,_,_,rfl,⟨X,SL0⟩,Ac⟩
  ·rintro F1 S0_ found σ_ F H Hm ⟨kE,w1_,rfl,⟨X,SF_⟩,Ac⟩
   try dsimp only at Hm
   exact Y7 (K:=K) (i:=1) rfl Ac X Hm Kk
def WG:FnScope ["k"] ["k"] (jh (top 52)):=scK
def WH (B:BiX P w K mg base) (Fn:Fun K "stairs_cells" "stairs_cells" (top 52) f fd) (Gb:Ww P w K mg base):FnOk P w K mg base CX0 2 f fd ["k"] (sp1 K (pF cI) (rO (cP cI cI)) zv):=by
  refine(ok1 Fn WG fun cdv A outer s H0 Q E_ hr nd hu k_ V_k_ Fe R X P_k_ Hm Kk=>?_);refine⟨_,(jg (jv (pD_ Gb hr (jc (jiA rfl rfl B.list_ rfl B.range_ (jc (pv 0) (jc jo (jc (jaG VW jo) je)))) je)))),?_⟩
  try dsimp only[jQ]
  unfold zv at Hm;obtain rfl:V_k_=.int k_:=P_k_;exact jB (K:=K) (kU (kJ (ja6 (eI (i:=0)) (jp _) (zB o_u (jp _) rfl) rfl)) rfl) X Hm Kk
def UK:FnScope ["one","other"] ["one","other"] (jh (top 53)):=scK
def UL (B:BiX P w K mg base) (Fn:Fun K "neither_greater" "neither_greater" (top 53) f fd):FnOk P w K mg base CX0 1 f fd ["one","other"] (sp2 K (pF (cP cI cI)) (pF (cP cI cI)) (rF cB) x5):=by
  refine(ok2 Fn UK fun cdv A outer s H0 Q E_ hr nd hu one other Jb Vj Fe R X kG Jv Hm Kk=>?_);refine⟨_,(jg (jv (jdp (JN VA (pX zQ (pv 0) jo) (pX zQ (pv 1) jo) (jX _)) (jdo (JN VA (pX zQ (pv 0) jo) (pX zQ (pv 1) jo) (jX _)))))),?_⟩
  try dsimp only[jQ]
  unfold x5 at Hm;replace kG:(cP cI cI).rep K Fe one Jb:=kG;replace Jv:(cP cI cI).rep K Fe other Vj:=Jv;exact jB (K:=K) (jeL (jf zj (Yr (eV (i:=0) kG) rfl) (Yr (eV (i:=1) Jv) rfl) rfl) (jf zj (Ys (eV (i:=0) kG) rfl) (Ys (eV (i:=1) Jv) rfl) rfl) rfl) X Hm Kk
def jda:FnScope ["cells","pairs","high"] ["cells"] (jh (top 54)):=scK
def jdb (B:BiX P w K mg base) (Aa:Ab K mg ja) (Fn:Fun K "order_of" "order_of" (top 54) f fd) (zo:Def P w K mg base "neither_greater" 1 ["one","other"] (sp2 K (pF (cP cI cI)) (pF (cP cI cI)) (rF cB) x5)) (yG:UF P w K mg base ja):FnOk P w K mg base CX0 6 f fd ["cells"] (sp1 K (pB (cP cI cI)) (rF (jl ja)) G5):=by
  refine(ok1 Fn jda fun cdv A outer s H0 Q E_ hr nd hu cells zg Fe R X jD Hm Kk=>?_);refine⟨_,(jd (pS (i:=1) nd (xM je)) (jd (xG PassesOwn.never rfl (kI rfl B.range_ (jc (kB jw B.len_ (pv 0)) je)) (pG (i:=2) nd) (jg (qh (Gd Xv PySem.F.slot_list_extend PySem.F.type_list_extend jaQ (pv 1) (jc (k9 (own:=["low"]) (ix:=[0,2]) (qD rfl) rfl (kI rfl B.range_ (jc (pv 2) je)) (fun _=>(kA (i:=0) (show List.Nodup (["low","cells","high"]:List Str) by decide +kernel) rfl (Or.inl rfl))) (fun _=>GG (GR (pD_ zo hr (jc (pX k8 (pv 1) (pv 0)) (jc (pX k8 (pv 1) (pv 2)) je))))) (fun _=>(Gr (jc (pv 0) (jc (pv 2) je))))) je))))) (jg (jv (JF yG (hr.mono (by decide)) rfl (jc (kB jw B.len_ (pv 0)) (jc (pv 1) je))))))),?_⟩
  try dsimp only[jQ]
  unfold G5 at Hm;have ye:Bor K H0 Fe (cP cI cI) cells zg:=jD;clear jD;refine(JR (K:=K) (xO (xN (c:=(cP cI cI))) (by decide)) X Hm ?_);intro pairs k0 F H Hm E X Hn Ae;replace ye:=E.xb ye;refine JK (K:=K) (c:=cI) ?_ X Hm (fun F1 pairs σ' F' H'=>∃ (k0:Addr) (w1_:Option V),σ'=[some zg,some (.ref k0),w1_]/\(Ext Fe H0 F' H'/\Same F1 F')/\Own K H0 F' H' (cP cI cI) pairs k0) ?_ ?_ ?_ ?_
  ·exact(qV (jk xi (jS (jZ (p:=pB (cP cI cI)) (i:=0) rfl (Bor.b ye X))) rfl) rfl)
  ·intro F H E X;replace Ae:=Ae.mono E;exact⟨_,_,rfl,⟨X,(Same.refl _)⟩,Ae⟩
  ·rintro F1 pairs σ_ F_ H_ ⟨k0,w1_,rfl,⟨X_,SF_⟩,Ae⟩;exact⟨X_,SF_⟩
  ·rintro F1 S0_ pairs B_ high G6 σ_ F_ H_ F H ⟨k0,w1_,rfl,⟨X,SF_⟩,Ae⟩ E G7 Hm
   try dsimp only at Hm
   have SL0:=SF_;replace SF_:=Same.trans S0_ SF_;replace ye:=Bor.mono ye SF_;replace X:=Ext.trans X E;replace ye:=E.xb ye;replace Ae:=Ae.mono E;replace SL0:=E.xd SL0;obtain rfl:G6=.int high:=G7;refine yf ?_;refine(ja1 (K:=K) (k':=1) rfl Ae (kJ (qy (Gf (eI (i:=2)) rfl) [some zg,some (.int high)] rfl (fun b3 low _ _ E2=>(zR (jY (jf zA (jS (jZ (p:=pB (cP cI cI)) (i:=1) rfl (Bor.b (Bor.mono ye (E2).f) (Ext.trans X (E2))))) (eI (i:=0)) rfl) (jf zA (jS (jZ (p:=pB (cP cI cI)) (i:=1) rfl (Bor.b (Bor.mono ye (E2).f) (Ext.trans X (E2))))) (eI (i:=2)) rfl) rfl))) (fun b3 low _ _ E2=>(qT (eI (i:=0)) (eI (i:=2)) rfl)) rfl)) X Hm ?_);intro pairs F H Hm Cg X Ae;replace SL0:=Same.trans SL0 Cg.f;cases Hm;exact⟨F,_,_,rfl,⟨X,SL0⟩,Ae⟩
  ·rintro F1 S0_ pairs σ_ F H Hm ⟨k0,w1_,rfl,⟨X,SF_⟩,Ae⟩
   try dsimp only at Hm
   replace SF_:=Same.trans S0_ SF_;replace ye:=Bor.mono ye SF_;exact jB (K:=K) (JX (jk xi (jS (jZ (p:=pB (cP cI cI)) (i:=0) rfl (Bor.b ye X))) rfl) (jZ (p:=pB (cP cI cI)) (i:=1) rfl Ae.b) rfl) X Hm Kk
def jhB:FnScope ["k"] ["k"] (jh (top 56)):=scK
def jhC (B:BiX P w K mg base) (Aa:Ab K mg ja) (Fn:Fun K "stairs" "stairs" (top 56) f fd) (GP:Def P w K mg base "check_stairs" 1 ["k"] (sp1 K (pF cI) (rF cU) zu)) (GQ:Def P w K mg base "stairs_cells" 2 ["k"] (sp1 K (pF cI) (rO (cP cI cI)) zv)) (Gc:Wx P w K mg base ja):FnOk P w K mg base CX0 7 f fd ["k"] (sp1 K (pF cI) (rF (jl ja)) Uy):=by
  refine(ok1 Fn jhB fun cdv A outer s H0 Q E_ hr nd hu k_ V_k_ Fe R X P_k_ Hm Kk=>?_);refine⟨_,(jd (qh (pD_ GP hr (jc (pv 0) je))) (jg (jv (pD_ Gc hr (jc (pD_ GQ hr (jc (pv 0) je)) je))))),?_⟩
  try dsimp only[jQ]
  unfold Uy at Hm;obtain rfl:V_k_=.int k_:=P_k_;refine(JS (K:=K) (jC (eI (i:=0)) rfl) X Hm ?_);intro _ F H Hm E X;exact jB (K:=K) (kU (kJ (jC (eI (i:=0)) rfl)) rfl) X Hm Kk
def jbH:FnScope ["spot","k"] ["spot","k"] (jh (top 100)):=scK
def jbI (B:BiX P w K mg base) (Aa:Ab K mg ja) (Ad:Ah K mg ji) (Fn:Fun K "at_stairs" "at_stairs" (top 100) f fd) (jay:Def P w K mg base "stairs" 7 ["k"] (sp1 K (pF cI) (rF (jl ja)) Uy)) (qP:Jq P w K mg base ja ji):FnOk P w K mg base CX0 8 f fd ["spot","k"] (sp2 K (pF (jT ja ji)) (pF cI) (rF (jT ja ji)) yn):=by
  refine(ok2 Fn jbH fun cdv A outer s H0 Q E_ hr nd hu spot k_ k6 V_k_ Fe R X jq P_k_ Hm Kk=>?_);refine⟨_,(jg (jv (pD_ qP hr (jc (pD_ jay hr (jc (pv 1) je)) je)))),?_⟩
  try dsimp only[jQ]
  unfold yn at Hm;replace jq:(jT ja ji).rep K Fe spot k6:=jq;obtain rfl:V_k_=.int k_:=P_k_;exact jB (K:=K) (kU (jC (eI (i:=1)) rfl) rfl) X Hm Kk
def jai:FnScope ["order","place","found"] ["order","place"] (jh (top 34)):=scK
def jaj (B:BiX P w K mg base) (Aa:Ab K mg ja) (Fn:Fun K "downset_at" "downset_at" (top 34) f fd) (qK:Jp P w K mg base ja):FnOk P w K mg base CX0 5 f fd ["order","place"] (sp2 K (pF (jl ja)) (pF cI) (rF cI) zG):=by
  refine(ok2 Fn jai fun cdv A outer s H0 Q E_ hr nd hu order place jz WN Fe R X jb WO Hm Kk=>?_);refine⟨_,(jd (pS (i:=2) nd (pD_ qK hr (jc (pv 0) je))) (jd (xB (JC (Qs VA WY jo (pv 1) (kB jw B.len_ (pv 2)))) (jg qL) ka) (jg (jv (pX k8 (pv 2) (pv 1)))))),?_⟩
  try dsimp only[jQ]
  unfold zG at Hm;replace jb:(jl ja).rep K Fe order jz:=jb;obtain rfl:WN=.int place:=WO;refine(yQ (K:=K) (c:=(cL cI)) (xh (jC (eV (i:=0) jb) rfl)) X Hm ?_);intro found jof F H Hm E X Vl;refine(Ur (K:=K) (GX (qc (Jg (jp _) (eI (i:=1)) (jk xi (jS (qx (eV (i:=2) Vl))) rfl) rfl)) rfl) X Hm ?_ ?_)
  ·intro F H Hc Hm E X;cases Hm
  ·intro F H Hc Hm E X;replace Vl:=E.xc Vl;refine Jf ?_;exact jB (K:=K) (jf zA (jS (qx (eV (i:=2) Vl))) (eI (i:=1)) rfl) X Hm Kk
def jfe:FnScope ["spot","place"] ["spot","place"] (jh (top 101)):=scK
def jff (B:BiX P w K mg base) (Aa:Ab K mg ja) (Ad:Ah K mg ji) (Fn:Fun K "at_down" "at_down" (top 101) f fd) (Qo:Def P w K mg base "downset_at" 5 ["order","place"] (sp2 K (pF (jl ja)) (pF cI) (rF cI) zG)) (xH:Qe P w K mg base ja ji):FnOk P w K mg base CX0 6 f fd ["spot","place"] (sp2 K (pF (jT ja ji)) (pF cI) (rF (jT ja ji)) zH):=by
  refine(ok2 Fn jfe fun cdv A outer s H0 Q E_ hr nd hu spot place k6 WN Fe R X jq WO Hm Kk=>?_);refine⟨_,(jg (jv (pD_ xH hr (jc (pv 0) (jc (pD_ Qo hr (jc (j3 (pv 0) rfl) (jc (pv 1) je))) je))))),?_⟩
  try dsimp only[jQ]
  unfold zH at Hm;replace jq:(jT ja ji).rep K Fe spot k6:=jq;obtain rfl:WN=.int place:=WO;exact jB (K:=K) (jY (eV (i:=0) jq) (jr (js (jU Ad) (eV (i:=0) jq) rfl) (eI (i:=1)) rfl) rfl) X Hm Kk
def jfg:FnScope ["spot","number"] ["spot","number"] (jh (top 103)):=scK
def jfh (B:BiX P w K mg base) (Aa:Ab K mg ja) (Ad:Ah K mg ji) (Fn:Fun K "at_line" "at_line" (top 103) f fd) (Ja:YI P w K mg base ja) (kM:zK P w K mg base ja ji):FnOk P w K mg base CX0 7 f fd ["spot","number"] (sp2 K (pF (jT ja ji)) (pF cI) (rF (jT ja ji)) zI):=by
  refine(ok2 Fn jfg fun cdv A outer s H0 Q E_ hr nd hu spot number k6 jan Fe R X jq jao Hm Kk=>?_);refine⟨_,(jg (jv (pD_ kM hr (jc (pv 0) (jc (pD_ Ja hr (jc (j3 (pv 0) rfl) (jc (pv 1) je))) je))))),?_⟩
  try dsimp only[jQ]
  unfold zI at Hm;replace jq:(jT ja ji).rep K Fe spot k6:=jq;obtain rfl:jan=.int number:=jao;exact jB (K:=K) (jY (eV (i:=0) jq) (jr (js (jU Ad) (eV (i:=0) jq) rfl) (eI (i:=1)) rfl) rfl) X Hm Kk
def Ye:FnScope ["a","b"] ["a","b"] (jh (top 49)):=scK
def Yf (B:BiX P w K mg base) (Fn:Fun K "check_field" "check_field" (top 49) f fd) (x9:∃ t,mg "MOST_THINGS"=some (.int 9 t)):FnOk P w K mg base CX0 1 f fd ["a","b"] (sp2 K (pF cI) (pF cI) (rF cU) zX):=by
  refine(ok2 Fn Ye fun cdv A outer s H0 Q E_ hr nd hu a_ b_ V_a_ V_b_ Fe R X P_a_ P_b_ Hm Kk=>?_);obtain⟨t_MOST_THINGS,g_MOST_THINGS⟩:=x9;refine⟨_,(jg (xB (PW.pt (WW (jP WY (pv 0) jo (jX _)) (WW (jP WY (pv 1) jo (jX _)) (Vm (jP WZ (jK GT (pv 0) (pv 1)) (UR (v:=.int 9) rfl g_MOST_THINGS ⟨_,rfl⟩) (jX _)))))) (jg qL) ka)),?_⟩
  try dsimp only[jQ]
  unfold zX at Hm;obtain rfl:V_a_=.int a_:=P_a_;obtain rfl:V_b_=.int b_:=P_b_;refine(jia (K:=K) (V_ (qc (jf zj (eI (i:=0)) (jp _) rfl)) (V_ (qc (jf zj (eI (i:=1)) (jp _) rfl)) (qc (jy zj (jf VB (eI (i:=0)) (eI (i:=1)) rfl) (jp _) rfl)) rfl) rfl) X Hm ?_ ?_)
  ·intro F H Hm E X
   try dsimp only[wc] at Hm
   cases Hm
  ·intro F H Hm E X
   try dsimp only[X7] at Hm
   refine Jf ?_;cases Hm;exact Kk _ F H X rfl
def jjf:FnScope ["a","b"] ["a","b"] (jh (top 55)):=scK
def jjg (B:BiX P w K mg base) (Aa:Ab K mg ja) (Fn:Fun K "field" "field" (top 55) f fd) (Jy:Def P w K mg base "check_field" 1 ["a","b"] (sp2 K (pF cI) (pF cI) (rF cU) zX)) (Gb:Ww P w K mg base) (Gc:Wx P w K mg base ja):FnOk P w K mg base CX0 7 f fd ["a","b"] (sp2 K (pF cI) (pF cI) (rF (jl ja)) Gk):=by
  refine(ok2 Fn jjf fun cdv A outer s H0 Q E_ hr nd hu a_ b_ V_a_ V_b_ Fe R X P_a_ P_b_ Hm Kk=>?_);refine⟨_,(jd (qh (pD_ Jy hr (jc (pv 0) (jc (pv 1) je)))) (jg (jv (pD_ Gc hr (jc (pD_ Gb hr (jc (jK jfO (xM (jc (pv 1) je)) (pv 0)) je)) je))))),?_⟩
  try dsimp only[jQ]
  unfold Gk at Hm;obtain rfl:V_a_=.int a_:=P_a_;obtain rfl:V_b_=.int b_:=P_b_;refine(JS (K:=K) (jr (eI (i:=0)) (eI (i:=1)) rfl) X Hm ?_);intro _ F H Hm E X;exact jB (K:=K) (kU (kJ (kU (kJ (jf jkX (kJ (xO (qS (eI (i:=1)) (xN (c:=cI)) rfl) (by decide))) (eI (i:=0)) rfl)) rfl)) rfl) X Hm Kk
def jbJ:FnScope ["spot","row","words","name","numbers"] ["spot","row"] (jh (top 124)):=scK
def jbK (B:BiX P w K mg base) (Aa:Ab K mg ja) (Ad:Ah K mg ji) (Fn:Fun K "step_from" "step_from" (top 124) f fd) (Jz:∃ t,mg "ORDER_START"=some (.str "order " t)) (Uf:Def P w K mg base "is_number" 1 ["word"] (sp1 K (pF cS) (rF cB) xU)) (zZ:TabD P w K mg base "PLAIN_STEPS" 9 (ji1 K (pF (jT ja ji)) (rF (jT ja ji)) zW)) (zy:TabD P w K mg base "NUMBER_STEPS" 9 (jlk K (pF (jT ja ji)) (pF cI) (rF (jT ja ji)) zw)) (jdj:Def P w K mg base "field" 7 ["a","b"] (sp2 K (pF cI) (pF cI) (rF (jl ja)) Gk)) (qP:Jq P w K mg base ja ji):FnOk P w K mg base CX0 10 f fd ["spot","row"] (sp2 K (pF (jT ja ji)) (pF cS) (rF (jT ja ji)) kg):=by
  refine(ok2 Fn jbJ fun cdv A outer s H0 Q E_ hr nd hu spot row k6 yb Fe R X jq jM Hm Kk=>?_);obtain⟨t_ORDER_START,g_ORDER_START⟩:=Jz;refine⟨_,(jd (xB (GR (Gd Xz PySem.F.slot_str_startswith PySem.F.type_str_startswith jhe (pv 1) (jc (UR (v:=.str "order ") rfl g_ORDER_START ⟨_,rfl⟩) je))) (jg qL) ka) (jd (pS (i:=2) nd (Gd Xz PySem.F.slot_str_split PySem.F.type_str_split Ux (pv 1) (jc kr je))) (jd (pS (i:=3) nd (pX k8 (pv 2) jo)) (jd (Qu (i:=4) (own:=["word"]) (ix:=[]) (qD rfl) rfl (qF (zp UT (pv 2) (GF jo) GE)) (fun _=>(kA (i:=0) (show List.Nodup (["word"]:List Str) by decide +kernel) rfl (Or.inl rfl))) (fun _=>GG (GR (pD_ Uf hr (jc (pv 0) je)))) (fun _=>(cY Gg B.int_ (pv 0))) nd rfl rfl) (jd (xB (jP QH (kB jw B.len_ (pv 4)) (jK Vn (kB jw B.len_ (pv 2)) jo) (jX _)) (jg qL) ka) (jd (xB (PW.pt (jdn (jdm (jd4 zZ (by rfl) (pv 3) (ks:=["great","ungreat","slide","unslide","above","below"]) (by rfl)) (by with_unfolding_all rfl)) (YQ (jP GU (kB jw B.len_ (pv 4)) jo (jX _))))) (jg (jv (Wi zZ (hr.mono (by decide)) rfl (pv 3) (fun _ _=>rfl) (jc (pv 0) je)))) ka) (jd (xB (PW.pt (jdn (jdm (jd4 zy (by rfl) (pv 3) (ks:=["stairs","down","toggle","line","swap"]) (by rfl)) (by with_unfolding_all rfl)) (YQ (jP GU (kB jw B.len_ (pv 4)) jo (jX _))))) (jg (jv (Wi zy (hr.mono (by decide)) rfl (pv 3) (fun _ _=>rfl) (jc (pv 0) (jc (pX k8 (pv 4) jo) je))))) ka) (jd (xB (PW.pt (jdn (jP GU (pv 3) kr (jX _)) (YQ (jP GU (kB jw B.len_ (pv 4)) jo (jX _))))) (jg (jv (pD_ qP hr (jc (pD_ jdj hr (jc (pX k8 (pv 4) jo) (jc (pX k8 (pv 4) jo) je))) je)))) ka) (jg qL))))))))),?_⟩
  try dsimp only[jQ]
  unfold kg at Hm;replace jq:(jT ja ji).rep K Fe spot k6:=jq;obtain rfl:yb=.str row:=jM;refine(Ur (K:=K) (zR (Zo (Qv (i:=1) rfl) (ko _) rfl)) X Hm ?_ ?_)
  ·intro F H Hc Hm E X;cases Hm
  ·intro F H Hc Hm E X;replace jq:=E.xc jq;refine Jf ?_;refine(yQ (K:=K) (c:=(cL cS)) (xh (jbf (Qv (i:=1) rfl) (ko _) rfl)) X Hm ?_);intro words jog F H Hm E X qC;replace jq:=E.xc jq;refine(jdO (K:=K) (jf zA (jS (qx (eV (i:=2) qC))) (jp _) rfl) X Hm ?_);intro name F H Hm E X;replace jq:=E.xc jq;replace qC:=E.xc qC;refine(yQ (K:=K) (c:=(cL cI)) (xh (JV (yP (jS (kJ (Ga (jS (qx (eV (i:=2) qC))) (qU (jp _) rfl) GH rfl)))) [] rfl (fun b2 word UO _ _ E1 GB=>(zR (jC (eV (i:=0) GB) rfl))) (fun b2 word UO _ _ E1 GB=>(jk Wg (eV (i:=0) GB) rfl)) rfl)) X Hm ?_);intro numbers jbM F H Hm E X j8;replace jq:=E.xc jq;replace qC:=E.xc qC;refine(Ur (K:=K) (qc (jf jb6 (jk xi (jS (qx (eV (i:=4) j8))) rfl) (jf kN (jk xi (jS (qx (eV (i:=2) qC))) rfl) (jp _) rfl) rfl)) X Hm ?_ ?_)
   ·intro F H Hc Hm E X;cases Hm
   ·intro F H Hc Hm E X;replace jq:=E.xc jq;replace j8:=E.xc j8;refine Jf ?_;refine(Ur (K:=K) (UX (zR (QC (Qv (i:=3) rfl) rfl)) (qc (jf UV (jk xi (jS (qx (eV (i:=4) j8))) rfl) (jp _) rfl)) rfl) X Hm ?_ ?_)
    ·intro F H Hc Hm E X;replace jq:=E.xc jq;exact jB (K:=K) (QR (Qv (i:=3) rfl) (eV (i:=0) jq) rfl) X Hm Kk
    ·intro F H Hc Hm E X;replace jq:=E.xc jq;replace j8:=E.xc j8;refine Jf ?_;refine(Ur (K:=K) (UX (zR (QC (Qv (i:=3) rfl) rfl)) (qc (jf UV (jk xi (jS (qx (eV (i:=4) j8))) rfl) (jp _) rfl)) rfl) X Hm ?_ ?_)
     ·intro F H Hc Hm E X;replace jq:=E.xc jq;replace j8:=E.xc j8;exact jB (K:=K) (jbi (Qv (i:=3) rfl) (eV (i:=0) jq) (jf zA (jS (qx (eV (i:=4) j8))) (jp _) rfl) rfl) X Hm Kk
     ·intro F H Hc Hm E X;replace j8:=E.xc j8;refine Jf ?_;refine(Ur (K:=K) (UX (qc (jf jeA (Qv (i:=3) rfl) (ko _) rfl)) (qc (jf UV (jk xi (jS (qx (eV (i:=4) j8))) rfl) (jp _) rfl)) rfl) X Hm ?_ ?_)
      ·intro F H Hc Hm E X;replace j8:=E.xc j8;exact jB (K:=K) (kU (jY (jf zA (jS (qx (eV (i:=4) j8))) (jp _) rfl) (jf zA (jS (qx (eV (i:=4) j8))) (jp _) rfl) rfl) rfl) X Hm Kk
      ·intro F H Hc Hm E X;refine Jf ?_;cases Hm
def Ba:FnScope ["self","row","step"] ["self","row"] (jh ((jx (top 125) 1))):=scK
def jbL (B:BiX P w K mg base) (Aj:Ar K mg jW) (Aa:Ab K mg ja) (Ad:Ah K mg ji) (Fn:Fun K "told" "Desk.told" ((jx (top 125) 1)) f fd) (JA:Mth P w K mg base jW "undone" 1 ["self"] (spK K jW (jT ja ji) csN cS (fun D z=>yY D))) (Ug:jed P w K mg base ja ji) (Uh:Def P w K mg base "step_from" 10 ["spot","row"] (sp2 K (pF (jT ja ji)) (pF cS) (rF (jT ja ji)) kg)):FnOk P w K mg base CX0 12 f fd ["self","row"] (spK K jW (jT ja ji) (csC cS csN) cS (fun D z=>jH D z.1)):=by
 refine Fn.ok Ba (fun vs H Q E h=>?_) (fun cdv A outer s Hq vs Q E_ hr h=>?_)
 ·obtain⟨_,_,_,_,_,_,_,rfl,_,_,hd_,_⟩:=h;obtain⟨_,_,rfl,_,rfl⟩:=hd_;rfl
 ·obtain⟨self,z_,jni,ws_,Fe,H0,R,rfl,X,xc,hd_,Hm,Kk⟩:=JZ h;obtain⟨yb,_,rfl,jM,rfl⟩:=hd_;obtain⟨row,_⟩:=z_;dsimp only at Hm jM;have nd:=Ba.nd;have hu:=QK hr;refine⟨_,(jd (xB (jP GU (pv 1) kr (jX _)) (jg (jv (yN JA (hr.mono (by decide)) (pv 0)))) ka) (jd (xB (jdm (jd4 Ug (by rfl) (pv 1) (ks:=["show","counts","where","round","mean","sizes","falls"]) (by rfl)) (by with_unfolding_all rfl)) (jg qL) ka) (jd (pS (i:=2) nd (pD_ Uh hr (jc (j3 (pv 0) rfl) (jc (pv 1) je)))) (jd (qh (Gd Xv XT XS yM (j3 (pv 0) rfl) (jc (j3 (pv 0) rfl) je))) (jd (zz (pv 0) (pv 2) rfl) (jg (jv (j3 (pv 2) rfl)))))))),?_⟩
  try dsimp only[jQ]
  unfold jH at Hm;obtain rfl:yb=.str row:=jM;refine(Ur (K:=K) (qc (jf jeA (Qv (i:=1) rfl) (ko _) rfl)) X Hm ?_ ?_)
  ·intro F H Hc Hm E X;replace xc:=OwnK.mono xc E;exact J1 (K:=K) (yR (i:=0) rfl xc X (yg X.sub) (fun _ _=>rfl)) Hm Kk
  ·intro F H Hc Hm E X;replace xc:=OwnK.mono xc E;refine Jf ?_;refine(Ur (K:=K) (zR (QC (Qv (i:=1) rfl) rfl)) X Hm ?_ ?_)
   ·intro F H Hc Hm E X;replace xc:=OwnK.mono xc E;cases Hm
   ·intro F H Hc Hm E X;replace xc:=OwnK.mono xc E;refine Jf ?_;refine(yQ (K:=K) (c:=(jT ja ji)) (jr (jle (i:=0) rfl xc Aj.cl Aj.n_spot) (Qv (i:=1) rfl) rfl) X Hm ?_);intro step joB F H Hm E X jej;replace xc:=OwnK.mono xc E;refine(jmY (K:=K) (i:=0) rfl xc Aj.cl Aj.n_spot Aj.n_earlier X Hm ?_);intro l1 H Hm X xc;refine(jlg (K:=K) (i:=0) rfl xc Aj.cl Aj.n_spot (eV (i:=2) jej) X Hm ?_);intro s2 F H Hm Sf_ X xc;replace jej:=Cd.mono _ Sf_ jej;exact J1 (K:=K) (QB xc X (js (Wl Ad) (eV (i:=2) jej) rfl)) Hm Kk
def Yg:FnScope ["self","row","step"] ["self","row"] (jh ((jx (top 125) 1))):=scK
def Yh (B:BiX P w K mg base) (Aj:Ar K mg jW) (Aa:Ab K mg ja) (Ad:Ah K mg ji) (Fn:Fun K "told" "Desk.told" ((jx (top 125) 1)) f fd) (Ug:jed P w K mg base ja ji):FnOk P w K mg base CX0 12 f fd ["self","row"] (sp2 K (pK (jT ja ji) jW) (pF cS) (rF cS) jO):=by
  refine(ok2 Fn Yg fun cdv A outer s H0 Q E_ hr nd hu self row xI yb Fe R X jt jM Hm Kk=>?_);refine⟨_,(jd (xB (jP GU (pv 1) kr (jX _)) (jg qL) ka) (jd (xB (jdm (jd4 Ug (by rfl) (pv 1) (ks:=["show","counts","where","round","mean","sizes","falls"]) (by rfl)) (by with_unfolding_all rfl)) (jg (jv (Wi Ug (hr.mono (by decide)) rfl (pv 1) (fun _ _=>rfl) (jc (j3 (pv 0) rfl) je)))) ka) (jd qL jfs))),?_⟩
  try dsimp only[jQ]
  unfold jO at Hm;obtain rfl:yb=.str row:=jM;refine(Ur (K:=K) (qc (jf jeA (Qv (i:=1) rfl) (ko _) rfl)) X Hm ?_ ?_)
  ·intro F H Hc Hm E X;replace jt:=Pm.mono _ E jt;cases Hm
  ·intro F H Hc Hm E X;replace jt:=Pm.mono _ E jt;refine Jf ?_;refine(Ur (K:=K) (zR (QC (Qv (i:=1) rfl) rfl)) X Hm ?_ ?_)
   ·intro F H Hc Hm E X;replace jt:=Pm.mono _ E jt;exact jB (K:=K) (QR (Qv (i:=1) rfl) (jiW (i:=0) rfl jt Aj.cl Aj.n_spot) rfl) X Hm Kk
   ·intro F H Hc Hm E X;replace jt:=Pm.mono _ E jt;refine Jf ?_;cases Hm
def A7:FnScope ["_law_desk","_law_row","_law_many","_law_found","_law_k"] ["_law_desk","_law_row","_law_many"] (jh (top 131)):=scK
def jak (B:BiX P w K mg base) (Aj:Ar K mg jW) (Aa:Ab K mg ja) (Ad:Ah K mg ji) (Fn:Fun K "_law_often" "_law_often" (top 131) f fd) (kj:Gy P w K mg base jW ja ji):FnOk P w K mg base CX0 13 f fd ["_law_desk","_law_row","_law_many"] (spK K jW (jT ja ji) (csC cS (csC cI csN)) cS (fun D z=>qG D z.1 z.2.1)):=by
 refine Fn.ok A7 (fun vs H Q E h=>?_) (fun cdv A outer s Hq vs Q E_ hr h=>?_)
 ·obtain⟨_,_,_,_,_,_,_,rfl,_,_,hd_,_⟩:=h;obtain⟨_,_,rfl,_,_,_,rfl,_,rfl⟩:=hd_;rfl
 ·obtain⟨desk,z_,Qp,ws_,Fe,H0,R,rfl,X,jj,hd_,Hm,Kk⟩:=JZ h;obtain⟨yb,_,rfl,jM,UM,_,rfl,QW,rfl⟩:=hd_;obtain⟨row,many,_⟩:=z_;dsimp only at Hm jM QW;have nd:=A7.nd;have hu:=QK hr;refine⟨_,(jd (pS (i:=3) nd kr) (jd (xG PassesOwn.never rfl (kI rfl B.range_ (jc (pv 2) je)) (pG (i:=4) nd) (jg (pS (i:=3) nd (qE kj (hr.mono (by decide)) (pv 0) (jc (pv 1) je))))) (jg (jv (pv 3))))),?_⟩
  try dsimp only[jQ]
  unfold qG at Hm;obtain rfl:yb=.str row:=jM;obtain rfl:UM=.int many:=QW;refine(jdO (K:=K) (ko _) X Hm ?_);intro found F H Hm E X;replace jj:=OwnK.mono jj E;refine JK (K:=K) (c:=cI) ?_ X Hm (fun F1 b σ' F' H'=>match b with | (desk,found)=>∃ (w1_:Option V),σ'=[some (.ref Qp),some (.str row),some (.int many),some (.str found),w1_]/\(Ext Fe H0 F' H'/\Same F1 F')/\OwnK K H0 F' H' (jT ja ji) jW desk Qp) ?_ ?_ ?_ ?_
  ·exact(qV (jbQ (i:=2) rfl) rfl)
  ·intro F H E X;replace jj:=OwnK.mono jj E;exact⟨_,rfl,⟨X,(Same.refl _)⟩,jj⟩
  ·rintro F1 ⟨desk,found⟩ σ_ F_ H_ ⟨w1_,rfl,⟨X_,SF_⟩,jj⟩;exact⟨X_,SF_⟩
  ·rintro F1 S0_ ⟨desk,found⟩ B_ k_ V_k_ σ_ F_ H_ F H ⟨w1_,rfl,⟨X,SF_⟩,jj⟩ E P_k_ Hm
   try dsimp only at Hm
   have SL0:=SF_;replace X:=Ext.trans X E;replace jj:=OwnK.mono jj E;replace SL0:=E.xd SL0;obtain rfl:V_k_=.int k_:=P_k_;refine yf ?_;refine(jld (K:=K) (j:=3) (yR (i:=0) rfl jj X (kP (Qv (i:=1) rfl) (yg X.sub)) (fun _ _=>rfl)) Hm ?_);intro found desk F H Hm Sf_ X jj
   try dsimp only at Hm
   replace SL0:=Same.trans SL0 Sf_;cases Hm;exact⟨F,_,rfl,⟨X,SL0⟩,jj⟩
  ·rintro F1 S0_ ⟨desk,found⟩ σ_ F H Hm ⟨w1_,rfl,⟨X,SF_⟩,jj⟩
   try dsimp only at Hm
   exact J1 (K:=K) (QB jj X (Qv (i:=3) rfl)) Hm Kk
def A1:FnScope ["_law_desk","_law_line","_law_one","_law_other"] ["_law_desk","_law_line"] (jh (top 132)):=scK
def Yi (B:BiX P w K mg base) (Aj:Ar K mg jW) (Aa:Ab K mg ja) (Ad:Ah K mg ji) (Fn:Fun K "_law_turned" "_law_turned" (top 132) f fd) (kH:Jr P w K mg base jW ja ji) (kj:Gy P w K mg base jW ja ji):FnOk P w K mg base CX0 14 f fd ["_law_desk","_law_line"] (spK K jW (jT ja ji) (csC cS csN) cB (fun D z=>Jl D z.1)):=by
 refine Fn.ok A1 (fun vs H Q E h=>?_) (fun cdv A outer s Hq vs Q E_ hr h=>?_)
 ·obtain⟨_,_,_,_,_,_,_,rfl,_,_,hd_,_⟩:=h;obtain⟨_,_,rfl,_,rfl⟩:=hd_;rfl
 ·obtain⟨desk,z_,Qp,ws_,Fe,H0,R,rfl,X,jj,hd_,Hm,Kk⟩:=JZ h;obtain⟨QX,_,rfl,kf,rfl⟩:=hd_;obtain⟨line,_⟩:=z_;dsimp only at Hm kf;have nd:=A1.nd;have hu:=QK hr;refine⟨_,(jd (xB (PW.pt (WW (jP QH (pD_ kH hr (jc (pv 0) (jc kr (jc jo je)))) (pv 1) (jX _)) (Vm (jP QH (pD_ kH hr (jc (pv 0) (jc kr (jc jo je)))) (pv 1) (jX _))))) (jg (jv Uj)) ka) (jd (qh (qE kj (hr.mono (by decide)) (pv 0) (jc kr je))) (jd (pS (i:=2) nd (qE kj (hr.mono (by decide)) (pv 0) (jc kr je))) (jd (qh (pD_ kH hr (jc (pv 0) (jc kr (jc jo je))))) (jd (qh (qE kj (hr.mono (by decide)) (pv 0) (jc kr je))) (jd (pS (i:=3) nd (qE kj (hr.mono (by decide)) (pv 0) (jc kr je))) (jd (qh (pD_ kH hr (jc (pv 0) (jc kr (jc jo je))))) (jg (jv (JN GU (pv 2) (pv 3) (jX _))))))))))),?_⟩
  try dsimp only[jQ]
  unfold Jl at Hm;obtain rfl:QX=.str line:=kf;refine(jhd (K:=K) (jd3 (Jh (J0 Yz (zr (i:=0) rfl jj X (kP (ko _) (kP (jp _) (yg X.sub)))) (fun F H desk Sf_ X jj=>by exact (Qv (i:=1) rfl)))) (fun F H desk Sf_ X jj=>by exact (Jh (J0 Yz (zr (i:=0) rfl jj X (kP (ko _) (kP (jp _) (yg X.sub)))) (fun F H desk Sf_ X jj=>by exact (Qv (i:=1) rfl)))))) Hm ?_ ?_)
  ·intro desk F H Hm Sf_ X jj
   try dsimp only at Hm
   exact J1 (K:=K) (QB jj X (Uq _)) Hm Kk
  ·intro desk F H Hm Sf_ X jj
   try dsimp only at Hm
   refine Jf ?_;refine(Zn (K:=K) (yR (i:=0) rfl jj X (kP (ko _) (yg X.sub)) (fun _ _=>rfl)) Hm ?_);intro u1 desk F H Hm Sf_ X jj
   try dsimp only at Hm
   refine(YA (K:=K) (j:=2) (yR (i:=0) rfl jj X (kP (ko _) (yg X.sub)) (fun _ _=>rfl)) Hm ?_);intro one desk F H Hm Sf_ X jj
   try dsimp only at Hm
   refine(Zn (K:=K) (zr (i:=0) rfl jj X (kP (ko _) (kP (jp _) (yg X.sub)))) Hm ?_);intro u2 desk F H Hm Sf_ X jj
   try dsimp only at Hm
   refine(Zn (K:=K) (yR (i:=0) rfl jj X (kP (ko _) (yg X.sub)) (fun _ _=>rfl)) Hm ?_);intro u3 desk F H Hm Sf_ X jj
   try dsimp only at Hm
   refine(YA (K:=K) (j:=3) (yR (i:=0) rfl jj X (kP (ko _) (yg X.sub)) (fun _ _=>rfl)) Hm ?_);intro other desk F H Hm Sf_ X jj
   try dsimp only at Hm
   refine(Zn (K:=K) (zr (i:=0) rfl jj X (kP (ko _) (kP (jp _) (yg X.sub)))) Hm ?_);intro u4 desk F H Hm Sf_ X jj
   try dsimp only at Hm
   exact J1 (K:=K) (QB jj X (jf jeA (Qv (i:=2) rfl) (Qv (i:=3) rfl) rfl)) Hm Kk
def VO:FnScope ["_law_top","_law_bottom","_law_one","_law_other","_law_rest"] ["_law_top","_law_bottom"] (jh (top 130)):=scK
def VP (B:BiX P w K mg base) (Fn:Fun K "_law_fraction" "_law_fraction" (top 130) f fd):FnOk P w K mg base CX0 1 f fd ["_law_top","_law_bottom"] (sp2 K (pF cI) (pF cI) (rF cS) zk):=by
  refine(ok2 Fn VO fun cdv A outer s H0 Q E_ hr nd hu top bottom jly jau Fe R X jlz jav Hm Kk=>?_);refine⟨_,(jd (pS (i:=2) nd (pv 0)) (jd (pS (i:=3) nd (pv 1)) (jd (Jd PassesOwn.never (jP QH (pv 3) jo (jX _)) (jd (pS (i:=4) nd (jK JD (pv 2) (pv 3))) (jd (pS (i:=2) nd (pv 3)) (jg (pS (i:=3) nd (pv 4)))))) (jd (xB (jP GU (pv 1) (pv 2) (jX _)) (jg (jv (cY j2 B.str_ (jK Gs (pv 0) (pv 2))))) ka) (jg (jv (jK qJ (jK qJ (cY j2 B.str_ (jK Gs (pv 0) (pv 2))) kr) (cY j2 B.str_ (jK Gs (pv 1) (pv 2)))))))))),?_⟩
  try dsimp only[jQ]
  unfold zk at Hm;obtain rfl:jly=.int top:=jlz;obtain rfl:jau=.int bottom:=jav;refine(qt (K:=K) (eI (i:=0)) X Hm ?_);intro one F H Hm E X;refine(qt (K:=K) (eI (i:=1)) X Hm ?_);intro other F H Hm E X;refine Q3 (K:=K) X Hm (fun F1 b σ' F' H'=>match b with | (one,other)=>∃ (w1_:Option V),σ'=[some (.int top),some (.int bottom),some (.int one),some (.int other),w1_]/\(Ext Fe H0 F' H'/\Same F1 F')) ?_ ?_ ?_ ?_ ?_
  ·exact⟨_,rfl,⟨X,(Same.refl _)⟩⟩
  ·rintro F1 ⟨one,other⟩ σ_ F_ H_ ⟨w1_,rfl,⟨X_,SF_⟩⟩;exact⟨X_,SF_⟩
  ·rintro⟨one,other⟩ σ_ F H ⟨w1_,rfl,⟨X,SF_⟩⟩;exact(qc (jf jb6 (jbQ (i:=3) rfl) (jp _) rfl))
  ·rintro⟨one,other⟩ B_ σ_ F_ H_ F H ⟨w1_,rfl,⟨X,SF_⟩⟩ E Hm
   try dsimp only at Hm
   have SL0:=SF_;replace X:=Ext.trans X E;replace SL0:=E.xd SL0;refine(qt (K:=K) (jf Y2 (eI (i:=2)) (eI (i:=3)) rfl) X Hm ?_);intro rest_ F H Hm E X;replace SL0:=E.xd SL0;refine(qt (K:=K) (eI (i:=3)) X Hm ?_);intro one F H Hm E X;replace SL0:=E.xd SL0;refine(Ge (K:=K) (eI (i:=4)) X Hm ?_);intro other F H Hm E X;replace SL0:=E.xd SL0;cases Hm;exact⟨F,_,rfl,⟨X,SL0⟩⟩
  ·rintro⟨one,other⟩ σ_ F_ H_ F H ⟨w1_,rfl,⟨X,SF_⟩⟩ E Hm
   try dsimp only at Hm
   replace X:=Ext.trans X E;refine(Ur (K:=K) (qc (jf UV (eI (i:=1)) (eI (i:=2)) rfl)) X Hm ?_ ?_)
   ·intro F H Hc Hm E X;exact jB (K:=K) (kO zC (jf jb5 (eI (i:=0)) (eI (i:=2)) rfl) rfl) X Hm Kk
   ·intro F H Hc Hm E X;refine Jf ?_;exact jB (K:=K) (jy JG (jy JG (kO zC (jf jb5 (eI (i:=0)) (eI (i:=2)) rfl) rfl) (ko _) rfl) (kO zC (jf jb5 (eI (i:=1)) (eI (i:=2)) rfl) rfl) rfl) X Hm Kk
def Aw:FnScope ["_law_desk","_law_k","_law_cell","_law_cells","_law_r","_law_pairs","_law_high","_law_c","_law_line","_law_due","_law_sign"] ["_law_desk","_law_k","_law_cell"] (jh (top 134)):=scK
def Vc (B:BiX P w K mg base) (Aj:Ar K mg jW) (Aa:Ab K mg ja) (Ad:Ah K mg ji) (Fn:Fun K "_law_on_stairs" "_law_on_stairs" (top 134) f fd) (kj:Gy P w K mg base jW ja ji) (yJ:UJ P w K mg base) (kT:QV P w K mg base jW ja ji) (kH:Jr P w K mg base jW ja ji):FnOk P w K mg base CX0 14 f fd ["_law_desk","_law_k","_law_cell"] (spK K jW (jT ja ji) (csC cI (csC cI csN)) cB (fun D z=>qB D z.1 z.2.1)):=by
 refine Fn.ok Aw (fun vs H Q E h=>?_) (fun cdv A outer s Hq vs Q E_ hr h=>?_)
 ·obtain⟨_,_,_,_,_,_,_,rfl,_,_,hd_,_⟩:=h;obtain⟨_,_,rfl,_,_,_,rfl,_,rfl⟩:=hd_;rfl
 ·obtain⟨desk,z_,Qp,ws_,Fe,H0,R,rfl,X,jj,hd_,Hm,Kk⟩:=JZ h;obtain⟨V_k_,_,rfl,P_k_,jhD,_,rfl,jee,rfl⟩:=hd_;obtain⟨k_,cell,_⟩:=z_;dsimp only at Hm P_k_ jee;have nd:=Aw.nd;have hu:=QK hr;refine⟨_,(jd (pS (i:=3) nd (xM je)) (jd (xG PassesOwn.never rfl (kI rfl B.range_ (jc (pv 1) je)) (pG (i:=4) nd) (jg (pS (i:=3) nd (jK V0 (pv 3) (k9 (own:=["_law_c"]) (ix:=[4]) (qD rfl) rfl (kI rfl B.range_ (jc (jK Vn (pv 1) (pv 4)) je)) (fun _=>(kA (i:=0) (show List.Nodup (["_law_c","_law_r"]:List Str) by decide +kernel) rfl (Or.inl rfl))) (fun _=>xg) (fun _=>(Gr (jc (pv 1) (jc (pv 0) je))))))))) (jd (pS (i:=5) nd (xM je)) (jd (xG PassesOwn.never rfl (kI rfl B.range_ (jc (kB jw B.len_ (pv 3)) je)) (pG (i:=6) nd) (jd (Yk (pX k8 (pv 3) (pv 6)) (QO rfl (qd (pG (i:=4) nd) (qd (pG (i:=7) nd) GD)))) (jg (pS (i:=5) nd (jK V0 (pv 5) (k9 (own:=["_law_low"]) (ix:=[3,4,6,7]) (qD rfl) rfl (kI rfl B.range_ (jc (pv 6) je)) (fun _=>(kA (i:=0) (show List.Nodup (["_law_low","_law_cells","_law_r","_law_high","_law_c"]:List Str) by decide +kernel) rfl (Or.inl rfl))) (fun _=>GG (jP (jjy hu) (pX k8 (pv 1) (pv 0)) (xM (jc (Gr (jc (jK Vn (pv 2) jo) (jc (pv 4) je))) (jc (Gr (jc (pv 2) (jc (jK Vn (pv 4) jo) je))) je))) (by with_unfolding_all rfl))) (fun _=>(Gr (jc (pv 0) (jc (pv 3) je)))))))))) (jd (xB (jP QH (qE kj (hr.mono (by decide)) (pv 0) (jc (jK qJ kr (cY j2 B.str_ (pv 1))) je)) (pD_ yJ hr (jc (kB jw B.len_ (pv 3)) (jc (pv 5) je))) (jX _)) (jg (jv Uj)) ka) (jd (pS (i:=8) nd (qE kj (hr.mono (by decide)) (pv 0) (jc (jK qJ kr (cY j2 B.str_ (jK JD (pv 2) (cY Gg B.int_ (pX k8 (Gd Xz PySem.F.slot_str_split PySem.F.type_str_split Ux (qE kT (hr.mono (by decide)) (pv 0) (jc kr je)) (jc kr je)) jo))))) je))) (jd (pS (i:=9) nd kr) (jd (xG PassesOwn.never rfl (jj1 (pv 8)) (pG (i:=10) nd) (jd (Yk (pX k8 (pv 3) (cY Gg B.int_ (pv 10))) (QO rfl (qd (pG (i:=4) nd) (qd (pG (i:=7) nd) GD)))) (jg (pS (i:=9) nd (jK qJ (pv 9) (cY j2 B.str_ (Gd Xv PySem.F.slot_list_index PySem.F.type_list_index (jgQ hu) (pv 3) (jc (Gr (jc (pv 7) (jc (pv 4) je))) je)))))))) (jg (jv (jdp (JN GU (pD_ kH hr (jc (pv 0) (jc kr (jc (kB jw B.len_ (pv 3)) je)))) (pv 9) (jX _)) (jdo (JN GU (pD_ kH hr (jc (pv 0) (jc kr (jc (kB jw B.len_ (pv 3)) je)))) (pv 8) (jX _)))))))))))))),?_⟩
  try dsimp only[jQ]
  unfold qB at Hm;obtain rfl:V_k_=.int k_:=P_k_;obtain rfl:jhD=.int cell:=jee;refine(yQ (K:=K) (c:=(cL (cP cI cI))) (xh (xO (xN (c:=(cP cI cI))) (by decide))) X Hm ?_);intro cells zg F H Hm E X jD;replace jj:=OwnK.mono jj E;refine JK (K:=K) (c:=cI) ?_ X Hm (fun F1 cells σ' F' H'=>∃ (zg:V) (w1_:Option V),σ'=[some (.ref Qp),some (.int k_),some (.int cell),some zg,w1_,none,none,none,none,none,none]/\(Ext Fe H0 F' H'/\Same F1 F')/\OwnK K H0 F' H' (jT ja ji) jW desk Qp/\(cL (cP cI cI)).rep K F' cells zg) ?_ ?_ ?_ ?_
  ·exact(qV (jbQ (i:=1) rfl) rfl)
  ·intro F H E X;replace jj:=OwnK.mono jj E;replace jD:=E.xc jD;exact⟨_,_,rfl,⟨X,(Same.refl _)⟩,jj,jD⟩
  ·rintro F1 cells σ_ F_ H_ ⟨zg,w1_,rfl,⟨X_,SF_⟩,jj,jD⟩;exact⟨X_,SF_⟩
  ·rintro F1 S0_ cells B_ r_ V_r_ σ_ F_ H_ F H ⟨zg,w1_,rfl,⟨X,SF_⟩,jj,jD⟩ E P_r_ Hm
   try dsimp only at Hm
   have SL0:=SF_;replace X:=Ext.trans X E;replace jj:=OwnK.mono jj E;replace jD:=E.xc jD;replace SL0:=E.xd SL0;obtain rfl:V_r_=.int r_:=P_r_;refine yf ?_;refine(JQ (K:=K) (c:=(cL (cP cI cI))) (xh (jy jb9 (qx (eV (i:=3) jD)) (kJ (qy (Gf (jf kN (eI (i:=1)) (eI (i:=4)) rfl) rfl) [some (.int r_)] rfl (fun b3 c_ _ _ E2=>yq) (fun b3 c_ _ _ E2=>(qT (eI (i:=1)) (eI (i:=0)) rfl)) rfl)) rfl)) X Hm ?_);intro cells zg F H Hm E X jD;replace jj:=OwnK.mono jj E;replace SL0:=E.xd SL0;cases Hm;exact⟨F,_,_,rfl,⟨X,SL0⟩,jj,jD⟩
  ·rintro F1 S0_ cells σ_ F H Hm ⟨zg,w1_,rfl,⟨X,SF_⟩,jj,jD⟩
   try dsimp only at Hm
   replace SF_:=Same.trans S0_ SF_;refine(yQ (K:=K) (c:=(cL (cP cI cI))) (xh (xO (xN (c:=(cP cI cI))) (by decide))) X Hm ?_);intro pairs xn F H Hm E X jL;replace jj:=OwnK.mono jj E;replace jD:=E.xc jD;refine JK (K:=K) (c:=cI) ?_ X Hm (fun F1 pairs σ' F' H'=>∃ (w8_:Option V) (xn:V) (w9_:Option V) (w10_:Option V),σ'=[some (.ref Qp),some (.int k_),some (.int cell),some zg,w8_,some xn,w9_,w10_,none,none,none]/\(Ext Fe H0 F' H'/\Same F1 F')/\OwnK K H0 F' H' (jT ja ji) jW desk Qp/\(cL (cP cI cI)).rep K F' pairs xn) ?_ ?_ ?_ ?_
   ·exact(qV (jk xi (jS (qx (jZ (p:=pF (cL (cP cI cI))) (i:=3) rfl jD))) rfl) rfl)
   ·intro F H E X;replace jj:=OwnK.mono jj E;replace jL:=E.xc jL;exact⟨_,_,_,_,rfl,⟨X,(Same.refl _)⟩,jj,jL⟩
   ·rintro F1 pairs σ_ F_ H_ ⟨w8_,xn,w9_,w10_,rfl,⟨X_,SF_⟩,jj,jL⟩;exact⟨X_,SF_⟩
   ·rintro F1 S0_ pairs B_ high G6 σ_ F_ H_ F H ⟨w8_,xn,w9_,w10_,rfl,⟨X,SF_⟩,jj,jL⟩ E G7 Hm
    try dsimp only at Hm
    have SL0:=SF_;replace SF_:=Same.trans S0_ SF_;replace jD:=Cd.mono _ SF_ jD;replace X:=Ext.trans X E;replace jj:=OwnK.mono jj E;replace jD:=E.xc jD;replace jL:=E.xc jL;replace SL0:=E.xd SL0;obtain rfl:G6=.int high:=G7;refine yf ?_;refine(jgc (K:=K) (jf zA (jS (qx (eV (i:=3) jD))) (eI (i:=6)) rfl) X Hm ?_);intro r_ c_ V_r_ V_c_ F H Hm E X P_r_ P_c_
    try dsimp only at Hm
    obtain rfl:V_r_=.int r_:=P_r_;obtain rfl:V_c_=.int c_:=P_c_;replace jj:=OwnK.mono jj E;replace jD:=E.xc jD;replace jL:=E.xc jL;replace SL0:=E.xd SL0;refine(JQ (K:=K) (c:=(cL (cP cI cI))) (xh (jy jb9 (qx (eV (i:=5) jL)) (kJ (qy (Gf (eI (i:=6)) rfl) [some zg,some (.int r_),some (.int high),some (.int c_)] rfl (fun b13 low _ _ E12=>(qc (jy (jnL (eqP eqI eqI) (by decide)) (jh7 (jf zA (jS (qx (eV (i:=1) (Cd.mono _ (E12).f jD)))) (eI (i:=0)) rfl)) (jh8 (kJ (xO (qS (qT (jf kN (eI (i:=2)) (jp _) rfl) (eI (i:=4)) rfl) (qS (qT (eI (i:=2)) (jf kN (eI (i:=4)) (jp _) rfl) rfl) (xN (c:=(cP cI cI))) rfl) rfl) (by decide)))) rfl))) (fun b13 low _ _ E12=>(qT (eI (i:=0)) (eI (i:=3)) rfl)) rfl)) rfl)) X Hm ?_);intro pairs xn F H Hm E X jL;replace jj:=OwnK.mono jj E;replace SL0:=E.xd SL0;cases Hm;exact⟨F,_,_,_,_,rfl,⟨X,SL0⟩,jj,jL⟩
   ·rintro F1 S0_ pairs σ_ F H Hm ⟨w8_,xn,w9_,w10_,rfl,⟨X,SF_⟩,jj,jL⟩
    try dsimp only at Hm
    replace SF_:=Same.trans S0_ SF_;replace jD:=Cd.mono _ SF_ jD;refine(jhd (K:=K) (Jh (J0 Yz (yR (i:=0) rfl jj X (kP (jy JG (ko _) (jk zC (eI (i:=1)) rfl) rfl) (yg X.sub)) (fun _ _=>rfl)) (fun F H desk Sf_ X jj=>by replace jD:=Cd.mono _ Sf_ jD; replace jL:=Cd.mono _ Sf_ jL; exact (jr (jk xi (jS (qx (eV (i:=3) jD))) rfl) (qx (eV (i:=5) jL)) rfl)))) Hm ?_ ?_)
    ·intro desk F H Hm Sf_ X jj
     try dsimp only at Hm
     replace jD:=Cd.mono _ Sf_ jD;replace jL:=Cd.mono _ Sf_ jL;exact J1 (K:=K) (QB jj X (Uq _)) Hm Kk
    ·intro desk F H Hm Sf_ X jj
     try dsimp only at Hm
     replace jD:=Cd.mono _ Sf_ jD;replace jL:=Cd.mono _ Sf_ jL;refine Jf ?_;refine(YA (K:=K) (j:=8) (yR (i:=0) rfl jj X (kP (jy JG (ko _) (kO zC (jy Y2 (eI (i:=2)) (kO Wg (jy zA (jS (kJ (QA (ym (i:=0) rfl jj (fun _ _=>rfl) (ko _) rfl) (ko _) rfl))) (jp _) rfl) rfl) rfl) rfl) rfl) (yg X.sub)) (fun _ _=>rfl)) Hm ?_);intro line desk F H Hm Sf_ X jj
     try dsimp only at Hm
     replace jD:=Cd.mono _ Sf_ jD;replace jL:=Cd.mono _ Sf_ jL;refine(jdO (K:=K) (ko _) X Hm ?_);intro due F H Hm E X;replace jj:=OwnK.mono jj E;replace jD:=E.xc jD;replace jL:=E.xc jL;refine JK (K:=K) (c:=cS) ?_ X Hm (fun F1 due σ' F' H'=>∃ (w31_:Option V) (w32_:Option V) (w33_:Option V),σ'=[some (.ref Qp),some (.int k_),some (.int cell),some zg,w31_,some xn,w9_,w32_,some (.str line),some (.str due),w33_]/\(Ext Fe H0 F' H'/\Same F1 F')/\OwnK K H0 F' H' (jT ja ji) jW desk Qp) ?_ ?_ ?_ ?_
     ·exact(jeV (Qv (i:=8) rfl) rfl)
     ·intro F H E X;replace jj:=OwnK.mono jj E;exact⟨_,_,_,rfl,⟨X,(Same.refl _)⟩,jj⟩
     ·rintro F1 due σ_ F_ H_ ⟨w31_,w32_,w33_,rfl,⟨X_,SF_⟩,jj⟩;exact⟨X_,SF_⟩
     ·rintro F1 S0_ due B_ sign jhI σ_ F_ H_ F H ⟨w31_,w32_,w33_,rfl,⟨X,SF_⟩,jj⟩ E jeg Hm
      try dsimp only at Hm
      have SL0:=SF_;replace SF_:=Same.trans S0_ SF_;replace jD:=Cd.mono _ SF_ jD;replace X:=Ext.trans X E;replace jj:=OwnK.mono jj E;replace jD:=E.xc jD;replace SL0:=E.xd SL0;obtain rfl:jhI=.str sign:=jeg;refine yf ?_;refine(jgc (K:=K) (jy zA (jS (qx (eV (i:=3) jD))) (jk Wg (Qv (i:=10) rfl) rfl) rfl) X Hm ?_);intro r_ c_ V_r_ V_c_ F H Hm E X P_r_ P_c_
      try dsimp only at Hm
      obtain rfl:V_r_=.int r_:=P_r_;obtain rfl:V_c_=.int c_:=P_c_;replace jj:=OwnK.mono jj E;replace jD:=E.xc jD;replace SL0:=E.xd SL0;refine(jf1 (K:=K) (jy JG (Qv (i:=9) rfl) (kO zC (Zf (eqP eqI eqI) (by decide) (qx (eV (i:=3) jD)) (qT (eI (i:=7)) (eI (i:=4)) rfl) rfl) rfl) rfl) X Hm ?_);intro due F H Hm E X;replace jj:=OwnK.mono jj E;replace SL0:=E.xd SL0;cases Hm;exact⟨F,_,_,_,rfl,⟨X,SL0⟩,jj⟩
     ·rintro F1 S0_ due σ_ F H Hm ⟨w31_,w32_,w33_,rfl,⟨X,SF_⟩,jj⟩
      try dsimp only at Hm
      replace SF_:=Same.trans S0_ SF_;replace jD:=Cd.mono _ SF_ jD;replace jL:=Cd.mono _ SF_ jL;exact J1 (K:=K) (jlc (J0 jj0 (zr (i:=0) rfl jj X (kP (ko _) (kP (jk xi (jS (qx (eV (i:=3) jD))) rfl) (yg X.sub)))) (fun F H desk Sf_ X jj=>by replace jD:=Cd.mono _ Sf_ jD; replace jL:=Cd.mono _ Sf_ jL; exact (Qv (i:=9) rfl))) (fun F H desk Sf_ X jj=>by replace jD:=Cd.mono _ Sf_ jD; replace jL:=Cd.mono _ Sf_ jL; exact (J0 jj0 (zr (i:=0) rfl jj X (kP (ko _) (kP (jk xi (jS (qx (eV (i:=3) jD))) rfl) (yg X.sub)))) (fun F H desk Sf_ X jj=>by replace jD:=Cd.mono _ Sf_ jD; replace jL:=Cd.mono _ Sf_ jL; exact (Qv (i:=8) rfl))))) Hm Kk
def jng:FnScope ["_law_script","_law_a","_law_b","_law_desk","_law_shown_here","_law_counts","_law_sizes","_law_things","_law_line"] ["_law_script"] (jh (top 135)):=scK
def jnh (B:BiX P w K mg base) (Aj:Ar K mg jW) (Aa:Ab K mg ja) (Ad:Ah K mg ji) (Fn:Fun K "law" "law" (top 135) f fd) (xb:Def P w K mg base "_law_cell_at" 1 ["_law_script","_law_k"] (sp2 K (pF cScr) (pF cI) (rF cI) qk)) (Qq:Def P w K mg base "_law_sides" 1 ["_law_cell"] (sp1 K (pF cI) (rF (cP cI cI)) GJ)) (Ui:Kls P w K mg base "Desk" jW 8 ["self"] (jnY K jW (jT ja ji) m_Desk_init)) (zh:Def P w K mg base "_law_field_pairs" 1 ["_law_a","_law_b"] (sp2 K (pF cI) (pF cI) (rO (cP cI cI)) yX)) (yJ:UJ P w K mg base) (kj:Gy P w K mg base jW ja ji) (kT:QV P w K mg base jW ja ji) (kH:Jr P w K mg base jW ja ji) (JB:Def P w K mg base "_law_turned" 14 ["_law_desk","_law_line"] (spK K jW (jT ja ji) (csC cS csN) cB (fun D z=>Jl D z.1))) (zi:Def P w K mg base "_law_fraction" 1 ["_law_top","_law_bottom"] (sp2 K (pF cI) (pF cI) (rF cS) zk)) (zP:Def P w K mg base "_law_on_stairs" 14 ["_law_desk","_law_k","_law_cell"] (spK K jW (jT ja ji) (csC cI (csC cI csN)) cB (fun D z=>qB D z.1 z.2.1))):FnOk P w K mg base CX0 15 f fd ["_law_script"] (sp1 K (pF cScr) (rF cB) jbj):=by
  refine(ok1 Fn jng fun cdv A outer s H0 Q E_ hr nd hu script VU Fe R X jn Hm Kk=>?_);refine⟨_,(jd (Yk (pD_ Qq hr (jc (pD_ xb hr (jc (pv 0) (jc jo je))) je)) (QO rfl (qd (pG (i:=1) nd) (qd (pG (i:=2) nd) GD)))) (jd (pS (i:=3) nd (jlj Ui (hr.mono (by decide)) rfl)) (jd (pS (i:=4) nd (pD_ yJ hr (jc (jK GT (pv 1) (pv 2)) (jc (pD_ zh hr (jc (pv 1) (jc (pv 2) je))) je)))) (jd (xB (PW.pt (WW (jP QH (qE kj (hr.mono (by decide)) (pv 3) (jc (jK qJ (jK qJ (jK qJ kr (cY j2 B.str_ (pv 1))) kr) (cY j2 B.str_ (pv 2))) je)) (pv 4) (jX _)) (Vm (jP QH (qE kT (hr.mono (by decide)) (pv 3) (jc kr je)) (pv 4) (jX _))))) (jg (jv Uj)) ka) (jd (Qu (i:=5) (own:=["_law_word"]) (ix:=[]) (qD rfl) rfl (qF (Gd Xz PySem.F.slot_str_split PySem.F.type_str_split Ux (qE kT (hr.mono (by decide)) (pv 3) (jc kr je)) (jc kr je))) (fun _=>(kA (i:=0) (show List.Nodup (["_law_word"]:List Str) by decide +kernel) rfl (Or.inl rfl))) (fun _=>xg) (fun _=>(cY Gg B.int_ (pv 0))) nd rfl rfl) (jd (Qu (i:=6) (own:=["_law_word"]) (ix:=[]) (qD rfl) rfl (qF (Gd Xz PySem.F.slot_str_split PySem.F.type_str_split Ux (qE kT (hr.mono (by decide)) (pv 3) (jc kr je)) (jc kr je))) (fun _=>(kA (i:=0) (show List.Nodup (["_law_word"]:List Str) by decide +kernel) rfl (Or.inl rfl))) (fun _=>xg) (fun _=>(cY Gg B.int_ (pv 0))) nd rfl rfl) (jd (xB (PW.pt (WW (jP QH (kB jw B.len_ (pv 6)) (jK yK (jK GT (pv 1) (pv 2)) jo) (jX _)) (WW (jP QH (kB (Up rfl) B.sum_ (pv 6)) (pX k8 (pv 5) jo) (jX _)) (Vm (jP (jjx hu) (pv 6) (jeN rfl rfl B.list_ rfl B.reversed_ (pv 6)) (jX _)))))) (jg (jv Uj)) ka) (jd (xB (jP QH (kB (Up rfl) B.sum_ (k9 (own:=["_law_word"]) (ix:=[]) (qD rfl) rfl (qF (Gd Xz PySem.F.slot_str_split PySem.F.type_str_split Ux (qE kT (hr.mono (by decide)) (pv 3) (jc kr je)) (jc kr je))) (fun _=>(kA (i:=0) (show List.Nodup (["_law_word"]:List Str) by decide +kernel) rfl (Or.inl rfl))) (fun _=>xg) (fun _=>(cY Gg B.int_ (pv 0))))) (pX k8 (pv 5) jo) (jX _)) (jg (jv Uj)) ka) (jd (pS (i:=7) nd (qE kj (hr.mono (by decide)) (pv 3) (jc (jK qJ kr (cY j2 B.str_ (jK JD (pD_ xb hr (jc (pv 0) (jc jo je))) (pX k8 (pv 5) jo)))) je))) (jd (pS (i:=8) nd (qE kj (hr.mono (by decide)) (pv 3) (jc (jK qJ kr (cY j2 B.str_ (jK JD (pD_ xb hr (jc (pv 0) (jc jo je))) (pX k8 (pv 5) jo)))) je))) (jd (xB (PW.pt (WW (jP QH (pD_ kH hr (jc (pv 3) (jc kr (jc (jK yK (pv 1) (pv 2)) je)))) (pv 7) (jX _)) (Vm (jP QH (pD_ kH hr (jc (pv 3) (jc kr (jc (jK GT (pv 1) (pv 2)) je)))) (pv 8) (jX _))))) (jg (jv Uj)) ka) (jd (xB (PW.pt (WW (jP QH (jK JD (jK yK (pv 1) (pv 2)) (cY Gg B.int_ (qE kT (hr.mono (by decide)) (pv 3) (jc kr je)))) jo (jX _)) (Vm (JC (GR (pD_ JB hr (jc (pv 3) (jc (pv 8) je)))))))) (jg (jv Uj)) ka) (jd (xB (jP QH (qE kT (hr.mono (by decide)) (pv 3) (jc kr je)) (jK qJ (jK qJ (pD_ zi hr (jc (jK GT (pv 1) (pv 2)) (jc jo je))) kr) (pD_ zi hr (jc (jK GT (pv 1) (pv 2)) (jc (jK yK (pv 1) (pv 2)) je)))) (jX _)) (jg (jv Uj)) ka) (jg (jv (pD_ zP hr (jc (pv 3) (jc (jK yK jo (jK JD (pD_ xb hr (jc (pv 0) (jc jo je))) jo)) (jc (pD_ xb hr (jc (pv 0) (jc jo je))) je))))))))))))))))))),?_⟩
  try dsimp only[jQ]
  unfold jbj at Hm;replace jn:cScr.rep K Fe script VU:=jn;refine(jgc (K:=K) (kU (jr (eV (i:=0) jn) (jp _) rfl) rfl) X Hm ?_);intro a_ b_ V_a_ V_b_ F H Hm E X P_a_ P_b_
  try dsimp only at Hm
  obtain rfl:V_a_=.int a_:=P_a_;obtain rfl:V_b_=.int b_:=P_b_;replace jn:=E.xc jn;refine(jlh (K:=K) jiX X Hm ?_);intro desk Qp F H Hm E X jj;replace jn:=E.xc jn;refine(jdO (K:=K) (jY (jf VB (eI (i:=1)) (eI (i:=2)) rfl) (kJ (jr (eI (i:=1)) (eI (i:=2)) rfl)) rfl) X Hm ?_);intro shown_here F H Hm E X;replace jn:=E.xc jn;replace jj:=OwnK.mono jj E;refine(jhd (K:=K) (jd3 (Jh (J0 Yz (yR (i:=3) rfl jj X (kP (jy JG (jy JG (jy JG (ko _) (jk zC (eI (i:=1)) rfl) rfl) (ko _) rfl) (jk zC (eI (i:=2)) rfl) rfl) (yg X.sub)) (fun _ _=>rfl)) (fun F H desk Sf_ X jj=>by replace jn:=Cd.mono _ Sf_ jn; exact (Qv (i:=4) rfl)))) (fun F H desk Sf_ X jj=>by replace jn:=Cd.mono _ Sf_ jn; exact (jd2 jj X (qc (jy jh9 (ym (i:=3) rfl jj (fun _ _=>rfl) (ko _) rfl) (Qv (i:=4) rfl) rfl))))) Hm ?_ ?_)
  ·intro desk F H Hm Sf_ X jj
   try dsimp only at Hm
   replace jn:=Cd.mono _ Sf_ jn;exact jB (K:=K) (Uq _) X Hm Kk
  ·intro desk F H Hm Sf_ X jj
   try dsimp only at Hm
   replace jn:=Cd.mono _ Sf_ jn;refine Jf ?_;refine(yQ (K:=K) (c:=(cL cI)) (xh (Qx (yP (jS (kJ (QA (ym (i:=3) rfl jj (fun _ _=>rfl) (ko _) rfl) (ko _) rfl)))) [] rfl (fun b15 word UO _ _ E14 GB=>yq) (fun b15 word UO _ _ E14 GB=>(jk Wg (eV (i:=0) GB) rfl)) rfl)) X Hm ?_);intro counts QG F H Hm E X ju;replace jn:=E.xc jn;replace jj:=OwnK.mono jj E;refine(yQ (K:=K) (c:=(cL cI)) (xh (Qx (yP (jS (kJ (QA (ym (i:=3) rfl jj (fun _ _=>rfl) (ko _) rfl) (ko _) rfl)))) [] rfl (fun b19 word UO _ _ E18 GB=>yq) (fun b19 word UO _ _ E18 GB=>(jk Wg (eV (i:=0) GB) rfl)) rfl)) X Hm ?_);intro sizes joh F H Hm E X kq;replace jn:=E.xc jn;replace jj:=OwnK.mono jj E;replace ju:=E.xc ju;refine(jif (K:=K) (jcf (qc (jy jb6 (jk xi (jS (qx (eV (i:=6) kq))) rfl) (jy kN (jf VB (eI (i:=1)) (eI (i:=2)) rfl) (jp _) rfl) rfl)) (jcf (qc (jy jb6 (jk jf9 (jS (qx (eV (i:=6) kq))) rfl) (jf zA (jS (qx (eV (i:=5) ju))) (jp _) rfl) rfl)) (qc (jf (jml (eqL eqI) (by decide) nfL) (jh7 (eV (i:=6) kq)) (jh8 (kJ (jcm (jS (qx (eV (i:=6) kq))) rfl))) rfl)) rfl) rfl) X Hm ?_ ?_)
   ·intro F H Hm E X
    try dsimp only[wc] at Hm
    replace jj:=OwnK.mono jj E;exact jB (K:=K) (Uq _) X Hm Kk
   ·intro F H Hm E X
    try dsimp only[X7] at Hm
    replace jn:=E.xc jn;replace jj:=OwnK.mono jj E;replace ju:=E.xc ju;replace kq:=E.xc kq;refine Jf ?_;refine(jif (K:=K) (qc (jy jb6 (kO jf9 (jS (kJ (Qx (yP (jS (kJ (QA (ym (i:=3) rfl jj (fun _ _=>rfl) (ko _) rfl) (ko _) rfl)))) [] rfl (fun b29 word UO _ _ E28 GB=>yq) (fun b29 word UO _ _ E28 GB=>(jk Wg (eV (i:=0) GB) rfl)) rfl))) rfl) (jf zA (jS (qx (eV (i:=5) ju))) (jp _) rfl) rfl)) X Hm ?_ ?_)
    ·intro F H Hm E X
     try dsimp only[wc] at Hm
     replace jj:=OwnK.mono jj E;exact jB (K:=K) (Uq _) X Hm Kk
    ·intro F H Hm E X
     try dsimp only[X7] at Hm
     replace jn:=E.xc jn;replace jj:=OwnK.mono jj E;replace ju:=E.xc ju;replace kq:=E.xc kq;refine Jf ?_;refine(YA (K:=K) (j:=7) (yR (i:=3) rfl jj X (kP (jy JG (ko _) (kO zC (jy Y2 (jr (eV (i:=0) jn) (jp _) rfl) (jf zA (jS (qx (eV (i:=5) ju))) (jp _) rfl) rfl) rfl) rfl) (yg X.sub)) (fun _ _=>rfl)) Hm ?_);intro zc desk F H Hm Sf_ X jj
     try dsimp only at Hm
     replace jn:=Cd.mono _ Sf_ jn;replace ju:=Cd.mono _ Sf_ ju;replace kq:=Cd.mono _ Sf_ kq;refine(YA (K:=K) (j:=8) (yR (i:=3) rfl jj X (kP (jy JG (ko _) (kO zC (jy Y2 (jr (eV (i:=0) jn) (jp _) rfl) (jf zA (jS (qx (eV (i:=5) ju))) (jp _) rfl) rfl) rfl) rfl) (yg X.sub)) (fun _ _=>rfl)) Hm ?_);intro line desk F H Hm Sf_ X jj
     try dsimp only at Hm
     replace jn:=Cd.mono _ Sf_ jn;replace ju:=Cd.mono _ Sf_ ju;replace kq:=Cd.mono _ Sf_ kq;refine(jhd (K:=K) (jd3 (Jh (J0 Yz (zr (i:=3) rfl jj X (kP (ko _) (kP (jf kN (eI (i:=1)) (eI (i:=2)) rfl) (yg X.sub)))) (fun F H desk Sf_ X jj=>by replace jn:=Cd.mono _ Sf_ jn; replace ju:=Cd.mono _ Sf_ ju; replace kq:=Cd.mono _ Sf_ kq; exact (Qv (i:=7) rfl)))) (fun F H desk Sf_ X jj=>by replace jn:=Cd.mono _ Sf_ jn; replace ju:=Cd.mono _ Sf_ ju; replace kq:=Cd.mono _ Sf_ kq; exact (Jh (J0 Yz (zr (i:=3) rfl jj X (kP (ko _) (kP (jf VB (eI (i:=1)) (eI (i:=2)) rfl) (yg X.sub)))) (fun F H desk Sf_ X jj=>by replace jn:=Cd.mono _ Sf_ jn; replace ju:=Cd.mono _ Sf_ ju; replace kq:=Cd.mono _ Sf_ kq; exact (Qv (i:=8) rfl)))))) Hm ?_ ?_)
     ·intro desk F H Hm Sf_ X jj
      try dsimp only at Hm
      replace jn:=Cd.mono _ Sf_ jn;replace ju:=Cd.mono _ Sf_ ju;replace kq:=Cd.mono _ Sf_ kq;exact jB (K:=K) (Uq _) X Hm Kk
     ·intro desk F H Hm Sf_ X jj
      try dsimp only at Hm
      replace jn:=Cd.mono _ Sf_ jn;replace ju:=Cd.mono _ Sf_ ju;replace kq:=Cd.mono _ Sf_ kq;refine Jf ?_;refine(jhd (K:=K) (jd3 (jd2 jj X (qc (jy jb6 (jy Y2 (jf kN (eI (i:=1)) (eI (i:=2)) rfl) (kO Wg (ym (i:=3) rfl jj (fun _ _=>rfl) (ko _) rfl) rfl) rfl) (jp _) rfl))) (fun F H desk Sf_ X jj=>by replace jn:=Cd.mono _ Sf_ jn; replace ju:=Cd.mono _ Sf_ ju; replace kq:=Cd.mono _ Sf_ kq; exact (jlb (Jh (zr (i:=3) rfl jj X (kP (Qv (i:=8) rfl) (yg X.sub))))))) Hm ?_ ?_)
      ·intro desk F H Hm Sf_ X jj
       try dsimp only at Hm
       replace jn:=Cd.mono _ Sf_ jn;replace ju:=Cd.mono _ Sf_ ju;replace kq:=Cd.mono _ Sf_ kq;exact jB (K:=K) (Uq _) X Hm Kk
      ·intro desk F H Hm Sf_ X jj
       try dsimp only at Hm
       replace jn:=Cd.mono _ Sf_ jn;replace ju:=Cd.mono _ Sf_ ju;replace kq:=Cd.mono _ Sf_ kq;refine Jf ?_;refine(jif (K:=K) (qc (jy jh9 (ym (i:=3) rfl jj (fun _ _=>rfl) (ko _) rfl) (jy JG (jy JG (jY (jf VB (eI (i:=1)) (eI (i:=2)) rfl) (jp _) rfl) (ko _) rfl) (jY (jf VB (eI (i:=1)) (eI (i:=2)) rfl) (jf kN (eI (i:=1)) (eI (i:=2)) rfl) rfl) rfl) rfl)) X Hm ?_ ?_)
       ·intro F H Hm E X
        try dsimp only[wc] at Hm
        replace jj:=OwnK.mono jj E;exact jB (K:=K) (Uq _) X Hm Kk
       ·intro F H Hm E X
        try dsimp only[X7] at Hm
        replace jn:=E.xc jn;replace jj:=OwnK.mono jj E;refine Jf ?_;exact jiV (K:=K) (zr (i:=3) rfl jj X (kP (jy kN (jp _) (jgo (by decide) (jr (eV (i:=0) jn) (jp _) rfl) (jp _) rfl) rfl) (kP (jr (eV (i:=0) jn) (jp _) rfl) (yg X.sub)))) Hm Kk
end
def all_mk {l:W.OpenLaw}{fa:Addr} (X:K.In h) (G:h.Ns mainGlobals mg) (hfa:mg "law"=some (.ref fa))
  {f25 f29 f38 f40 f45 f47 f51 f55 f65 f69 f72 f75 f82 f84 f85 f94:Addr}{od40 od94 an40 an94:Option Addr}{sl40 sl94:Array (Option Value)}{oc40 oc94 kV40 kV94 dc40 dc94 pm40 pm94 cd40 cd94 ct40 ct94:Value}{Td40:Addr}{dV40 dv40:Value}{oT40:Obj}{nT40:Nat}{w6 w5 w4 w3 w0 w2 w1:Addr}{w10 w11 w8 w7 w9:Tok}
  (y0:W.nsIn K mainGlobals "Order"=some (some (.ref ja)))
  (y1:jhc K ja=true)
  (y2:W.findIn K (.ref ja) "many"=some none)
  (y3:W.findIn K (.ref ja) "beneath"=some none)
  (y4:W.findIn K (.ref ja) "neighbours"=some none)
  (y5:W.nsIn K mainGlobals "Spot"=some (some (.ref ji)))
  (y6:jhc K ji=true)
  (y7:W.findIn K (.ref ji) "order"=some none)
  (y8:W.findIn K (.ref ji) "bits"=some none)
  (y9:W.findIn K (.ref ji) "line"=some none)
  (y10:W.findIn K (.ref ji) "answer"=some none)
  (y11:W.nsIn K mainGlobals "Desk"=some (some (.ref jW)))
  (y12:jhc K jW=true)
  (y13:W.findIn K (.ref jW) "spot"=some none)
  (y14:W.findIn K (.ref jW) "earlier"=some none)
  (y15:W.nsIn K mainGlobals "Great"=some (some (.ref kC)))
  (y16:jhc K kC=true)
  (y17:W.findIn K (.ref kC) "order"=some none)
  (y18:W.nsIn K mainGlobals "Fraction"=some (some (.ref jN)))
  (y19:jhc K jN=true)
  (y20:W.findIn K (.ref jN) "top"=some none)
  (y21:W.findIn K (.ref jN) "bottom"=some none)
  (y22:W.nsIn K mainGlobals "Slide"=some (some (.ref kD)))
  (y23:jhc K kD=true)
  (y24:W.findIn K (.ref kD) "order"=some none)
  (y25:W.nsIn K mainGlobals "Above"=some (some (.ref qH)))
  (y26:jhc K qH=true)
  (y27:W.findIn K (.ref qH) "order"=some none)
  (y28:W.nsIn K mainGlobals "Below"=some (some (.ref qI)))
  (y29:jhc K qI=true)
  (y30:W.findIn K (.ref qI) "order"=some none)
  (F0:DefX K "_law_cell_at" (top 127))
  (F1:DefX K "_law_sides" (top 129))
  (F2:DefX K "check_parts" (top 16))
  (F3:DefX K "sets_below" (top 18))
  (F4:DefX K "has" (top 17))
  (F5:DefX K "is_cover" (top 19))
  (F6:DefX K "cover_pairs" (top 20))
  (F7:MthX K ja "__init__" "Order.__init__" ((jx (top 21) 0)))
  (F8:MthX K ja "size" "Order.size" ((jx (top 21) 1)))
  (F9:DefX K "things_of" (top 23))
  (F10:DefX K "holds_all" (top 25))
  (F11:DefX K "is_downset" (top 26))
  (F12:DefX K "downsets" (top 31))
  (F13:DefX K "is_door" (top 29))
  (F14:DefX K "things_next" (top 42))
  (F15:DefX K "ways_on" (top 43))
  (F16:DefX K "line_at" (top 46))
  (F17:MthX K ja "covers" "Order.covers" ((jx (top 21) 4)))
  (F18:DefX K "order_text" (top 66))
  (F19:MthX K ji "__init__" "Spot.__init__" ((jx (top 94) 0)))
  (F20:DefX K "with_order" (top 97))
  (F21:MthX K jW "__init__" "Desk.__init__" ((jx (top 125) 0)))
  (F22:DefX K "_law_field_pairs" (top 128))
  (F23:DefX K "_law_shown" (top 133))
  (F24:MthX K jW "undone" "Desk.undone" ((jx (top 125) 2)))
  (a25:W.nsIn K mainGlobals "told_order"=some (some (.ref f25)))
  (F25:FunX K "told_order" "told_order" (top 113) f25)
  (F26:DefX K "how_many" (top 32))
  (F27:DefX K "how_many_lines" (top 44))
  (F28:DefX K "with_blanks" (top 96))
  (a29:W.nsIn K mainGlobals "told_counts"=some (some (.ref f29)))
  (F29:FunX K "told_counts" "told_counts" (top 114) f29)
  (F30:MthX K kC "__init__" "Turn.__init__" ((jx (top 86) 0)))
  (F31:DefX K "check_downset" (top 27))
  (F32:DefX K "set_of" (top 24))
  (F33:DefX K "doors" (top 30))
  (F34:DefX K "great_turn" (top 81))
  (F35:MthX K kC "done" "Great.done" ((jx (top 87) 0)))
  (F36:DefX K "round_of" (top 63))
  (F37:DefX K "great_round" (top 111))
  (a38:W.nsIn K mainGlobals "told_round"=some (some (.ref f38)))
  (F38:FunX K "told_round" "told_round" (top 116) f38)
  (F39:DefX K "greatest_divisor" (top 36))
  (a40:W.findIn K (.ref jN) "__init__"=some (some (.ref f40))) (i40:W.isFn K (.ref f40)=true)
  (l40:K.lookup f40=some ⟨oc40,od40,.func (W.fnOf "__init__" "Fraction.__init__" (yl ((jx (top 37) 0))) (xf ((jx (top 37) 0))) (jh ((jx (top 37) 0))) dV40 kV40 dc40 pm40 an40 cd40 ct40),sl40⟩) (c40:W.codeIn K cd40 "Fraction.__init__"=true) (k40:W.keepIn K (.ref f40)=true)
  (dE40:dV40=.ref Td40) (lT40:K.lookup Td40=some oT40) (hT40:oT40.data=.seq #[dv40] nT40)
  (F41:DefX K "mean" (top 38))
  (F42:MthX K jN "shown" "Fraction.shown" ((jx (top 37) 2)))
  (F43:DefX K "mean_size" (top 112))
  (F44:DefX K "brim" (top 28))
  (a45:W.nsIn K mainGlobals "told_mean"=some (some (.ref f45)))
  (F45:FunX K "told_mean" "told_mean" (top 117) f45)
  (F46:DefX K "by_size" (top 58))
  (a47:W.nsIn K mainGlobals "told_sizes"=some (some (.ref f47)))
  (F47:FunX K "told_sizes" "told_sizes" (top 118) f47)
  (F48:DefX K "one_fall_more" (top 60))
  (F49:DefX K "added" (top 59))
  (F50:DefX K "by_falls" (top 61))
  (a51:W.nsIn K mainGlobals "told_falls"=some (some (.ref f51)))
  (F51:FunX K "told_falls" "told_falls" (top 119) f51)
  (F52:DefX K "is_number" (top 123))
  (F53:DefX K "figures" (top 95))
  (F54:DefX K "with_downset" (top 98))
  (a55:W.nsIn K mainGlobals "at_great"=some (some (.ref f55)))
  (F55:FunX K "at_great" "at_great" (top 105) f55)
  (F56:MthX K kD "__init__" "Turn.__init__" ((jx (top 86) 0)))
  (F57:DefX K "is_line" (top 40))
  (F58:DefX K "check_line" (top 41))
  (F59:MthX K ja "check_thing" "Order.check_thing" ((jx (top 21) 2)))
  (F60:MthX K ja "just_above" "Order.just_above" ((jx (top 21) 6)))
  (F61:DefX K "places_within" (top 83))
  (F62:DefX K "slid" (top 84))
  (F63:MthX K kD "done" "Slide.done" ((jx (top 88) 0)))
  (F64:DefX K "with_line" (top 99))
  (a65:W.nsIn K mainGlobals "at_slide"=some (some (.ref f65)))
  (F65:FunX K "at_slide" "at_slide" (top 107) f65)
  (F66:MthX K ja "just_below" "Order.just_below" ((jx (top 21) 5)))
  (F67:DefX K "slid_back" (top 85))
  (F68:MthX K kD "back" "Slide.back" ((jx (top 88) 1)))
  (a69:W.nsIn K mainGlobals "at_unslide"=some (some (.ref f69)))
  (F69:FunX K "at_unslide" "at_unslide" (top 108) f69)
  (F70:MthX K qH "__init__" "Turn.__init__" ((jx (top 86) 0)))
  (F71:MthX K qH "done" "Above.done" ((jx (top 89) 0)))
  (a72:W.nsIn K mainGlobals "at_above"=some (some (.ref f72)))
  (F72:FunX K "at_above" "at_above" (top 109) f72)
  (F73:MthX K qI "__init__" "Turn.__init__" ((jx (top 86) 0)))
  (F74:MthX K qI "done" "Below.done" ((jx (top 90) 0)))
  (a75:W.nsIn K mainGlobals "at_below"=some (some (.ref f75)))
  (F75:FunX K "at_below" "at_below" (top 110) f75)
  (F76:DefX K "check_stairs" (top 50))
  (F77:DefX K "cells_of" (top 51))
  (F78:DefX K "stairs_cells" (top 52))
  (F79:DefX K "neither_greater" (top 53))
  (F80:DefX K "order_of" (top 54))
  (F81:DefX K "stairs" (top 56))
  (a82:W.nsIn K mainGlobals "at_stairs"=some (some (.ref f82)))
  (F82:FunX K "at_stairs" "at_stairs" (top 100) f82)
  (F83:DefX K "downset_at" (top 34))
  (a84:W.nsIn K mainGlobals "at_down"=some (some (.ref f84)))
  (F84:FunX K "at_down" "at_down" (top 101) f84)
  (a85:W.nsIn K mainGlobals "at_line"=some (some (.ref f85)))
  (F85:FunX K "at_line" "at_line" (top 103) f85)
  (F86:DefX K "check_field" (top 49))
  (F87:DefX K "field" (top 55))
  (F88:DefX K "step_from" (top 124))
  (F89:MthX K jW "told" "Desk.told" ((jx (top 125) 1)))
  (F90:DefX K "_law_often" (top 131))
  (F91:DefX K "_law_turned" (top 132))
  (F92:DefX K "_law_fraction" (top 130))
  (F93:DefX K "_law_on_stairs" (top 134))
  (a94:W.nsIn K mainGlobals "law"=some (some (.ref f94)))
  (l94:K.lookup f94=some ⟨oc94,od94,.func (W.fnOf "law" "law" (yl (top 135)) (xf (top 135)) (jh (top 135)) .none kV94 dc94 pm94 an94 cd94 ct94),sl94⟩) (c94:W.codeIn K cd94 "law"=true) (k94:W.keepIn K (.ref f94)=true)
  (y31:W.nsIn K mainGlobals "told_where"=some (some (.ref w6))) (y32:W.keepIn K (.ref w6)=true)
  (y33:W.nsIn K mainGlobals "at_ungreat"=some (some (.ref w5))) (y34:W.keepIn K (.ref w5)=true)
  (y35:W.nsIn K mainGlobals "at_toggle"=some (some (.ref w4))) (y36:W.keepIn K (.ref w4)=true)
  (y37:W.nsIn K mainGlobals "at_swap"=some (some (.ref w3))) (y38:W.keepIn K (.ref w3)=true)
  (y39:W.nsIn K mainGlobals "ASKED"=some (some (.ref w0)))
  (y40:PyProof.Rows.KTD.tabLook (fun (f:Addr) v=>v==Value.ref f) (fun b=>K.lookup b) w0 [("show",f25),("counts",f29),("where",w6),("round",f38),("mean",f45),("sizes",f47),("falls",f51)]=true) (y41:PyProof.Rows.KTD.hashesOf (fun b=>K.lookup b) w0=([("show",f25),("counts",f29),("where",w6),("round",f38),("mean",f45),("sizes",f47),("falls",f51)]:List (Str×Addr)).map fun p=>(PySem.strKind l.prog w).hash p.1)
  (y42:W.nsIn K mainGlobals "PLAIN_STEPS"=some (some (.ref w2)))
  (y43:PyProof.Rows.KTD.tabLook (fun (f:Addr) v=>v==Value.ref f) (fun b=>K.lookup b) w2 [("great",f55),("ungreat",w5),("slide",f65),("unslide",f69),("above",f72),("below",f75)]=true) (y44:PyProof.Rows.KTD.hashesOf (fun b=>K.lookup b) w2=([("great",f55),("ungreat",w5),("slide",f65),("unslide",f69),("above",f72),("below",f75)]:List (Str×Addr)).map fun p=>(PySem.strKind l.prog w).hash p.1)
  (y45:W.nsIn K mainGlobals "NUMBER_STEPS"=some (some (.ref w1)))
  (y46:PyProof.Rows.KTD.tabLook (fun (f:Addr) v=>v==Value.ref f) (fun b=>K.lookup b) w1 [("stairs",f82),("down",f84),("toggle",w4),("line",f85),("swap",w3)]=true) (y47:PyProof.Rows.KTD.hashesOf (fun b=>K.lookup b) w1=([("stairs",f82),("down",f84),("toggle",w4),("line",f85),("swap",w3)]:List (Str×Addr)).map fun p=>(PySem.strKind l.prog w).hash p.1)
  (y48:W.nsIn K mainGlobals "MOST_THINGS"=some (some (.int 9 w10))) (y49:W.nsIn K mainGlobals "ORDER_START"=some (some (.str "order " w11))) (y50:W.nsIn K mainGlobals "MOST_FIGURES"=some (some (.int 6 w8))) (y51:W.nsIn K mainGlobals "FIGURES"=some (some (.str "0123456789" w7))) (y52:W.nsIn K mainGlobals "MOST_STAIRS"=some (some (.int 3 w9)))
  (z0:W.nsIn K mainGlobals "len"=some none) (z1:W.nsIn K mainGlobals "range"=some none) (z2:W.nsIn K mainGlobals "isinstance"=some none) (z3:W.nsIn K mainGlobals "any"=some none) (z4:W.nsIn K mainGlobals "all"=some none) (z5:W.nsIn K mainGlobals "sum"=some none) (z6:W.nsIn K mainGlobals "list"=some none) (z7:W.nsIn K mainGlobals "tuple"=some none) (z8:W.nsIn K mainGlobals "int"=some none) (z9:W.nsIn K mainGlobals "bool"=some none) (z10:W.nsIn K mainGlobals "str"=some none) (z11:W.nsIn K mainGlobals "enumerate"=some none) (z12:W.nsIn K mainGlobals "reversed"=some none) (z13:W.nsIn K mainGlobals "sorted"=some none) (z14:W.nsIn K mainGlobals "set"=some none) (z15:W.nsIn K mainGlobals "max"=some none) (z16:W.nsIn K mainGlobals "min"=some none) (z17:W.nsIn K mainGlobals "abs"=some none) (z18:W.nsIn K mainGlobals "zip"=some none) :
  ∃ fd:FuncData,(∀ (s:Shared) (v:Value),BindsTo s fd ⟨[v],[]⟩ [("_law_script",v)])/\∀ base:Heap,K.In base->base.Ns mainGlobals mg->FnOk l.prog w K mg base CX0 15 fa fd ["_law_script"] (sp1 K (pF cScr) (rF cB) jbj):=by
 have e:=hfa.symm.trans (X9 X G a94);cases e;have B:Bi mg:=⟨Xq X G z0,Xq X G z1,Xq X G z2,Xq X G z3,Xq X G z4,Xq X G z5,Xq X G z6,Xq X G z7,Xq X G z8,Xq X G z9,Xq X G z10,Xq X G z11,Xq X G z12,Xq X G z13,Xq X G z14,Xq X G z15,Xq X G z16,Xq X G z17,Xq X G z18⟩;have Aa:Ab K mg ja:=⟨(jfn y1).cl,y2,y3,y4⟩;have Ad:Ah K mg ji:=⟨(jfn y6).cl,y7,y8,y9,y10⟩;have Aj:Ar K mg jW:=⟨(jfn y12).cl,y13,y14⟩;have Ap:Au K mg kC:=⟨(jfn y16).cl,y17⟩;have Ak:Ao K mg jN:=⟨(jfn y19).cl,y20,y21⟩;have An:Av K mg kD:=⟨(jfn y23).cl,y24⟩;have As:Ax K mg qH:=⟨(jfn y26).cl,y27⟩;have At:Ay K mg qI:=⟨(jfn y29).cl,y30⟩;have x9:∃ t,mg "MOST_THINGS"=some (.int 9 t):=⟨_,X9 X G y48⟩;have Jz:∃ t,mg "ORDER_START"=some (.str "order " t):=⟨_,X9 X G y49⟩;have GO:∃ t,mg "MOST_FIGURES"=some (.int 6 t):=⟨_,X9 X G y50⟩;have WP:∃ t,mg "FIGURES"=some (.str "0123456789" t):=⟨_,X9 X G y51⟩;have Jx:∃ t,mg "MOST_STAIRS"=some (.int 3 t):=⟨_,X9 X G y52⟩;obtain⟨f0,fd0,a0,F0⟩:=F0.ex;obtain⟨f1,fd1,a1,F1⟩:=F1.ex;obtain⟨f2,fd2,a2,F2⟩:=F2.ex;obtain⟨f3,fd3,a3,F3⟩:=F3.ex;obtain⟨f4,fd4,a4,F4⟩:=F4.ex;obtain⟨f5,fd5,a5,F5⟩:=F5.ex;obtain⟨f6,fd6,a6,F6⟩:=F6.ex;obtain⟨f7,fd7,a7,i7,F7⟩:=F7.ex;obtain⟨f8,fd8,a8,i8,F8⟩:=F8.ex;obtain⟨f9,fd9,a9,F9⟩:=F9.ex;obtain⟨f10,fd10,a10,F10⟩:=F10.ex;obtain⟨f11,fd11,a11,F11⟩:=F11.ex;obtain⟨f12,fd12,a12,F12⟩:=F12.ex;obtain⟨f13,fd13,a13,F13⟩:=F13.ex;obtain⟨f14,fd14,a14,F14⟩:=F14.ex;obtain⟨f15,fd15,a15,F15⟩:=F15.ex;obtain⟨f16,fd16,a16,F16⟩:=F16.ex;obtain⟨f17,fd17,a17,i17,F17⟩:=F17.ex;obtain⟨f18,fd18,a18,F18⟩:=F18.ex;obtain⟨f19,fd19,a19,i19,F19⟩:=F19.ex;obtain⟨f20,fd20,a20,F20⟩:=F20.ex;obtain⟨f21,fd21,a21,i21,F21⟩:=F21.ex;obtain⟨f22,fd22,a22,F22⟩:=F22.ex;obtain⟨f23,fd23,a23,F23⟩:=F23.ex;obtain⟨f24,fd24,a24,i24,F24⟩:=F24.ex;obtain⟨fd25,F25⟩:=F25.ex;obtain⟨f26,fd26,a26,F26⟩:=F26.ex;obtain⟨f27,fd27,a27,F27⟩:=F27.ex;obtain⟨f28,fd28,a28,F28⟩:=F28.ex;obtain⟨fd29,F29⟩:=F29.ex;obtain⟨f30,fd30,a30,i30,F30⟩:=F30.ex;obtain⟨f31,fd31,a31,F31⟩:=F31.ex;obtain⟨f32,fd32,a32,F32⟩:=F32.ex;obtain⟨f33,fd33,a33,F33⟩:=F33.ex;obtain⟨f34,fd34,a34,F34⟩:=F34.ex;obtain⟨f35,fd35,a35,i35,F35⟩:=F35.ex;obtain⟨f36,fd36,a36,F36⟩:=F36.ex;obtain⟨f37,fd37,a37,F37⟩:=F37.ex;obtain⟨fd38,F38⟩:=F38.ex;obtain⟨f39,fd39,a39,F39⟩:=F39.ex;have F40:=jkY (st:=(jx (top 37) 0)) l40 c40 k40;have b40:Binds K _ ["self","top","bottom"] []:=jkZ (fd:=W.fnOf "__init__" "Fraction.__init__" (yl ((jx (top 37) 0))) (xf ((jx (top 37) 0))) (jh ((jx (top 37) 0))) dV40 kV40 dc40 pm40 an40 cd40 ct40) dE40 lT40 hT40 fun us hl=>match us,hl with | [_,_,_],_=>⟨_,rfl,rfl⟩
 obtain⟨f41,fd41,a41,F41⟩:=F41.ex;obtain⟨f42,fd42,a42,i42,F42⟩:=F42.ex;obtain⟨f43,fd43,a43,F43⟩:=F43.ex;obtain⟨f44,fd44,a44,F44⟩:=F44.ex;obtain⟨fd45,F45⟩:=F45.ex;obtain⟨f46,fd46,a46,F46⟩:=F46.ex;obtain⟨fd47,F47⟩:=F47.ex;obtain⟨f48,fd48,a48,F48⟩:=F48.ex;obtain⟨f49,fd49,a49,F49⟩:=F49.ex;obtain⟨f50,fd50,a50,F50⟩:=F50.ex;obtain⟨fd51,F51⟩:=F51.ex;obtain⟨f52,fd52,a52,F52⟩:=F52.ex;obtain⟨f53,fd53,a53,F53⟩:=F53.ex;obtain⟨f54,fd54,a54,F54⟩:=F54.ex;obtain⟨fd55,F55⟩:=F55.ex;obtain⟨f56,fd56,a56,i56,F56⟩:=F56.ex;obtain⟨f57,fd57,a57,F57⟩:=F57.ex;obtain⟨f58,fd58,a58,F58⟩:=F58.ex;obtain⟨f59,fd59,a59,i59,F59⟩:=F59.ex;obtain⟨f60,fd60,a60,i60,F60⟩:=F60.ex;obtain⟨f61,fd61,a61,F61⟩:=F61.ex;obtain⟨f62,fd62,a62,F62⟩:=F62.ex;obtain⟨f63,fd63,a63,i63,F63⟩:=F63.ex;obtain⟨f64,fd64,a64,F64⟩:=F64.ex;obtain⟨fd65,F65⟩:=F65.ex;obtain⟨f66,fd66,a66,i66,F66⟩:=F66.ex;obtain⟨f67,fd67,a67,F67⟩:=F67.ex;obtain⟨f68,fd68,a68,i68,F68⟩:=F68.ex;obtain⟨fd69,F69⟩:=F69.ex;obtain⟨f70,fd70,a70,i70,F70⟩:=F70.ex;obtain⟨f71,fd71,a71,i71,F71⟩:=F71.ex;obtain⟨fd72,F72⟩:=F72.ex;obtain⟨f73,fd73,a73,i73,F73⟩:=F73.ex;obtain⟨f74,fd74,a74,i74,F74⟩:=F74.ex;obtain⟨fd75,F75⟩:=F75.ex;obtain⟨f76,fd76,a76,F76⟩:=F76.ex;obtain⟨f77,fd77,a77,F77⟩:=F77.ex;obtain⟨f78,fd78,a78,F78⟩:=F78.ex;obtain⟨f79,fd79,a79,F79⟩:=F79.ex;obtain⟨f80,fd80,a80,F80⟩:=F80.ex;obtain⟨f81,fd81,a81,F81⟩:=F81.ex;obtain⟨fd82,F82⟩:=F82.ex;obtain⟨f83,fd83,a83,F83⟩:=F83.ex;obtain⟨fd84,F84⟩:=F84.ex;obtain⟨fd85,F85⟩:=F85.ex;obtain⟨f86,fd86,a86,F86⟩:=F86.ex;obtain⟨f87,fd87,a87,F87⟩:=F87.ex;obtain⟨f88,fd88,a88,F88⟩:=F88.ex;obtain⟨f89,fd89,a89,i89,F89⟩:=F89.ex;obtain⟨f90,fd90,a90,F90⟩:=F90.ex;obtain⟨f91,fd91,a91,F91⟩:=F91.ex;obtain⟨f92,fd92,a92,F92⟩:=F92.ex;obtain⟨f93,fd93,a93,F93⟩:=F93.ex;have F94:=jdx (st:=top 135) l94 c94 k94;refine⟨W.fnOf "law" "law" (yl (top 135)) (xf (top 135)) (jh (top 135)) .none kV94 dc94 pm94 an94 cd94 ct94,fun s v=>.of_eq rfl,fun base _ _=>?_⟩;have B:BiX l.prog w K mg base:=⟨B⟩;have xb:=jI X G a0 F0 (Wz B F0);have Qq:=jI X G a1 F1 (ZD B F1);have Js:=jI X G a2 F2 (W3 B F2 x9);have Qf:=jI X G a3 F3 (ZF B F3);have WI:=jI X G a4 F4 (jnf B F4);have Vd:=jI X G a5 F5 (jcS B F5 WI);have Jt:=jI X G a6 F6 (W5 B F6 Vd);have yG:=Wf X G y1 a7 i7 y0 F7 (ZG B Aa F7 Js Qf Jt);have jA:=Gx a8 i8 Aa.cl F8 (ZI B Aa F8);have kh:=jI X G a9 F9 (jbq B F9 WI);have xD:=jI X G a10 F10 (jbs B F10);have yE:=jI X G a11 F11 (ZK B Aa F11 jA kh xD);have qK:=jI X G a12 F12 (jcU B Aa F12 jA yE);have G8:=jI X G a13 F13 (je4 B Aa F13 WI xD);have qo:=jI X G a14 F14 (W7 B Aa F14 jA G8);have G_:=jI X G a15 F15 (je6 B Aa F15 qK qo);have Ja:=jI X G a16 F16 (je8 B Aa F16 G_ jA qo);have GM:=Gx a17 i17 Aa.cl F17 (WB B Aa F17);have yF:=jI X G a18 F18 (ZM B Aa F18 jA GM);have xE:=Wf X G y6 a19 i19 y5 F19 (jbt B Aa Ad F19);have qP:=jI X G a20 F20 (ZO B Aa Ad F20 Ja yF xE);have Ui:=Wf X G y12 a21 i21 y11 F21 (jbu B Aj Aa Ad F21 yG qP);have zh:=jI X G a22 F22 (Q7 B F22);have yJ:=jI X G a23 F23 (ZQ B F23);have JA:=Gx a24 i24 Aj.cl F24 (W8 B Aj Aa Ad F24);have Vv:=ZS B Aa Ad F25 yF;have jj7:=jI X G a25 F25 (Vv);have Vh:=jI X G a26 F26 (jcW B Aa F26 qK);have zN:=jI X G a27 F27 (U_ B Aa F27 G_);have qp:=jI X G a28 F28 (W_ B F28);have UP:=Yb B Aa Ad F29 Vh zN qp;have jjm:=jI X G a29 F29 (UP);have yH:=Wf X G y16 a30 i30 y15 F30 (ZT B Ap Aa F30);have xp:=jI X G a31 F31 (VF B Aa F31 yE);have jat:=jI X G a32 F32 (jhA B F32);have jdh:=jI X G a33 F33 (jjc B Aa F33 xp jA G8 jat);have Qg:=jI X G a34 F34 (ZV B Aa F34 jdh kh);have xX:=Gx a35 i35 Ap.cl F35 (ZX B Ap Aa F35 Qg);have Vi:=jI X G a36 F36 (jcY B Ap Aa F36 xX);have ya:=jI X G a37 F37 (Yd B Ap Aa Ad F37 yH Vi);have Vw:=ZZ B Aa Ad F38 ya;have jj8:=jI X G a38 F38 (Vw);have zf:=jI X G a39 F39 (Q9 B F39);have Go:Kls l.prog w K mg base "Fraction" jN 2 ["self","top","bottom"] (jlL K jN (pF cI) (pF cI) (xQ jN) xm):=⟨_,_,⟨(jfn y19).ma,a40,i40,(jfn y19).kc⟩,VG B Ak F40 zf,X9 X G y18,b40⟩;have jhE:=jI X G a41 F41 (jlq B Ak F41 Go);have zO:=Gx a42 i42 Ak.cl F42 (Vb B Ak F42);have Jw:=jI X G a43 F43 (jbw B Ak F43 kh jhE zO);have jhG:=jI X G a44 F44 (jls B Aa F44 xp kh);have Gp:=jI X G a28 F28 (VI B F28);have WS:=jby B Aa Ad F45 ya Jw jhG Gp;have jlE:=jI X G a45 F45 (WS);have WL:=jI X G a46 F46 (je_ B Aa F46 jA qK kh);have Vx:=Z1 B Aa Ad F47 WL qp;have jj9:=jI X G a47 F47 (Vx);have Gq:=jI X G a48 F48 (VL B F48);have jdi:=jI X G a49 F49 (jje B F49);have Vk:=jI X G a50 F50 (jc0 B Aa F50 jA qo Gq jdi);have Vy:=Z3 B Aa Ad F51 Vk qp;have jj_:=jI X G a51 F51 (Vy);have Ug:TabD l.prog w K mg base "ASKED" 11 (ji1 K (pF (jT ja ji)) (rF cS) jcJ):=jcI (D:=[("show",f25),("counts",f29),("where",w6),("round",f38),("mean",f45),("sizes",f47),("falls",f51)]) (X9 X G y39) ⟨y40,(show List.Nodup (["show","counts","where","round","mean","sizes","falls"]:List Str) by decide +kernel),y41⟩ (qN F25 Vv (qN F29 UP (Zq y32 no1 (qN F38 Vw (qN F45 WS (qN F47 Vx (qN F51 Vy Zp)))))));have Uf:=jI X G a52 F52 (jbA B F52 GO WP);have WQ:=jI X G a53 F53 (jfb B F53);have xH:=jI X G a54 F54 (WD B Aa Ad F54 kh WQ xE);have YK:=jc2 B Ap Aa Ad F55 yH xX xH;have jlS:=jI X G a55 F55 (YK);have yI:=Wf X G y23 a56 i56 y22 F56 (Z4 B Aa An F56);have WR:=jI X G a57 F57 (jfd B Aa F57 jA xD);have kZ:=jI X G a58 F58 (Z6 B Aa F58 WR);have k5:=Gx a59 i59 Aa.cl F59 (QN B Aa F59);have xJ:=Gx a60 i60 Aa.cl F60 (Ua B Aa F60 k5);have qb:=jI X G a61 F61 (VN B F61);have YJ:=jI X G a62 F62 (jlu B Aa F62 xJ qb);have Qh:=Gx a63 i63 An.cl F63 (Z8 B Aa An F63 kZ YJ);have Ue:=jI X G a53 F53 (jbC B F53);have kM:=jI X G a64 F64 (jbE B Aa Ad F64 Ue xE);have YL:=jc4 B Aa An Ad F65 yI Qh kM;have jlT:=jI X G a65 F65 (YL);have xK:=Gx a66 i66 Aa.cl F66 (Uc B Aa F66 k5);have zm:=jI X G a67 F67 (jbG B Aa F67 xK qb);have Qj:=Gx a68 i68 An.cl F68 (Z_ B Aa An F68 kZ zm);have Vz:=jab B Aa An Ad F69 yI Qj kM;have jka:=jI X G a69 F69 (Vz);have Qk:=Wf X G y26 a70 i70 y25 F70 (jac B As Aa F70);have Ql:=Gx a71 i71 As.cl F71 (jae B As Aa F71 kZ YJ);have YM:=jc6 B As Aa Ad F72 Qk Ql kM;have jlU:=jI X G a72 F72 (YM);have Qm:=Wf X G y29 a73 i73 y28 F73 (jaf B At Aa F73);have Qn:=Gx a74 i74 At.cl F74 (jah B At Aa F74 kZ zm);have YN:=jc8 B At Aa Ad F75 Qm Qn kM;have jlV:=jI X G a75 F75 (YN);have zZ:TabD l.prog w K mg base "PLAIN_STEPS" 9 (ji1 K (pF (jT ja ji)) (rF (jT ja ji)) zW):=jcI (D:=[("great",f55),("ungreat",w5),("slide",f65),("unslide",f69),("above",f72),("below",f75)]) (X9 X G y42) ⟨y43,(show List.Nodup (["great","ungreat","slide","unslide","above","below"]:List Str) by decide +kernel),y44⟩ (qN F55 YK (Zq y34 no1 (qN F65 YL (qN F69 Vz (qN F72 YM (qN F75 YN Zp))))));have GP:=jI X G a76 F76 (WF B F76 Jx);have Gb:=jI X G a77 F77 (jc_ B F77);have GQ:=jI X G a78 F78 (WH B F78 Gb);have zo:=jI X G a79 F79 (UL B F79);have Gc:=jI X G a80 F80 (jdb B Aa F80 zo yG);have jay:=jI X G a81 F81 (jhC B Aa F81 GP GQ Gc);have WT:=jbI B Aa Ad F82 jay qP;have jlF:=jI X G a82 F82 (WT);have Qo:=jI X G a83 F83 (jaj B Aa F83 qK);have jbO:=jff B Aa Ad F84 Qo xH;have jnq:=jI X G a84 F84 (jbO);have jbP:=jfh B Aa Ad F85 Ja kM;have jnr:=jI X G a85 F85 (jbP);have zy:TabD l.prog w K mg base "NUMBER_STEPS" 9 (jlk K (pF (jT ja ji)) (pF cI) (rF (jT ja ji)) zw):=jcI (D:=[("stairs",f82),("down",f84),("toggle",w4),("line",f85),("swap",w3)]) (X9 X G y45) ⟨y46,(show List.Nodup (["stairs","down","toggle","line","swap"]:List Str) by decide +kernel),y47⟩ (qN F82 WT (qN F84 jbO (Zq y36 no2 (qN F85 jbP (Zq y38 no2 Zp)))));have Jy:=jI X G a86 F86 (Yf B F86 x9);have jdj:=jI X G a87 F87 (jjg B Aa F87 Jy Gb Gc);have Uh:=jI X G a88 F88 (jbK B Aa Ad F88 Jz Uf zZ zy jdj qP);have kj:=Gx a89 i89 Aj.cl F89 (jbL B Aj Aa Ad F89 JA Ug Uh);have kT:=Gx a89 i89 Aj.cl F89 (Yh B Aj Aa Ad F89 Ug);have kH:=jI X G a90 F90 (jak B Aj Aa Ad F90 kj);have JB:=jI X G a91 F91 (Yi B Aj Aa Ad F91 kH kj);have zi:=jI X G a92 F92 (VP B F92);have zP:=jI X G a93 F93 (Vc B Aj Aa Ad F93 kj yJ kT kH);exact jnh B Aj Aa Ad F94 xb Qq Ui zh yJ kj kT kH JB zi zP
end Lw
namespace PySem.W.Fast
def tw3778387608089753170:=0
def tw14809719009163826671:=0
def tw17819182313307448584:=0
def tw16757668695940710798:=0
def tw5411284031461480551:=0
def tw12791155650709778598:=0
def tw18276447223153234197:=0
def tw7968376568424806765:=0
def tw1992413508824743906:=0
def tw7432972558397135213:=0
def tw11789556739118737008:=0
def tw9411551553116588139:=0
def tw15986559478037772053:=0
def tw14991089136254325850:=0
def tw12908459085476017835:=0
def tw3330599868137715926:=0
def tw3728839996222717721:=0
def tw10681219636836967024:=0
def tw6706187440880244526:=0
def tw13763071327062390674:=0
def tw9027462471707051450:=0
def tw7074243009408008284:=0
def tw12598502871584025100:=0
def tw11130346075520678732:=0
def tw10054934735169805092:=0
def tw14302062536206254391:=0
def tw5308860442544722663:=0
def tw4792626512834867099:=0
def tw1611698174847833160:=0
def tw10695716709680911521:=0
def tw1878918489836885900:=0
def tw12388505932292741519:=0
def tw12688011655341860964:=0
def tw1719787127551902745:=0
def tw8683757065292200560:=0
end PySem.W.Fast
namespace Lw
open PySem L2 L3
def walk {l:W.OpenLaw}{q:Program}{d:DefRec}{K:Params->W.Frag} (hn:l.most=some 63) (hdf:d.params.defaults=[])
  (hY:∀ (w:World) (h:Heap),YP w h->(K w.params).In h)
  (F:∀ (w:World) (mg:Str->Option Value) (fa:Addr) (h:Heap),(K w.params).In h->h.Ns mainGlobals mg->mg d.name=some (.ref fa) ->
   ∃ fd:FuncData,(∀ (s:Shared) (u:Value),BindsTo s fd ⟨[u],[]⟩ [("_law_script",u)])/\∀ base:Heap,(K w.params).In base->base.Ns mainGlobals mg->FnOk l.prog w (K w.params) mg base CX0 15 fa fd ["_law_script"] (sp1 (K w.params) (pF cScr) (rF cB) jbj)) :
  W.WalkO q loose XP YP l.row.toRowW d [] (fun f vs=>PySem.call f vs):=
 L2.walk_of (n:=63) (k:=15) (x:="_law_script") (CX:=fun _=>CX0) (sp:=fun w=>sp1 (K w.params) (pF cScr) (rF cB) jbj) hn (by decide) hdf ⟨rfl,by decide,by decide,rfl⟩ hY F (fun _ H a ns hl _ hS=>⟨ns,_,H,true,rfl,Same.refl _,⟨a,rfl,hS⟩,law_true ns hl,fun u F' H' E h=>h⟩) fun _ _ _ _ _ z=>z
end Lw
open PySem PySem.W PyProof.Rows
set_option maxRecDepth 100000 in
set_option maxHeartbeats 0 in
theorem PySem.Challenge.cw_toggleclock_k94_whole_desk_on_fields_holds : PySem.Challenge.rw_toggleclock_k94_whole_desk_on_fields.Holds := by
 w_on; o_law; k_head; (case hw => w_witness2)
 k_fill
 refine Lw.walk (l := PySem.Challenge.rw_toggleclock_k94_whole_desk_on_fields) rfl rfl (fun w h Y => PySem.W.kIn_of Y) ?F
 case F =>
  intro w mg fa h KX G hmg
  refine' Lw.all_mk KX G hmg ?y0 ?y1 ?y2 ?y3 ?y4 ?y5 ?y6 ?y7 ?y8 ?y9 ?y10 ?y11 ?y12 ?y13 ?y14 ?y15 ?y16 ?y17 ?y18 ?y19 ?y20 ?y21 ?y22 ?y23 ?y24 ?y25 ?y26 ?y27 ?y28 ?y29 ?y30 ?F0 ?F1 ?F2 ?F3 ?F4 ?F5 ?F6 ?F7 ?F8 ?F9 ?F10 ?F11 ?F12 ?F13 ?F14 ?F15 ?F16 ?F17 ?F18 ?F19 ?F20 ?F21 ?F22 ?F23 ?F24 ?a25 ?F25 ?F26 ?F27 ?F28 ?a29 ?F29 ?F30 ?F31 ?F32 ?F33 ?F34 ?F35 ?F36 ?F37 ?a38 ?F38 ?F39 ?a40 ?i40 ?l40 ?c40 ?k40 ?dE40 ?lT40 ?hT40 ?F41 ?F42 ?F43 ?F44 ?a45 ?F45 ?F46 ?a47 ?F47 ?F48 ?F49 ?F50 ?a51 ?F51 ?F52 ?F53 ?F54 ?a55 ?F55 ?F56 ?F57 ?F58 ?F59 ?F60 ?F61 ?F62 ?F63 ?F64 ?a65 ?F65 ?F66 ?F67 ?F68 ?a69 ?F69 ?F70 ?F71 ?a72 ?F72 ?F73 ?F74 ?a75 ?F75 ?F76 ?F77 ?F78 ?F79 ?F80 ?F81 ?a82 ?F82 ?F83 ?a84 ?F84 ?a85 ?F85 ?F86 ?F87 ?F88 ?F89 ?F90 ?F91 ?F92 ?F93 ?a94 ?l94 ?c94 ?k94 ?y31 ?y32 ?y33 ?y34 ?y35 ?y36 ?y37 ?y38 ?y39 ?y40 ?y41 ?y42 ?y43 ?y44 ?y45 ?y46 ?y47 ?y48 ?y49 ?y50 ?y51 ?y52 ?z0 ?z1 ?z2 ?z3 ?z4 ?z5 ?z6 ?z7 ?z8 ?z9 ?z10 ?z11 ?z12 ?z13 ?z14 ?z15 ?z16 ?z17 ?z18
  case y0=>k_is
  case y1=>kernel_rfl
  (case y2 | y3 | y4 | y5 => k_is)
  case y6=>kernel_rfl
  (case y7 | y8 | y9 | y10 | y11 => k_is)
  case y12=>kernel_rfl
  (case y13 | y14 | y15 => k_is)
  case y16=>kernel_rfl
  (case y17 | y18 => k_is)
  case y19=>kernel_rfl
  (case y20 | y21 | y22 => k_is)
  case y23=>kernel_rfl
  (case y24 | y25 => k_is)
  case y26=>kernel_rfl
  (case y27 | y28 => k_is)
  case y29=>kernel_rfl
  case y30=>k_is
  (case F0 | F1 | F2 | F3 | F4 | F5 | F6 => exact L3.defX_mk (by k_is) (by k_is) (by k_is) (by k_is))
  (case F7 | F8 => exact L3.mthX_mk (by k_is) (by k_is) (by k_is) (by k_is) (by k_is))
  (case F9 | F10 | F11 | F12 | F13 | F14 | F15 | F16 => exact L3.defX_mk (by k_is) (by k_is) (by k_is) (by k_is))
  case F17=>exact L3.mthX_mk (by k_is) (by k_is) (by k_is) (by k_is) (by k_is)
  case F18=>exact L3.defX_mk (by k_is) (by k_is) (by k_is) (by k_is)
  case F19=>exact L3.mthX_mk (by k_is) (by k_is) (by k_is) (by k_is) (by k_is)
  case F20=>exact L3.defX_mk (by k_is) (by k_is) (by k_is) (by k_is)
  case F21=>exact L3.mthX_mk (by k_is) (by k_is) (by k_is) (by k_is) (by k_is)
  (case F22 | F23 => exact L3.defX_mk (by k_is) (by k_is) (by k_is) (by k_is))
  case F24=>exact L3.mthX_mk (by k_is) (by k_is) (by k_is) (by k_is) (by k_is)
  case a25=>k_is
  case F25=>exact L3.funX_mk (by k_is) (by k_is) (by k_is)
  (case F26 | F27 | F28 => exact L3.defX_mk (by k_is) (by k_is) (by k_is) (by k_is))
  case a29=>k_is
  case F29=>exact L3.funX_mk (by k_is) (by k_is) (by k_is)
  case F30=>exact L3.mthX_mk (by k_is) (by k_is) (by k_is) (by k_is) (by k_is)
  (case F31 | F32 | F33 | F34 => exact L3.defX_mk (by k_is) (by k_is) (by k_is) (by k_is))
  case F35=>exact L3.mthX_mk (by k_is) (by k_is) (by k_is) (by k_is) (by k_is)
  (case F36 | F37 => exact L3.defX_mk (by k_is) (by k_is) (by k_is) (by k_is))
  case a38=>k_is
  case F38=>exact L3.funX_mk (by k_is) (by k_is) (by k_is)
  case F39=>exact L3.defX_mk (by k_is) (by k_is) (by k_is) (by k_is)
  (case a40 | i40 | l40 | c40 | k40 => k_is)
  case dE40=>first|rfl|with_unfolding_all rfl
  case lT40=>k_is
  case hT40=>first|rfl|with_unfolding_all rfl
  case F41=>exact L3.defX_mk (by k_is) (by k_is) (by k_is) (by k_is)
  case F42=>exact L3.mthX_mk (by k_is) (by k_is) (by k_is) (by k_is) (by k_is)
  (case F43 | F44 => exact L3.defX_mk (by k_is) (by k_is) (by k_is) (by k_is))
  case a45=>k_is
  case F45=>exact L3.funX_mk (by k_is) (by k_is) (by k_is)
  case F46=>exact L3.defX_mk (by k_is) (by k_is) (by k_is) (by k_is)
  case a47=>k_is
  case F47=>exact L3.funX_mk (by k_is) (by k_is) (by k_is)
  (case F48 | F49 | F50 => exact L3.defX_mk (by k_is) (by k_is) (by k_is) (by k_is))
  case a51=>k_is
  case F51=>exact L3.funX_mk (by k_is) (by k_is) (by k_is)
  (case F52 | F53 | F54 => exact L3.defX_mk (by k_is) (by k_is) (by k_is) (by k_is))
  case a55=>k_is
  case F55=>exact L3.funX_mk (by k_is) (by k_is) (by k_is)
  case F56=>exact L3.mthX_mk (by k_is) (by k_is) (by k_is) (by k_is) (by k_is)
  (case F57 | F58 => exact L3.defX_mk (by k_is) (by k_is) (by k_is) (by k_is))
  (case F59 | F60 => exact L3.mthX_mk (by k_is) (by k_is) (by k_is) (by k_is) (by k_is))
  (case F61 | F62 => exact L3.defX_mk (by k_is) (by k_is) (by k_is) (by k_is))
  case F63=>exact L3.mthX_mk (by k_is) (by k_is) (by k_is) (by k_is) (by k_is)
  case F64=>exact L3.defX_mk (by k_is) (by k_is) (by k_is) (by k_is)
  case a65=>k_is
  case F65=>exact L3.funX_mk (by k_is) (by k_is) (by k_is)
  case F66=>exact L3.mthX_mk (by k_is) (by k_is) (by k_is) (by k_is) (by k_is)
  case F67=>exact L3.defX_mk (by k_is) (by k_is) (by k_is) (by k_is)
  case F68=>exact L3.mthX_mk (by k_is) (by k_is) (by k_is) (by k_is) (by k_is)
  case a69=>k_is
  case F69=>exact L3.funX_mk (by k_is) (by k_is) (by k_is)
  (case F70 | F71 => exact L3.mthX_mk (by k_is) (by k_is) (by k_is) (by k_is) (by k_is))
  case a72=>k_is
  case F72=>exact L3.funX_mk (by k_is) (by k_is) (by k_is)
  (case F73 | F74 => exact L3.mthX_mk (by k_is) (by k_is) (by k_is) (by k_is) (by k_is))
  case a75=>k_is
  case F75=>exact L3.funX_mk (by k_is) (by k_is) (by k_is)
  (case F76 | F77 | F78 | F79 | F80 | F81 => exact L3.defX_mk (by k_is) (by k_is) (by k_is) (by k_is))
  case a82=>k_is
  case F82=>exact L3.funX_mk (by k_is) (by k_is) (by k_is)
  case F83=>exact L3.defX_mk (by k_is) (by k_is) (by k_is) (by k_is)
  case a84=>k_is
  case F84=>exact L3.funX_mk (by k_is) (by k_is) (by k_is)
  case a85=>k_is
  case F85=>exact L3.funX_mk (by k_is) (by k_is) (by k_is)
  (case F86 | F87 | F88 => exact L3.defX_mk (by k_is) (by k_is) (by k_is) (by k_is))
  case F89=>exact L3.mthX_mk (by k_is) (by k_is) (by k_is) (by k_is) (by k_is)
  (case F90 | F91 | F92 | F93 => exact L3.defX_mk (by k_is) (by k_is) (by k_is) (by k_is))
  (case a94 | l94 | c94 | k94 | y31 | y32 | y33 | y34 | y35 | y36 | y37 | y38 | y39 => k_is)
  (case y40 | y41 => kernel_rfl)
  case y42=>k_is
  (case y43 | y44 => kernel_rfl)
  case y45=>k_is
  (case y46 | y47 => kernel_rfl)
  (case y48 | y49 | y50 | y51 | y52 | z0 | z1 | z2 | z3 | z4 | z5 | z6 | z7 | z8 | z9 | z10 | z11 | z12 | z13 | z14 | z15 | z16 | z17 | z18 => k_is)