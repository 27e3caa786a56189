import PyProof.Rows.All
import Wide.All
import OpenK.AllK
import Wide.FinOn
import Lean
import PyProof.EqAt
import PyProof.EqKinds
import PyProof.TupleCall
import KE.IntBitsLaws
import KE.KFind
import PyProof.ListRange
import KE.KRevIter
import PySem.SetOps
import PyProof.Rows.SetFrom
import PyProof.Rows.SortWalk
import PyProof.CollectWalk
import PyProof.ListNew
import PyProof.SetRoads
import PyProof.MeetsSeq2
import PyProof.MeetsSeq3
import PyProof.StationsW
import PyProof.ExcInit
import PyProof.InstStoreFacts
import PyProof.RulesAs
import PyProof.RulesDel
import PyProof.ExcArgs
import KE.KSortTup
import PyProof.Draws
import PyProof.TupleOfGen
import PyProof.ZipIter
import PyProof.TupleKey
import PyProof.SetKind
import PyProof.IsRules
import PyProof.WalkLemmas
import PyProof.DictKinds
import PyProof.ReprRoads
import PyProof.ReprLen
import PyProof.StrLawsTight
import PyProof.FitsReplace
import PySem.Challenge.RW_toggleclock_k64_all_rounds_share_out
set_option Elab.async false
set_option linter.all false
set_option maxRecDepth 100000
set_option maxHeartbeats 4000000
variable {κ α β γ δ ε α1 α2 α3:Type}{us vs its its':List PySem.Value}{x name qual nm:PySem.Str}{u cdv vl vu cv:PySem.Value}{a it C dx CT jd j7 j3 j4 j5:PySem.Addr}{o:PySem.Obj}{h h' base:PySem.Heap}{items:Array PySem.Value}{prog:PySem.Program}{w:PySem.World}{K:PySem.W.Frag}{A:PySem.Around}{E Q:PySem.Value->PySem.Shared->Prop}{s s':PySem.Shared}{m mr:Option (List α)}{fl:Bool}{P:List (Nat×Nat)}{e tg iter:PySem.Expr}{pins:List (PySem.Addr×PySem.Obj)}{g' g g'':Int->Int->Bool}{t' i y n k':Nat}{ch fp:List PySem.Addr}{N ps loose own:List PySem.Str}{j z:Int}{M:PySem.Model}{pos pos' apos cpos:PySem.Pos}{op:α->Option γ}{st:PySem.Stmt}{c ix tt:List Nat}{es:List PySem.Expr}{body:List PySem.Stmt}{lo hi ma m' mi:Option Int}{f:β->α->Option β}{r:δ}{mA mg:PySem.Str->Option PySem.Value}{pl:PySem.Sem Bool}{R:α->β->Prop}{kw:List (PySem.Str×PySem.Value)}{env:PySem.Env}{outer:List PySem.Env}{fd:PySem.FuncData}{kindOf:PySem.Str->Option PySem.NameKind}{sc scope:PySem.Scope}{an od:Option PySem.Addr}{osl:Array (Option PySem.Value)}{T:String}{sl:List Int->Option (List Int)}{ns:List Int}{l:List α}{XP:(PySem.Str->Option PySem.Value)->PySem.Heap->Prop}{YP:PySem.World->PySem.Heap->Prop}{mb:Option β}{ml:Option (List (κ×α))}{mh:Option (Option Int)}{m1:Option α1}{m2:Option α2}{m3:Option α3}{B:Option δ}{b0:β}{kk:β->Option δ}{mc:Int->Option Bool}{me:Int->Option β}{x1:α1}{x2:α2}{n' mm_:Option Bool}{cM:β->Option Bool}{fM:β->Option β}{mk:Option κ}{mv:Option α}{nss:List (List PySem.Str)}{S:β->Prop}
namespace L2
open PySem PySem.Spec PyProof.Rows
theorem Xb:type_of% @wpAny_bind:=@wpAny_bind
theorem Xc:type_of% @List.getElem?_eq_getElem:=@List.getElem?_eq_getElem
theorem Xd:type_of% @wpAny_pure:=@wpAny_pure
theorem Xe:type_of% @List.mem_cons_of_mem:=@List.mem_cons_of_mem
theorem Xf:type_of% @decide_eq_false:=@decide_eq_false
theorem Xg:type_of% @List.mem_cons_self:=@List.mem_cons_self
theorem Xh:type_of% @Heap.get?_push_of_some:=@Heap.get?_push_of_some
theorem Xj:type_of% @W.mg_of:=@W.mg_of
theorem Xl:type_of% @decide_eq_true:=@decide_eq_true
theorem Xm:type_of% @Nat.le_refl:=@Nat.le_refl
theorem Xp:type_of% @List.mem_range:=@List.mem_range
theorem Xr:type_of% @List.length_map:=@List.length_map
theorem Xs:type_of% @List.size_toArray:=@List.size_toArray
theorem Xt:type_of% @List.length_append:=@List.length_append
theorem Xu:type_of% @decide_eq_true_eq:=@decide_eq_true_eq
theorem Xv:type_of% @List.length_cons:=@List.length_cons
theorem Xw:type_of% @Bool.false_ne_true:=@Bool.false_ne_true
theorem Xx:type_of% @PySem.F.plainAttrs_list:=@PySem.F.plainAttrs_list
theorem Xy:type_of% @PySem.F.type_list_append:=@PySem.F.type_list_append
theorem Xz:type_of% @PySem.F.slot_list_append:=@PySem.F.slot_list_append
theorem XA:type_of% @List.mem_filter:=@List.mem_filter
theorem XB:type_of% @Heap.lt_size:=@Heap.lt_size
theorem XD:type_of% @Heap.get?_push_size:=@Heap.get?_push_size
theorem XE:type_of% @Nat.lt_of_lt_of_le:=@Nat.lt_of_lt_of_le
theorem XF:type_of% @Bool.and_eq_true:=@Bool.and_eq_true
theorem XG:type_of% @List.getElem?_map:=@List.getElem?_map
theorem XI:type_of% @W.mg_none_of:=@W.mg_none_of
theorem XJ:type_of% @Bool.not_true:=@Bool.not_true
theorem XL:type_of% @List.length_range:=@List.length_range
theorem XM:type_of% @List.mem_map:=@List.mem_map
theorem XN:type_of% @Bool.eq_iff_iff:=@Bool.eq_iff_iff
theorem XQ:type_of% @List.length_filter_le:=@List.length_filter_le
theorem XR:type_of% @List.map_cons:=@List.map_cons
theorem XS:type_of% @List.mem_append_right:=@List.mem_append_right
theorem XU:type_of% @List.pairwise_append:=@List.pairwise_append
theorem XV:type_of% @List.getD_eq_getElem?_getD:=@List.getD_eq_getElem?_getD
theorem XX:type_of% @wpAny_truthy_bool:=@wpAny_truthy_bool
theorem XY:type_of% @sizeLine_eq:=@sizeLine_eq
theorem X2:type_of% @Nat.ne_of_lt:=@Nat.ne_of_lt
theorem X6:type_of% @List.all_eq_true:=@List.all_eq_true
theorem X7:type_of% @Int.toNat_natCast:=@Int.toNat_natCast
theorem X8:type_of% @List.mem_of_getElem?:=@List.mem_of_getElem?
theorem X9:type_of% @Bool.false_eq_true:=@Bool.false_eq_true
theorem wa:type_of% @List.range_succ:=@List.range_succ
theorem wb:type_of% @List.map_append:=@List.map_append
theorem wc:type_of% @Array.length_toList:=@Array.length_toList
theorem wd:type_of% @of_decide_eq_true:=@of_decide_eq_true
theorem we:type_of% @Nat.le_trans:=@Nat.le_trans
theorem wf:type_of% @List.pairwise_cons:=@List.pairwise_cons
theorem wg:type_of% @Nat.zero_le:=@Nat.zero_le
theorem wk:type_of% @cond_false:=@cond_false
theorem wm:type_of% @PySem.mem_of_lookup:=@PySem.mem_of_lookup
theorem wn:type_of% @W.kia_one:=@W.kia_one
theorem wo:type_of% @List.find?_cons:=@List.find?_cons
theorem wp:type_of% @Bool.or_eq_true:=@Bool.or_eq_true
theorem wq:type_of% @List.length_singleton:=@List.length_singleton
theorem wr:type_of% @cond_true:=@cond_true
theorem wt:type_of% @List.foldl_cons:=@List.foldl_cons
theorem wu:type_of% @Nat.testBit_lt_two_pow:=@Nat.testBit_lt_two_pow
theorem wv:type_of% @wpAny_holding:=@wpAny_holding
theorem ww:type_of% @List.lookup_cons:=@List.lookup_cons
theorem wx:type_of% @List.length_take:=@List.length_take
theorem wy:type_of% @Nat.lt_of_le_of_lt:=@Nat.lt_of_le_of_lt
theorem wz:type_of% @List.mem_singleton:=@List.mem_singleton
theorem wA:type_of% @List.drop_eq_getElem_cons:=@List.drop_eq_getElem_cons
end L2
namespace L2
open PySem PySem.Spec PyProof.Rows
abbrev Key:=Sum Int Str
def ZL:Key->Value->Bool
 | .inl k,v=>Value.isInt k v
 | .inr x,v=>Value.isStrOf x v
def jiM (w:World):Key->Int
 | .inl k=>hashInt k
 | .inr x=>hashStr w x
theorem xi:∀ {k:Key}{v:Value},ZL k v=true->(∃ i t,k=Sum.inl i/\v=Value.int i t) \/ (∃ x t,k=Sum.inr x/\v=Value.str x t)
 | .inl i,v,h=>by
  obtain⟨t,e⟩:=Value.isInt_shape (k:=i) (v:=v) h;exact .inl ⟨i,t,rfl,e⟩
 | .inr x,v,h=>by
  obtain⟨t,e⟩:=Value.isStrOf_shape (x:=x) (v:=v) h;exact .inr ⟨x,t,rfl,e⟩
theorem jaJ (i:Int) (t:Tok):ZL (.inl i) (.int i t)=true:=by simp[ZL,Value.isInt]
theorem jaK (x:Str) (t:Tok):ZL (.inr x) (.str x t)=true:=by simp[ZL,Value.isStrOf]
theorem jgo (a b:Int):decide ((Sum.inl a:Key)=Sum.inl b)=(a==b):=by
 by_cases e:a=b
 ·subst e; simp
 ·have h:¬ (Sum.inl a:Key)=Sum.inl b:=fun q=>e (Sum.inl.inj q);rw[Xf h];exact(beq_eq_false_iff_ne.mpr e).symm
theorem jgp (a b:Str):decide ((Sum.inr a:Key)=Sum.inr b)=decide (a=b):=by
 by_cases e:a=b
 ·subst e; simp
 ·have h:¬ (Sum.inr a:Key)=Sum.inr b:=fun q=>e (Sum.inr.inj q);rw[Xf h,Xf e]
theorem jgq (a:Int) (b:Str):decide ((Sum.inl a:Key)=Sum.inr b)=false:=Xf (fun q=>nomatch q)
theorem jgr (a:Str) (b:Int):decide ((Sum.inr a:Key)=Sum.inl b)=false:=Xf (fun q=>nomatch q)
def yL (prog:Program) (w:World):PySem.KeyKind prog w Key where
 is:=ZL
 hash:=jiM w
 inj:=fun v a b ha hb=>by
  rcases xi ha with⟨i,t,rfl,rfl⟩ | ⟨x,t,rfl,rfl⟩
  ·rcases xi hb with⟨j,u,rfl,e⟩ | ⟨y,u,rfl,e⟩
   ·injection e with e1 _; rw[e1]
   ·exact nomatch e
  ·rcases xi hb with⟨j,u,rfl,e⟩ | ⟨y,u,rfl,e⟩
   ·exact nomatch e
   ·injection e with e1 _; rw[e1]
 byValue:=fun k v h=>by
  rcases xi h with⟨i,t,rfl,rfl⟩ | ⟨x,t,rfl,rfl⟩ <;> rfl
 pyHash:=fun hv h=>by
  rcases xi hv with⟨i,t,rfl,rfl⟩ | ⟨x,t,rfl,rfl⟩
  ·exact wpAny_pyHash_int h
  ·exact wpAny_pyHash_str h
 eqBool:=fun hu hv h=>by
  rcases xi hu with⟨i,t,rfl,rfl⟩ | ⟨x,t,rfl,rfl⟩
  ·rcases xi hv with⟨j,u,rfl,rfl⟩ | ⟨y,u,rfl,rfl⟩
   ·rw[jgo] at h; exact wpAny_eqBool_int h
   ·rw[jgq] at h; exact SeqAt.EqAt.int_str i t y u _ _ _ _ h
  ·rcases xi hv with⟨j,u,rfl,rfl⟩ | ⟨y,u,rfl,rfl⟩
   ·rw[jgr] at h; exact SeqAt.EqAt.str_int x t j u _ _ _ _ h
   ·rw[jgp] at h; exact wpAny_eqBool_str h
 «strs»:=fun k x t v h=>by
  rcases xi h with⟨i,u,rfl,e⟩ | ⟨y,u,rfl,e⟩
  ·exact nomatch e
  ·injection e with e1 _
   subst e1;cases v <;> rfl
theorem Yi (prog:Program) (w:World) (i:Int) (t:Tok):(yL prog w).is (.inl i) (.int i t)=true:=jaJ i t
theorem Yj (prog:Program) (w:World) (x:Str) (t:Tok):(yL prog w).is (.inr x) (.str x t)=true:=jaK x t
inductive V where
 | non | bl (b:Bool) | int (i:Int) | str (x:Str) | byt (b:Array UInt8) | flt (b:UInt64) | ref (a:Addr) | ty (n:String)
 deriving DecidableEq
def RelV:V->Value->Prop
 | .non,u=>u=Value.none
 | .bl b,u=>u=Value.bool b
 | .int i,u=>∃ t,u=Value.int i t
 | .str x,u=>∃ t,u=Value.str x t
 | .byt b,u=>∃ t,u=Value.bytes b t
 | .flt b,u=>∃ t,u=Value.float b t
 | .ref a,u=>u=Value.ref a
 | .ty n,u=>u=Value.type n
abbrev Vals:List V->List Value->Prop:=Paired RelV
theorem Vals.length {xs:List V} (r:Vals xs us):xs.length=us.length:=Paired.length r
theorem Vals.get:∀ {xs:List V}{us:List Value}{i:Nat}{x:V},Vals xs us->xs[i]?=some x->∃ u,us[i]?=some u/\RelV x u
 | _,_,_,_,.nil,e=>by simp at e
 | _,_,0,_,.cons r _,e=>by simp at e; subst e; exact ⟨_,rfl,r⟩
 | _,_,i+1,x,.cons _ t,e=>by
  obtain⟨u,h1,h2⟩:=Vals.get (i:=i) (x:=x) t (by simpa using e);exact⟨u,by simpa using h1,h2⟩
theorem Vals.set {x:V} (r:RelV x u):∀ {xs:List V}{us:List Value} (i:Nat),Vals xs us->Vals (xs.set i x) (us.set i u)
 | _,_,_,.nil=>.nil
 | _,_,0,.cons _ t=>.cons r t
 | _,_,i+1,.cons q t=>.cons q (Vals.set r i t)
theorem Vals.append:∀ {xs ys:List V}{us ws:List Value},Vals xs us->Vals ys ws->Vals (xs++ys) (us++ws)
 | _,_,_,_,.nil,s=>s
 | _,_,_,_,.cons r t,s=>.cons r (Vals.append t s)
theorem Vals.take:∀ {xs:List V}{us:List Value} (n:Nat),Vals xs us->Vals (xs.take n) (us.take n)
 | _,_,0,_=>.nil
 | _,_,_+1,.nil=>.nil
 | _,_,n+1,.cons r t=>.cons r (Vals.take n t)
theorem Vals.drop:∀ {xs:List V}{us:List Value} (n:Nat),Vals xs us->Vals (xs.drop n) (us.drop n)
 | _,_,0,r=>r
 | _,_,_+1,.nil=>.nil
 | _,_,n+1,.cons _ t=>Vals.drop n t
def RelO:Option V->Option Value->Prop
 | some v,some u=>RelV v u
 | none,none=>True
 | _,_=>False
def KV:List (κ×V)->List (κ×Value)->Prop:=Paired fun (p:κ×V) (q:κ×Value)=>p.1=q.1/\RelV p.2 q.2
def kV:Key->V
 | .inl i=>.int i
 | .inr x=>.str x
inductive HO where
 | lst (xs:List V)
 | tup (xs:List V)
 | dK (kvs:List (Key×V)) | dT (fl:Bool) (kvs:List (List Key×V))
 | set (S:Int->Bool) (n:Nat)
 | ins (C dx:Addr) (fs:List (Str×V))
 | own (x:Addr)
 | xd (fs:List (Str×V))
 | met (f x:Addr)
 | rng (lo hi:Int)
 | frz (o:Obj) (u:HO)
 | tbl (ps:Array Value)
 | ext (φ:Heap->Prop)
abbrev Hp:=Addr->Option HO
def upd (H:Hp) (a:Addr) (o:HO):Hp:=fun b=>if b=a then some o else H b
theorem kR {H:Hp}{o:HO}:upd H a o a=some o:=by unfold upd; rw[if_pos rfl]
theorem qp {H:Hp}{b:Addr}{o:HO} (h:b≠a):upd H a o b=H b:=by unfold upd; rw[if_neg h]
theorem jhW {H:Hp}{b:Addr}{o u:HO} (h:H a=some o) (h':H b=some u) (d:o≠u):a≠b:=by
 intro e; subst e; rw[h] at h'; exact d (Option.some.inj h')
theorem yg {H:Hp}{b:Addr}{o:HO} (h:H a=some o) (h':H b=none):a≠b:=by
 intro e; subst e; rw[h] at h'; cases h'
def TupO (h:Heap) (a:Addr) (items:Array Value):Prop:=∃ o,h.get? a=some o/\(o.cls=.type "tuple"/\o.dict=none)/\∃ n,o.data=.seq items n
theorem TupO.isTup (x:TupO h a items):IsTup h a items:=let ⟨o,e,c,d⟩:=x; ⟨o,e,c.1,d⟩
theorem TupO.lt (x:TupO h a items):a<h.objs.size:=x.isTup.lt
theorem TupO.new (h:Heap) (items:Array Value):TupO (h.push { cls:=.type "tuple",data:=.seq items }) h.objs.size items:=⟨_,XD _ rfl,⟨rfl,rfl⟩,_,rfl⟩
section
variable {K:Type} [DecidableEq K] {knd:KeyKind prog w K} 
def IsNest (knd:KeyKind prog w K) (h:Heap) (ks:List K) (a:Addr):Prop:=∃ k r t v o n,ks=k::r/\h.get? a=some o/\o.cls=.type "tuple"/\o.data=.seq #[.ref t,v] n/\IsTupleKey knd h r t/\knd.is k v=true
theorem IsNest.typeIs {ks:List K} (x:IsNest knd s.heap ks a):s.TypeIs (.ref a) "tuple":=let ⟨_,_,_,_,o,_,_,ho,hc,_⟩:=x; ⟨o,ho,hc⟩
theorem IsNest.inj {x y:List K} (hx:IsNest knd h x a) (hy:IsNest knd h y a):x=y:=by
 obtain⟨k,r,t,v,o,n,rfl,ho,_,hd,ht,hk⟩:=hx;obtain⟨k',r',t',v',o',n',rfl,ho',_,hd',ht',hk'⟩:=hy;obtain rfl:o=o':=Option.some.inj (ho.symm.trans ho');rw[hd] at hd';injection hd' with h1 _
 have h1:=congrArg Array.toList h1;injection h1 with h2 h3
 injection h2 with h2
 injection h3 with h3 _
 subst h2 h3;rw[knd.inj _ _ _ hk hk',ht.inj ht']
theorem IsNest.keeps {ks:List K}{d:Addr}{es ep} (x:IsNest knd h ks a) (ho:h.get? d=some o) (hd:o.data=.dict es ep) (hs:Heap.SameBut d h h'):IsNest knd h' ks a:=by
 obtain⟨k,r,t,v,o',n,e,ho',hc,hd',ht,hk⟩:=x;have hne:a≠d:=by
  rintro rfl;obtain rfl:o'=o:=Option.some.inj (ho'.symm.trans ho);rw[hd] at hd'; exact nomatch hd'
 exact⟨k,r,t,v,o',n,e,(hs.2 a hne).trans ho',hc,hd',ht.keeps ho hd hs,hk⟩
def YZ (knd:KeyKind prog w K):List K->Int
 | []=>0
 | k::r=>reduceHash (Builtin.Tuple.tupleHashOf [tupleKeyHash knd r,knd.hash k])
theorem jaL {ks:List K}{Q:Int->Shared->Prop} (hu:A.units+1<cLine) (hk:IsNest knd s.heap ks a) (h:Q (YZ knd ks) { s with toks:=s.toks+(ks.length+2) }):wpAny (model prog w) A (pyHash (.ref a)) Q E s:=by
 have hT:=hk.typeIs;obtain⟨k,r,t,v,o,n,rfl,ho,hc,hd,ht,hk⟩:=hk;unfold pyHash
 first | unfold pyHashByItsType | skip
 first | refine Xb (wpAny_cRoomFor_or (.inr (by omega)) ?_) | skip
 refine Xb (wpAny_specialOf hT F.slot_tuple_hash.lookup ?_);show wpAny _ _ (if (some (Value.builtin "tuple.__hash__")==some Value.none)=true then _ else _) Q E s;rw[if_neg (by rw[beq_builtin_none]; exact Xw)];refine Xb (wpAny_specialOf hT F.slot_tuple_hash.lookup ?_);show wpAny _ _ (callSpecialIfBoundUnlessNone? (.ref a) "__hash__" _ >>= _) Q E s;refine Xb (wpAny_callSpecialIfBoundUnlessNone?_slot hT F.slot_tuple_hash (wpAny_call_entry F.slot_tuple_hash hT F.entry_tuple_hash ?_ (F.args_tuple_hash_1 _)));show wpAny _ _ (Builtin.Tuple.tupleItemsOf (.ref a) >>= _) _ _ s;refine Xb (wpAny_tupleItemsOf ho hd ?_);refine Xb ?_;rw[<- Array.forIn_toList];show wpAny _ _ (forIn [Value.ref t,v] _ _) _ _ s;rw[List.forIn_cons];refine Xb (Xb (wpAny_pyHash_tuple (A:=A.in1) (show A.units+1<cLine from hu) ht ?_))
 first
  | refine Xd ?_
  | refine Xb (Xd (Xd ?_))
 dsimp only;rw[List.forIn_cons];refine Xb (Xb (knd.pyHash hk ?_))
 first
  | refine Xd ?_
  | refine Xb (Xd (Xd ?_))
 dsimp only;rw[List.forIn_nil];refine Xd ?_;show wpAny _ _ (retInt (Builtin.Tuple.tupleHashOf [tupleKeyHash knd r,knd.hash k])) _ _ _;refine wpAny_ret_mkInt ?_;show wpAny _ _ (if (decide (-(2:Int) ^ 63<=Builtin.Tuple.tupleHashOf [tupleKeyHash knd r,knd.hash k])&&decide (Builtin.Tuple.tupleHashOf [tupleKeyHash knd r,knd.hash k]<2 ^ 63))=true then _ else _) Q E _;have ez:s.toks+(r.length+1)+1+1=s.toks+((k::r).length+2):=by rw[Xv]; omega
 rw[<- ez] at h;have h:Q (reduceHash (Builtin.Tuple.tupleHashOf [tupleKeyHash knd r,knd.hash k])) _:=h;unfold reduceHash at h;by_cases hr:(decide (-(2:Int) ^ 63<=Builtin.Tuple.tupleHashOf [tupleKeyHash knd r,knd.hash k])&&decide (Builtin.Tuple.tupleHashOf [tupleKeyHash knd r,knd.hash k]<2 ^ 63))=true
 ·rw[if_pos hr];rw[if_pos hr] at h;exact Xd h
 ·rw[if_neg hr];rw[if_neg hr] at h;exact Xb (wpAny_rule (Xd h))
theorem Wn {x y:List K}{b:Addr}{P:Fin->Shared->Prop} (hu:A.units<cLine) (hx:IsNest knd s.heap x a) (hy:IsNest knd s.heap y b) (h:P (.done (.ret (.bool (decide (x=y))))) s) :
  wpAny (model prog w) A (Builtin.«tuple.__eq__» ⟨[.ref a,.ref b],[]⟩) P E s:=by
 have hTb:=hy.typeIs;obtain⟨k,r,t,v,o,n,rfl,ho,hc,hd,ht,hk⟩:=hx;obtain⟨k',r',t',v',o',n',rfl,ho',hc',hd',ht',hk'⟩:=hy;show wpAny _ _ (isInstance (.ref b) (.type "tuple") >>= _) _ _ s;refine Xb (wpAny_isInstance hTb isSubtype_tuple_tuple ?_);simp only[XJ,X9,if_false];refine Xb (wpAny_tupleItemsOf ho hd ?_);refine Xb (wpAny_tupleItemsOf ho' hd' ?_);refine Xb ?_;show wpAny _ _ (forIn [(Value.ref t,Value.ref t'),(v,v')] _ _) _ _ s;rw[List.forIn_cons];refine Xb (Xb (wpAny_eqBool_tuple hu ht ht' ?_));by_cases e1:r=r'
 ·subst e1;rw[Xl rfl];simp only[XJ,X9,if_false];refine Xd ?_;dsimp only;rw[List.forIn_cons];refine Xb (Xb (knd.eqBool hk hk' ?_));by_cases e2:k=k'
  ·subst e2;rw[Xl rfl];simp only[XJ,X9,if_false];refine Xd ?_;dsimp only;rw[List.forIn_nil];refine Xd ?_;rw[Xl rfl] at h;exact Xd h
  ·rw[Xf e2];simp only[Bool.not_false,if_true];rw[Xf (fun z=>e2 (List.cons.inj z).1)] at h;exact Xb (Xd (Xd (Xd (Xd h))))
 ·rw[Xf e1];simp only[Bool.not_false,if_true];rw[Xf (fun z=>e1 (List.cons.inj z).2)] at h;exact Xb (Xd (Xd (Xd (Xd h))))
theorem jeY {x y:List K}{b:Addr}{Q:Bool->Shared->Prop} (hu:A.units+1<cLine) (hx:IsNest knd s.heap x a) (hy:IsNest knd s.heap y b) (h:Q (decide (x=y)) s):wpAny (model prog w) A (eqBool (.ref a) (.ref b)) Q E s:=by
 unfold eqBool
 try with_reducible refine wv ?_
 show wpAny _ _ (if (Value.ref a==Value.ref b)=true then _ else _) Q E s;by_cases hab:(Value.ref a==Value.ref b)=true
 ·rw[if_pos hab];have e:a=b:=by have:=eq_of_beq hab; injection this
  subst e;obtain rfl:=hx.inj hy;exact Xb (wpAny_rule (Xd (by simpa using h)))
 ·rw[if_neg hab];exact Xb (wpAny_richCompare_same_room (op:=.Eq) hx.typeIs hy.typeIs F.slot_tuple_eq
   (wpAny_call_entry F.slot_tuple_eq hx.typeIs F.entry_tuple_eq (Wn (A:=A.in1) (show A.units+1<cLine from hu) hx hy ⟨_,rfl,(fun e=>nomatch e),XX h⟩) (F.args_tuple_eq_2 _ _)) (by omega))
theorem jc1 {ks:List K}{m:Nat}{Q:Bool->Shared->Prop} (hk:IsTupleKey knd s.heap ks a) (h:Q true s):wpAny (model prog w) A (eqIsQuiet (m+1) (.ref a)) Q E s:=by
 have hT:=hk.typeIs;obtain⟨o,items,n,ho,_,hd,hi⟩:=hk;unfold eqIsQuiet;refine Xb (wpAny_specialOf hT F.slot_tuple_eq.lookup ?_);show wpAny _ _ (isInstance (.ref a) (.type "tuple") >>= _) _ _ s;refine Xb (wpAny_isInstance hT isSubtype_tuple_tuple ?_);simp only[XJ,X9,if_false];refine Xb (wpAny_seqItems ho hd ?_);refine Xb ?_;show wpAny _ _ (forIn items _ _) _ _ s;rw[<- Array.forIn_toList];refine wpAny_forIn_list _ (fun rest r s'=>r.1=none/\s'=s/\∀ v∈rest,carriedByValue v=true) _ ?_ ?_ _ _ ⟨rfl,rfl,hi.byValue⟩
 ·rintro v rest r s' ⟨hr,rfl,hall⟩;rw[eqIsQuiet_byValue _ (hall v Xg)];refine Xb (Xd ?_);simp only[XJ,X9,if_false];exact Xd ⟨rfl,rfl,fun u hu'=>hall u (Xe _ hu')⟩
 ·rintro⟨r1,r2⟩ s' ⟨hr,rfl,_⟩;simp only at hr;subst hr;exact Xd h
theorem ZM {ks:List K}{Q:Bool->Shared->Prop} (hk:IsNest knd s.heap ks a) (h:Q true s):wpAny (model prog w) A (eqIsQuiet 8 (.ref a)) Q E s:=by
 have hT:=hk.typeIs;obtain⟨k,r,t,v,o,n,rfl,ho,hc,hd,ht,hk⟩:=hk;unfold eqIsQuiet;refine Xb (wpAny_specialOf hT F.slot_tuple_eq.lookup ?_);show wpAny _ _ (isInstance (.ref a) (.type "tuple") >>= _) _ _ s;refine Xb (wpAny_isInstance hT isSubtype_tuple_tuple ?_);simp only[XJ,X9,if_false];refine Xb (wpAny_seqItems ho hd ?_);refine Xb ?_;show wpAny _ _ (forIn #[Value.ref t,v] _ _) _ _ s;rw[<- Array.forIn_toList];show wpAny _ _ (forIn [Value.ref t,v] _ _) _ _ s;rw[List.forIn_cons];refine Xb (Xb (jc1 (m:=6) ht ?_));simp only[XJ,X9,if_false];refine Xd ?_;dsimp only;rw[List.forIn_cons,eqIsQuiet_byValue _ (knd.byValue _ _ hk)];refine Xb (Xb (Xd ?_));simp only[XJ,X9,if_false];refine Xd ?_;dsimp only;rw[List.forIn_nil];exact Xd (Xd h)
end
def jc2 {K:Type} [DecidableEq K] (knd:KeyKind prog w K):HeapKind prog w (List K) where
 is:=IsNest knd
 hash:=YZ knd
 draws:=fun ks=>ks.length+2
 room:=fun A=>A.units+1<cLine
 inj:=fun hx hy=>hx.inj hy
 keeps:=fun x ho hd hs=>x.keeps ho hd hs
 pyHash:=fun hu hk h=>jaL hu hk h
 eqBool:=fun hu hx hy h=>jeY hu hx hy h
 quiet:=fun hk h=>ZM hk h
def TupK (fl:Bool) (H:Hp) (ks:List Key) (b:Addr):Prop:=match fl with
 | false=>H b=some (.tup (ks.map kV))
 | true=>∃ k r t,ks=k::r/\H b=some (.tup [.ref t,kV k])/\H t=some (.tup (r.map kV))
theorem TupK.mono {H H':Hp}{ks:List Key}{b:Addr} (x:TupK fl H ks b) (ht:∀ b xs,H b=some (.tup xs)->H' b=some (.tup xs)):TupK fl H' ks b:=by
 cases fl with
 | false=>exact ht _ _ x
 | true=>obtain⟨k,r,t,e,h1,h2⟩:=x; exact ⟨k,r,t,e,ht _ _ h1,ht _ _ h2⟩
def kdT (fl:Bool) (P:Program) (w:World):HeapKind P w (List Key):=match fl with
 | false=>tupleKind (yL P w)
 | true=>jc2 (yL P w)
section
variable (P:Program) (w:World)
def ObjOk (H:Hp) (h:Heap) (a:Addr):HO->Prop
 | .lst xs=>xs.length<=sizeLine/\∃ (its:List Value) (n:Nat),Vals xs its/\h.get? a=some { cls:=.type "list",data:=.seq its.toArray n }
 | .tup xs=>xs.length<=sizeLine/\∃ its:List Value,Vals xs its/\TupO h a its.toArray
 | .dK kvs=>kvs.length<=sizeLine/\(a==sysModules)=false/\∃ vs,KV kvs vs/\h.DictOf (yL P w) a vs
 | .dT fl kvs=>kvs.length<=sizeLine/\(a==sysModules)=false/\∃ xs:List (List Key×Addr×Value),
   Paired (fun (p:List Key×V) (q:List Key×Addr×Value)=>p.1=q.1/\TupK fl H p.1 q.2.1/\RelV p.2 q.2.2) kvs xs /\
   ∃ o es ep,h.get? a=some o/\o.ExactDict/\o.data=.dict es ep/\es.toList=xs.map (entryOfKey (kdT fl P w))/\(xs.map (·.1)).Nodup
 | .set S n=>h.SetOf (intKind P w) a S n
 | .ins C dx fs=>H dx=some (.own a)/\fs.length<=1000/\dx≠a/\h.get? a=some (W.instObj C dx) /\
   ∃ mA,h.Ns1 dx mA/\(∀ f,RelO (fs.lookup f) (mA f))/\PySem.Within mA (fs.map (·.1))
 | .own _=>∃ o,h.get? a=some o
 | .xd fs=>∃ mA,h.Ns1 a mA/\∀ f,RelO (fs.lookup f) (mA f)
 | .rng lo hi=>∃ t u v,h.get? a=some { cls:=.type "range",data:=.fields #[.int lo t,.int hi u,.int 1 v] }
 | .frz o u=>h.get? a=some o/\ObjOk H h a u
 | .tbl ps=>h.get? a=some { cls:=.none,data:=.fields ps }
 | .met f x=>h.get? a=some (W.methodObj (.ref f) (.ref x))
 | .ext φ=>φ h/\(∃ o,h.get? a=some o)/\∀ h1 h2:Heap,φ h1->(∀ o,h1.get? a=some o->h2.get? a=some o)->φ h2
def HOk (H:Hp) (h:Heap):Prop:=∀ a o,H a=some o->ObjOk P w H h a o
end
section
variable {P:Program}{H H':Hp}{o:HO}
theorem ObjOk.lt (x:ObjOk P w H h a o):a<h.objs.size:=by
 cases o with
 | lst xs=>obtain⟨_,_,_,_,e⟩:=x; exact XB e
 | tup xs=>obtain⟨_,_,_,p⟩:=x; exact p.lt
 | dK kvs=>obtain⟨_,_,_,_,o,_,_,e,_⟩:=x; exact XB e
 | dT fl kvs=>obtain⟨_,_,_,_,o,_,_,e,_⟩:=x; exact XB e
 | set S n=>obtain⟨o,_,_,_,e,_⟩:=x; exact XB e
 | ins C dx fs=>obtain⟨_,_,_,e,_⟩:=x; exact XB e
 | own y=>obtain⟨_,e⟩:=x; exact XB e
 | xd fs=>obtain⟨_,⟨_,_,_,e,_⟩,_⟩:=x; exact XB e
 | rng lo hi=>obtain⟨_,_,_,e⟩:=x; exact XB e
 | frz ob u=>obtain⟨e,_⟩:=x; exact XB e
 | tbl ps=>exact XB (show h.get? a=some _ from x)
 | met f y=>exact XB (show h.get? a=some _ from x)
 | ext φ=>obtain⟨_,⟨_,e⟩,_⟩:=x; exact XB e
theorem Paired.mapP {F G:α->β->Prop}:∀ {l₁:List α}{l₂:List β},Paired F l₁ l₂->(∀ a b,F a b->G a b)->Paired G l₁ l₂
 | _,_,.nil,_=>.nil
 | _,_,.cons r t,f=>.cons (f _ _ r) (Paired.mapP t f)
theorem ObjOk.stay (x:ObjOk P w H h a o) (k:∀ b u,(b=a \/ H b=some (.own a))->h.get? b=some u->h'.get? b=some u)
  (ho:∀ b,H b=some (.own a)->H' b=some (.own a)) (ht:∀ b xs,H b=some (.tup xs)->H' b=some (.tup xs)):ObjOk P w H' h' a o:=by
 induction o with
 | lst xs=>obtain⟨z,its,n,r,e⟩:=x; exact ⟨z,its,n,r,k _ _ (.inl rfl) e⟩
 | tup xs=>obtain⟨z,its,r,ob,e,c⟩:=x; exact ⟨z,its,r,ob,k _ _ (.inl rfl) e,c⟩
 | dK kvs=>obtain⟨z,y,vs,r,ob,es,ep,e,c⟩:=x; exact ⟨z,y,vs,r,ob,es,ep,k _ _ (.inl rfl) e,c⟩
 | dT fl kvs=>
  obtain⟨z,y,xs,r,ob,es,ep,e,c⟩:=x;exact⟨z,y,xs,Paired.mapP r fun p q z=>⟨z.1,z.2.1.mono ht,z.2.2⟩,ob,es,ep,k _ _ (.inl rfl) e,c⟩
 | set S n=>obtain⟨ob,es,ep,t,e,c⟩:=x; exact ⟨ob,es,ep,t,k _ _ (.inl rfl) e,c⟩
 | ins C dx fs=>
  obtain⟨d,z,ne,e,mA,⟨od,es,ep,e2,c⟩,r⟩:=x;exact⟨ho _ d,z,ne,k _ _ (.inl rfl) e,mA,⟨od,es,ep,k _ _ (.inr d) e2,c⟩,r⟩
 | own y=>obtain⟨ob,e⟩:=x; exact ⟨ob,k _ _ (.inl rfl) e⟩
 | xd fs=>obtain⟨mA,⟨od,es,ep,e,c⟩,r⟩:=x; exact ⟨mA,⟨od,es,ep,k _ _ (.inl rfl) e,c⟩,r⟩
 | rng lo hi=>obtain⟨t,u,v,e⟩:=x; exact ⟨t,u,v,k _ _ (.inl rfl) e⟩
 | frz ob u ih=>obtain⟨e,q⟩:=x; exact ⟨k _ _ (.inl rfl) e,ih q⟩
 | tbl ps=>
  have e:h.get? a=some { cls:=.none,data:=.fields ps }:=x;show h'.get? a=some { cls:=.none,data:=.fields ps };exact k a _ (.inl rfl) e
 | met f y=>
  have e:h.get? a=some (W.methodObj (.ref f) (.ref y)):=x;show h'.get? a=some (W.methodObj (.ref f) (.ref y));exact k a _ (.inl rfl) e
 | ext φ=>obtain⟨p,⟨o,e⟩,st⟩:=x; exact ⟨st _ _ p fun o q=>k _ _ (.inl rfl) q,⟨o,k _ _ (.inl rfl) e⟩,st⟩
theorem HOk.lt (x:HOk P w H h) (e:H a=some o):a<h.objs.size:=(x a o e).lt
theorem HOk.fresh (x:HOk P w H h) (e:h.objs.size<=a):H a=none:=by
 cases q:H a with
 | none=>rfl
 | some u=>exact absurd (XE (x.lt q) e) (Nat.lt_irrefl _)
theorem HOk.kept (x:HOk P w H h) (k:∀ b u,h.get? b=some u->h'.get? b=some u):HOk P w H h':=fun a o e=>
 (x a o e).stay (fun b u _ q=>k b u q) (fun _ q=>q) fun _ _ q=>q
theorem HOk.laid (x:HOk P w H h) (k:∀ b u,h.get? b=some u->h'.get? b=some u) (hp:h.objs.size<=a) (new:ObjOk P w (upd H a o) h' a o):HOk P w (upd H a o) h':=fun b u e=>by
 have hn:=x.fresh hp;by_cases hb:b=a
 ·subst hb; rw[kR] at e; cases e; exact new
 ·rw[qp hb] at e;exact(x b u e).stay (fun c v _ q=>k c v q) (fun c q=>by rw[qp (yg q hn)]; exact q) fun c xs q=>by rw[qp (yg q hn)]; exact q
end
def Rd (H:Hp) (a:Addr) (u:HO):Prop:=H a=some u \/ ∃ o,H a=some (.frz o u)
theorem Rd.ok {P:Program}{H:Hp}{u:HO} (r:Rd H a u) (x:HOk P w H h):ObjOk P w H h a u:=by
 rcases r with r | ⟨o,r⟩
 ·exact x a u r
 ·obtain⟨_,q⟩:=x a _ r;exact q
def Mut:Option HO->Prop
 | some (.lst _)=>True
 | some (.dK _)=>True
 | some (.dT _ _)=>True
 | some (.set _ _)=>True
 | some (.ins _ _ _)=>True
 | some (.ext _)=>True
 | _=>False
section
variable {P:Program}{H:Hp}{x e:Addr}{o':HO}
theorem HOk.write (ok:HOk P w H h) (mu:Mut (H x)) (he:e=x \/ H e=some (.own x)) (k:∀ b u,b≠e->h.get? b=some u->h'.get? b=some u) (heo:∃ u,h'.get? e=some u)
  (new:ObjOk P w (upd H x o') h' x o'):HOk P w (upd H x o') h':=fun b u q=>by
 have nown:∀ c y,H c=some (.own y)->c≠x:=fun c y r z=>by subst z; rw[r] at mu; exact mu
 have ntup:∀ c xs,H c=some (.tup xs)->c≠x:=fun c xs r z=>by subst z; rw[r] at mu; exact mu
 by_cases hb:b=x
 ·subst hb; rw[kR] at q; cases q; exact new
 ·rw[qp hb] at q;by_cases hbe:b=e
  ·have q':H b=some (.own x):=by
    rcases he with z | z
    ·exact absurd (hbe.trans z) hb
    ·rw[hbe]; exact z
   rw[q] at q'; cases q';obtain⟨v,hv⟩:=heo;exact⟨v,by rw[hbe]; exact hv⟩
  ·refine(ok b u q).stay (fun c v hc r=>k c v ?_ r) (fun c r=>by rw[qp (nown c b r)]; exact r) fun c xs r=>by rw[qp (ntup c xs r)]; exact r
   rcases hc with rfl | hc
   ·exact hbe
   ·rintro rfl;rcases he with z | z
    ·exact nown c b hc z
    ·rw[hc] at z; cases z; exact hb rfl
end
structure Un (fs ex:List Addr) (H H':Hp) (h h':Heap):Prop where
 keep:∀ b o,h.get? b=some o->H b=none->b∉fs->b∉ex->h'.get? b=some o
 slot:∀ b o,h.get? b=some o->H b=none->b∈fs->b∉ex->∃ sl,h'.get? b=some { o with slots:=sl }
 free:∀ b o,h.get? b=some o->H b=none->b∉ex->H' b=none
 there:∀ b o,h.get? b=some o->b∉ex->∃ o',h'.get? b=some o'
 tups:∀ b xs,H b=some (.tup xs)->H' b=some (.tup xs)
 frzs:∀ b o u,H b=some (.frz o u)->H' b=some (.frz o u)
 tbls:∀ b ps,H b=some (.tbl ps)->∃ more,H' b=some (.tbl (ps++more))
section
variable {fs fs' ex ex':List Addr}{H H1 H2:Hp}{h1 h2:Heap}{x e:Addr}{o:HO}
theorem Un.any (u:Un fs ex H H1 h h1) {b:Addr}{ob:Obj} (q:h.get? b=some ob) (n:H b=none) (hx:b∉ex):∃ sl,h1.get? b=some { ob with slots:=sl }:=by
 by_cases hb:b∈fs
 ·exact u.slot b ob q n hb hx
 ·exact⟨ob.slots,u.keep b ob q n hb hx⟩
theorem Un.kept (k:∀ b u,h.get? b=some u->h'.get? b=some u):Un fs ex H H h h':=
 ⟨fun b ob q _ _ _=>k b ob q,fun b ob q _ _ _=>⟨ob.slots,k b ob q⟩,fun _ _ _ n _=>n,fun b ob q _=>⟨ob,k b ob q⟩,fun _ _ q=>q,fun _ _ _ q=>q,fun _ ps q=>⟨#[],by rw[q]; simp⟩⟩
theorem Un.refl:Un fs ex H H h h:=Un.kept fun _ _ q=>q
theorem Un.laid (k:∀ b u,h.get? b=some u->h'.get? b=some u) (hp:h.objs.size<=a) (hn:H a=none):Un fs ex H (upd H a o) h h' where
 keep:=fun b u q _ _ _=>k b u q
 slot:=fun b u q _ _ _=>⟨u.slots,k b u q⟩
 free:=fun b u q n _=>by rw[qp (X2 (XE (XB q) hp))]; exact n
 there:=fun b u q _=>⟨u,k b u q⟩
 tups:=fun b xs q=>by rw[qp (yg q hn)]; exact q
 frzs:=fun b u xs q=>by rw[qp (yg q hn)]; exact q
 tbls:=fun b ps q=>⟨#[],by rw[qp (yg q hn),q]; simp⟩
theorem Un.write (mu:Mut (H x)) (he:e=x \/ H e=some (.own x)) (k:∀ b u,b≠e->h.get? b=some u->h'.get? b=some u) (heo:∃ u,h'.get? e=some u):Un fs ex H (upd H x o) h h':=by
 have hx:∀ b,H b=none->b≠x:=fun b n z=>by subst z; rw[n] at mu; exact mu
 have hb:∀ b,H b=none->b≠e:=fun b n z=>by
  subst z;rcases he with r | r
  ·exact hx b n r
  ·rw[n] at r; cases r
 have hm:∀ b u,H b=some u->¬ Mut (some u)->b≠x:=fun b u q nm z=>by subst z; rw[q] at mu; exact nm mu
 refine⟨fun b u q n _ _=>k b u (hb b n) q,fun b u q n _ _=>⟨u.slots,k b u (hb b n) q⟩,fun b u q n _=>by rw[qp (hx b n)]; exact n,fun b u q _=>?_,
  fun b xs q=>by rw[qp (hm b _ q fun z=>z)]; exact q,fun b u xs q=>by rw[qp (hm b _ q fun z=>z)]; exact q,fun b ps q=>⟨#[],by rw[qp (hm b _ q fun z=>z),q]; simp⟩⟩
 by_cases hbe:b=e
 ·subst hbe; exact heo
 ·exact⟨u,k b u hbe q⟩
end
def trk (h:Heap) (H:Hp):List Addr:=(List.range h.objs.size).filter fun a=>(H a).isSome
def jc3 (h:Heap) (H:Hp):Heap:=W.hideAll h (trk h H)
theorem jaM (h:Heap) (H:Hp):(jc3 h H).objs.size=h.objs.size:=W.hideAll_size _ _
theorem jc4 {H:Hp}{b:Addr} (e:h.get? b=some o) (n:H b=none):(jc3 h H).get? b=some o:=
 W.hideAll_get _ e fun hm=>by
  have q:(H b).isSome=true:=(XA.mp hm).2;rw[n] at q; simp at q
theorem jeZ {H:Hp}{b:Addr} (e:(jc3 h H).get? b=some o):h.get? b=some o/\H b=none:=by
 have e':h.get? b=some o:=W.of_hideAll (trk h H) e;refine⟨e',?_⟩;cases q:H b with
 | none=>rfl
 | some x=>
  have hm:b∈trk h H:=XA.mpr ⟨Xp.mpr (XB e'),by simp[q]⟩;have z:(jc3 h H).get? b=none:=W.hideAll_none (trk h H) hm;rw[z] at e; cases e
def je0 (g h:Heap) (L:Addr):List (Addr×Obj):=(List.range h.objs.size).filterMap fun a=>if a=L \/ (g.get? a).isSome=true then none else (h.get? a).map fun o=>(a,o)
def rest (g h:Heap) (L d:Addr):List (Addr×Obj):=(je0 g h L).filter fun p=>decide (p.1≠d)
structure Mod (K:W.Frag) (mg:Str->Option Value) (base:Heap):Prop where
 kin:K.In base
 glob:base.Ns mainGlobals mg
 blt:∃ mb,base.Ns builtinsNs mb/\∀ x:Str,x≠"__name__"->mb x=bootBuiltins x
 nolimit:base.NoLimit
structure Cx where
 prog:Program
 w:World
 K:W.Frag
 mg:Str->Option Value
 base:Heap
 A:Around
 N:List Str
 s₀:Shared
 H₀:Hp
 env:Env
 outer:List Env
 stack:List Env
 ex:List Addr
 fn:Str->Bool
 calm:Bool
 pn:List (Addr×Obj)
 xe:Value->Shared->Prop
def frs (l:List Env):List Addr:=l.filterMap (·.frame)
abbrev Cx.fs (X:Cx):List Addr:=frs X.outer
def Vis (sc:Scope) (x:Str):Prop:=sc.names.lookup x=some .local \/ sc.names.lookup x=some .cell \/ sc.names.lookup x=some .free
def Loc (sc:Scope) (x:Str):Prop:=sc.names.lookup x=some .local \/ sc.names.lookup x=some .cell
def jiN (env:Env) (h:Heap) (m:Str->Option Value) (x:Str) (u:Value):Prop:=
 (env.kindOf x=some .local/\m x=some u) \/ ((env.kindOf x=some .cell \/ env.kindOf x=some .free)/\∃ c,env.cells.lookup x=some c/\h.IsCell c (some u))
structure Cx.Ok (X:Cx):Prop where
 mod:Mod X.K X.mg X.base
 kind:X.env.scope.kind=.function
 glob:X.env.globals=mainGlobals
 blt:X.env.builtins=builtinsNs
 above:X.s₀.heap.objs.size<=X.env.locals
 inj:∀ x y c,X.env.cells.lookup x=some c->X.env.cells.lookup y=some c->x=y
 has:∀ x,(X.env.kindOf x=some .cell \/ X.env.kindOf x=some .free)->∃ c,X.env.cells.lookup x=some c
 cab:∀ x c,X.fn x=true->X.env.cells.lookup x=some c->X.s₀.heap.objs.size<=c
 hd:X.calm=true->X.A.handled=none
 frames:X.A.frames=some X.stack
 stk:X.stack=X.outer \/ (X.stack=X.env::X.outer/\X.env.frame=some X.env.locals)
 exf:∀ b∈X.ex,b≠X.env.locals/\∀ x c,X.env.cells.lookup x=some c->c≠b
 bs:∀ b o,X.base.get? b=some o->X.s₀.heap.get? b=some o/\X.H₀ b=none
 bsz:X.base.objs.size<=X.s₀.heap.objs.size
 noex:∀ b o,X.base.get? b=some o->b∉X.ex
 exfs:∀ b∈X.ex,b∉X.fs
 funs:X.s₀.heap.FunFrames X.base X.outer
 frf:∀ b∈X.fs,X.H₀ b=none
structure Inv (X:Cx) (pins:List (Addr×Obj)) (σ:List (Option V)) (H:Hp) (s:Shared):Prop where
 ok:X.Ok
 os:s.os=X.s₀.os
 bare:AllBare s.gens
 base:Un X.fs X.ex X.H₀ H X.s₀.heap s.heap
 loc:∃ m,s.heap.Ns X.env.locals m/\∀ (i:Nat) (x:Str) (v:V),X.N[i]?=some x->σ[i]?=some (some v)->Vis X.env.scope x->∃ u,RelV v u/\jiN X.env s.heap m x u
 cell:∀ x c,X.env.cells.lookup x=some c->∃ v,s.heap.IsCell c v
 free:H X.env.locals=none
 freeC:∀ x c,X.env.cells.lookup x=some c->H c=none
 pin:∀ p∈X.pn++pins,s.heap.get? p.1=some p.2/\H p.1=none/\p.1≠X.env.locals/\p.1∉X.fs/\∀ v,p.2.data≠.cell v
 hok:HOk X.prog X.w H s.heap
 len:σ.length=X.N.length
section
variable {X:Cx}{σ:List (Option V)}{H H':Hp} 
theorem Cx.Ok.nofr (ok:X.Ok) {b:Addr} (e:X.base.get? b=some o):b∉X.fs:=fun hb=>by
 have:=(ok.funs.mem hb).1;rw[e] at this; cases this
theorem Inv.bs (I:Inv X pins σ H s):∀ b o,X.base.get? b=some o->s.heap.get? b=some o/\H b=none:=fun b o e=>
 ⟨I.base.keep b o (I.ok.bs b o e).1 (I.ok.bs b o e).2 (I.ok.nofr e) (I.ok.noex b o e),I.base.free b o (I.ok.bs b o e).1 (I.ok.bs b o e).2 (I.ok.noex b o e)⟩
theorem Inv.bk (I:Inv X pins σ H s):∀ b o,X.base.get? b=some o->s.heap.get? b=some o:=fun b o e=>(I.bs b o e).1
theorem Inv.mod (I:Inv X pins σ H s):Mod X.K X.mg X.base:=I.ok.mod
theorem Inv.kIn (I:Inv X pins σ H s):X.K.In s.heap:=I.ok.mod.kin.keeps I.bk
theorem Inv.lt (I:Inv X pins σ H s):X.env.locals<s.heap.objs.size:=let ⟨_,hn,_⟩:=I.loc; hn.lt
theorem Inv.sz (I:Inv X pins σ H s):X.s₀.heap.objs.size<=s.heap.objs.size:=we I.ok.above (Nat.le_of_lt I.lt)
theorem Inv.nofs (I:Inv X pins σ H s) (h:s.heap.objs.size<=a):a∉X.fs:=fun hb=>by
 obtain⟨_,o,ho,_⟩:=I.ok.funs.mem hb;exact absurd (XE (XB ho) (we I.sz h)) (Nat.lt_irrefl _)
theorem Inv.cne (I:Inv X pins σ H s):∀ x c,X.env.cells.lookup x=some c->c≠X.env.locals:=fun x c e z=>by
 obtain⟨v,o,ho,hd⟩:=I.cell x c e;obtain⟨m,⟨o',es,ep,ho',hd',_⟩,_⟩:=I.loc;rw[z,ho'] at ho; cases ho; rw[hd'] at hd; cases hd
theorem Inv.funs (I:Inv X pins σ H s):s.heap.FunFrames X.base X.outer:=by
 have all:∀ (l:List Env),(∀ b∈frs l,b∈X.fs)->X.s₀.heap.FunFrames X.base l->s.heap.FunFrames X.base l:=by
  intro l
  induction l with
  | nil=>intro _ _; trivial
  | cons env r ih=>
   intro hs hl;obtain⟨hk,⟨L,o,hf,hn,ho,hd⟩,hr⟩:=hl;have hL:L∈X.fs:=hs L (by unfold frs; rw[List.filterMap_cons,hf]; exact Xg);obtain⟨sl,e⟩:=I.base.slot L o ho (I.ok.frf L hL) hL fun z=>I.ok.exfs L z hL;exact⟨hk,⟨L,_,hf,hn,e,hd⟩,ih (fun b hb=>hs b (by unfold frs; rw[List.filterMap_cons,hf]; exact Xe _ hb)) hr⟩
 exact all X.outer (fun _ hb=>hb) I.ok.funs
theorem Inv.stack (I:Inv X pins σ H s):s.heap.FunFrames X.base X.stack:=by
 rcases I.ok.stk with e | ⟨e,hf⟩
 ·rw[e]; exact I.funs
 ·rw[e];obtain⟨m,hn,_⟩:=I.loc;refine .cons (by rw[I.ok.kind]; decide) hf hn ?_ I.funs;exact Heap.get?_none_of_le (we I.ok.bsz I.ok.above)
theorem Inv.stkSub (I:Inv X pins σ H s):∀ b∈frs X.stack,b∈X.env.locals::X.fs:=fun b hb=>by
 rcases I.ok.stk with e | ⟨e,hf⟩
 ·rw[e] at hb; exact Xe _ hb
 ·rw[e] at hb;unfold frs at hb;rw[List.filterMap_cons,hf] at hb;exact hb
theorem Inv.stkFree (I:Inv X pins σ H s):∀ b∈frs X.stack,H b=none:=fun b hb=>by
 rcases List.mem_cons.mp (I.stkSub b hb) with e | hb
 ·rw[e]; exact I.free
 ·obtain⟨_,o,ho,_⟩:=I.ok.funs.mem hb;exact I.base.free b o ho (I.ok.frf b hb) fun z=>I.ok.exfs b z hb
theorem Inv.step {g':Array GenState}{d':Drawn} (I:Inv X pins σ H s)
  (hch:∀ b∈ch,(b∈X.ex \/ X.s₀.heap.objs.size<=b)/\b≠X.env.locals/\(∀ x c,X.env.cells.lookup x=some c->c≠b)/\∀ p∈X.pn++pins,p.1≠b)
  (keep:∀ b o,b≠X.env.locals->b∉X.fs->b∉ch->s.heap.get? b=some o->H b=none->h'.get? b=some o)
  (slot:∀ b o,b≠X.env.locals->b∈X.fs->b∉ch->s.heap.get? b=some o->H b=none->∃ sl,h'.get? b=some { o with slots:=sl }) (free:∀ b o,b∉ch->s.heap.get? b=some o->H b=none->H' b=none)
  (there:∀ b o,b∉ch->s.heap.get? b=some o->∃ o',h'.get? b=some o')
  (tups:∀ b xs,H b=some (.tup xs)->H' b=some (.tup xs)) (frzs:∀ b o u,H b=some (.frz o u)->H' b=some (.frz o u)) (tbls:∀ b ps,H b=some (.tbl ps)->∃ more,H' b=some (.tbl (ps++more)))
  (ns:∀ m,s.heap.Ns X.env.locals m->h'.Ns X.env.locals m) (hok:HOk X.prog X.w H' h') (hg:AllBare g') :
  Inv X pins σ H' { s with heap:=h',gens:=g',drawn:=d',toks:=t' }:=by
 have neL:∀ b o,X.s₀.heap.get? b=some o->b≠X.env.locals:=fun b o e=>X2 (XE (XB e) I.ok.above);have neC:∀ b o,X.s₀.heap.get? b=some o->b∉X.ex->b∉ch:=fun b o e hx hb=>by
  rcases (hch b hb).1 with z | z
  ·exact hx z
  ·exact absurd (XE (XB e) z) (Nat.lt_irrefl _)
 have cellK:∀ x c,X.env.cells.lookup x=some c->∀ v,s.heap.IsCell c v->h'.IsCell c v:=fun x c e v ⟨o,ho,hd⟩=>by
  have nch:c∉ch:=fun z=>(hch c z).2.2.1 x c e rfl;by_cases hc:c∈X.fs
  ·obtain⟨sl,q⟩:=slot c o (I.cne x c e) hc nch ho (I.freeC x c e);exact⟨_,q,hd⟩
  ·exact⟨o,keep c o (I.cne x c e) hc nch ho (I.freeC x c e),hd⟩
 refine⟨I.ok,I.os,hg,⟨fun b o e n hb hx=>?_,fun b o e n hb hx=>?_,fun b o e n hx=>?_,fun b o e hx=>?_,fun b xs e=>tups b xs (I.base.tups b xs e),fun b o xs e=>frzs b o xs (I.base.frzs b o xs e),fun b ps e=>?_⟩,?_,fun x c e=>?_,?_,fun x c e=>?_,fun p hp=>?_,hok,I.len⟩
 ·exact keep b o (neL b o e) hb (neC b o e hx) (I.base.keep b o e n hb hx) (I.base.free b o e n hx)
 ·obtain⟨sl,e1⟩:=I.base.slot b o e n hb hx;obtain⟨sl',e2⟩:=slot b _ (neL b o e) hb (neC b o e hx) e1 (I.base.free b o e n hx);exact⟨sl',e2⟩
 ·obtain⟨o',e1⟩:=I.base.there b o e hx;exact free b o' (neC b o e hx) e1 (I.base.free b o e n hx)
 ·obtain⟨o',e1⟩:=I.base.there b o e hx;exact there b o' (neC b o e hx) e1
 ·obtain⟨m1,e1⟩:=I.base.tbls b ps e;obtain⟨m2,e2⟩:=tbls b _ e1;exact⟨m1++m2,by rw[e2,Array.append_assoc]⟩
 ·obtain⟨m,hn,hl⟩:=I.loc;refine⟨m,ns m hn,fun i x v e1 e2 e3=>?_⟩;obtain⟨u,r,l⟩:=hl i x v e1 e2 e3;refine⟨u,r,?_⟩;rcases l with l | ⟨k,c,e,z⟩
  ·exact .inl l
  ·exact .inr ⟨k,c,e,cellK x c e _ z⟩
 ·obtain⟨v,z⟩:=I.cell x c e;exact⟨v,cellK x c e v z⟩
 ·obtain⟨m,⟨o,_,_,ho,_⟩,_⟩:=I.loc;exact free _ o (fun z=>(hch _ z).2.1 rfl) ho I.free
 ·obtain⟨v,o,ho,hd⟩:=I.cell x c e;exact free c o (fun z=>(hch c z).2.2.1 x c e rfl) ho (I.freeC x c e)
 ·obtain⟨e,n,ne,nf,d⟩:=I.pin p hp;have nch:p.1∉ch:=fun z=>(hch p.1 z).2.2.2 p hp rfl;exact⟨keep p.1 p.2 ne nf nch e n,free p.1 p.2 nch e n,ne,nf,d⟩
theorem Inv.un (I:Inv X pins σ H s) (u:Un X.fs [] H H' s.heap h') (hok:HOk X.prog X.w H' h'):Inv X pins σ H' { s with heap:=h',toks:=t' }:=by
 obtain⟨m,⟨o,es,ep,ho,r⟩,_⟩:=id I.loc;obtain⟨sl,hL⟩:=u.any ho I.free (by simp);exact I.step (g':=s.gens) (d':=s.drawn) (ch:=[]) (fun _ z=>nomatch z) (fun b o _ hb _ e n=>u.keep b o e n hb (by simp)) (fun b o _ hb _ e n=>u.slot b o e n hb (by simp)) (fun b o _ e n=>u.free b o e n (by simp)) (fun b o _ e=>u.there b o e (by simp)) u.tups u.frzs u.tbls (fun m' hm=>by
  obtain⟨o',es',ep',ho',r'⟩:=hm;rw[ho] at ho'; cases ho';exact⟨_,es',ep',hL,r'⟩) hok I.bare
theorem Inv.call {g':Array GenState}{d':Drawn} (I:Inv X pins σ H s) (u:Un (frs X.stack) ch H H' s.heap h') (hok:HOk X.prog X.w H' h') (hg:AllBare g')
  (hch:∀ b∈ch,(b∈X.ex \/ X.s₀.heap.objs.size<=b)/\b≠X.env.locals/\(∀ x c,X.env.cells.lookup x=some c->c≠b)/\∀ p∈X.pn++pins,p.1≠b) :
  Inv X pins σ H' { s with heap:=h',gens:=g',drawn:=d',toks:=t' }:=by
 obtain⟨m,⟨o,es,ep,ho,r⟩,_⟩:=id I.loc;obtain⟨sl,hL⟩:=u.any ho I.free fun z=>(hch _ z).2.1 rfl;exact I.step (ch:=ch) hch (fun b o hL hb hc e n=>u.keep b o e n (fun z=>(List.mem_cons.mp (I.stkSub b z)).elim hL hb) hc) (fun b o _ _ hc e n=>u.any e n hc) (fun b o hc e n=>u.free b o e n hc) (fun b o hc e=>u.there b o e hc) u.tups u.frzs u.tbls (fun m' hm=>by
  obtain⟨o',es',ep',ho',r'⟩:=hm;rw[ho] at ho'; cases ho';exact⟨_,es',ep',hL,r'⟩) hok hg
theorem Inv.turned (I:Inv X pins σ H s) (k:∀ b o,b≠it->s.heap.get? b=some o->h'.get? b=some o) (hn:H it=none) (hL:it≠X.env.locals)
  (h1:it∈X.ex \/ X.s₀.heap.objs.size<=it) (h2:∀ x c,X.env.cells.lookup x=some c->c≠it) (h3:∀ p∈X.pn++pins,p.1≠it):Inv X pins σ H { s with heap:=h',toks:=t' }:=by
 have nit:∀ b u,H b=some u->b≠it:=fun b u e z=>by rw[z,hn] at e; cases e
 refine I.step (g':=s.gens) (d':=s.drawn) (ch:=[it]) (fun b hb=>?_) (fun b o _ _ hc e _=>k b o (fun z=>hc (by simp[z])) e) (fun b o _ _ hc e _=>⟨o.slots,k b o (fun z=>hc (by simp[z])) e⟩) (fun _ _ _ _ n=>n)
  (fun b o hc e=>⟨o,k b o (fun z=>hc (by simp[z])) e⟩) (fun _ _ e=>e) (fun _ _ _ e=>e) (fun b ps e=>⟨#[],by rw[e]; simp⟩) (fun m hm=>?_) (fun b u e=>?_) I.bare
 ·have e:b=it:=by simpa using hb
  subst e;exact⟨h1,hL,h2,h3⟩
 ·obtain⟨o,es,ep,ho,r⟩:=hm;exact⟨o,es,ep,k _ o (Ne.symm hL) ho,r⟩
 ·refine(I.hok b u e).stay (fun c v hc q=>k c v ?_ q) (fun _ q=>q) fun _ _ q=>q;rcases hc with z | z
  ·rw[z]; exact nit b u e
  ·exact nit c _ z
theorem Inv.tok (I:Inv X pins σ H s) (t:Nat):Inv X pins σ H { s with toks:=t }:=I.un (h':=s.heap) (t':=t) Un.refl I.hok
theorem Inv.kept (I:Inv X pins σ H s) (k:∀ b u,s.heap.get? b=some u->h'.get? b=some u):Inv X pins σ H { s with heap:=h',toks:=t' }:=I.un (Un.kept k) (I.hok.kept k)
theorem Inv.laid {o:HO} (I:Inv X pins σ H s) (k:∀ b u,s.heap.get? b=some u->h'.get? b=some u) (hp:s.heap.objs.size<=a) (new:ObjOk X.prog X.w (upd H a o) h' a o) :
  Inv X pins σ (upd H a o) { s with heap:=h',toks:=t' }:=I.un (Un.laid k hp (I.hok.fresh hp)) (I.hok.laid k hp new)
theorem Inv.write {x e:Addr}{o:HO} (I:Inv X pins σ H s) (mu:Mut (H x)) (he:e=x \/ H e=some (.own x)) (k:∀ b u,b≠e->s.heap.get? b=some u->h'.get? b=some u) (heo:∃ u,h'.get? e=some u)
  (new:ObjOk X.prog X.w (upd H x o) h' x o):Inv X pins σ (upd H x o) { s with heap:=h',toks:=t' }:=I.un (Un.write mu he k heo) (I.hok.write mu he k heo new)
theorem Inv.pins_of {pins':List (Addr×Obj)} (I:Inv X pins σ H s) (h:∀ p∈pins',s.heap.get? p.1=some p.2/\H p.1=none/\p.1≠X.env.locals/\p.1∉X.fs/\∀ v,p.2.data≠.cell v):Inv X pins' σ H s:=
 ⟨I.ok,I.os,I.bare,I.base,I.loc,I.cell,I.free,I.freeC,fun p hp=>(List.mem_append.mp hp).elim (fun z=>I.pin p (List.mem_append_left _ z)) (h p),I.hok,I.len⟩
theorem Y0 (hN:N.Nodup) {j:Nat} (a:N[i]?=some x) (b:N[j]?=some x):i=j:=by
 obtain⟨h1,e1⟩:=List.getElem?_eq_some_iff.mp a;obtain⟨h2,e2⟩:=List.getElem?_eq_some_iff.mp b;exact(List.getElem_inj hN).mp (e1.trans e2.symm)
theorem Wo {v:V}{Q:Unit->Shared->Prop} (I:Inv X pins σ H s) (hN:X.N.Nodup) (hi:X.N[i]?=some x) (hx:Loc X.env.scope x) (r:RelV v u)
  (h:∀ s',Inv X pins (σ.set i (some v)) H s'->(∃ a,Heap.SameBut a s.heap s'.heap/\(a=X.env.locals \/ X.env.cells.lookup x=some a))->Q () s') (hf:X.fn x=true \/ X.env.scope.names.lookup x=some .local:=by first | exact .inl rfl | exact .inr rfl | assumption):wpAny M A (storeName X.env x u) Q E s:=by
 obtain⟨m,hn,hl⟩:=id I.loc;have hcls:(X.env.scope.kind==.class||(X.env.scope.kind==.module&&X.env.locals != X.env.globals))=false:=by rw[I.ok.kind]; rfl
 have hiσ:i < σ.length:=by rw[I.len]; exact (List.getElem?_eq_some_iff.mp hi).1
 have cne:=I.cne;have tracked:∀ {a:Addr}{h':Heap},(∃ o,s.heap.get? a=some o/\H a=none)->Heap.SameBut a s.heap h'->HOk X.prog X.w H h':=fun {a h'} ha hs b ob e=>by
  obtain⟨_,_,hfree⟩:=ha;refine(I.hok b ob e).stay (fun c w' hc q=>(hs.2 c ?_).trans q) (fun _ q=>q) fun _ _ q=>q;rintro rfl;rcases hc with rfl | hc
  ·rw[hfree] at e; cases e
  ·rw[hfree] at hc; cases hc
 rcases hx with hk | hk
 ·refine wpAny_storeName_local hk hn (fun h' hn' hs=>?_) hcls;obtain⟨oL,_,_,hoL,_⟩:=id hn;refine h _ ⟨I.ok,I.os,I.bare,⟨fun b o e n hb hx=>?_,fun b o e n hb hx=>?_,I.base.free,fun b o e hx=>?_,I.base.tups,I.base.frzs,I.base.tbls⟩,⟨_,hn',fun j y v' e1 e2 e3=>?_⟩,fun y c e=>?_,I.free,I.freeC,fun p hp=>?_,tracked ⟨oL,hoL,I.free⟩ hs,by simpa using I.len⟩ ⟨_,hs,.inl rfl⟩
  ·exact(hs.2 b (X2 (XE (XB e) I.ok.above))).trans (I.base.keep b o e n hb hx)
  ·obtain⟨sl,e1⟩:=I.base.slot b o e n hb hx;exact⟨sl,(hs.2 b (X2 (XE (XB e) I.ok.above))).trans e1⟩
  ·obtain⟨o',e1⟩:=I.base.there b o e hx;exact⟨o',(hs.2 b (X2 (XE (XB e) I.ok.above))).trans e1⟩
  ·by_cases hj:j=i
   ·subst hj;rw[hi] at e1; cases e1;rw[List.getElem?_set_self hiσ] at e2;cases e2;exact⟨u,r,.inl ⟨hk,by simp⟩⟩
   ·rw[List.getElem?_set_ne (Ne.symm hj)] at e2;obtain⟨u',r',q⟩:=hl j y v' e1 e2 e3;refine⟨u',r',?_⟩;rcases q with⟨k,e⟩ | ⟨k,c,e,z⟩
    ·refine .inl ⟨k,?_⟩;have:y≠x:=fun e=>hj (Y0 hN e1 (e ▸ hi));simp[this,e]
    ·exact .inr ⟨k,c,e,z.sameBut hs (cne y c e)⟩
  ·obtain⟨w',z⟩:=I.cell y c e;exact⟨w',z.sameBut hs (cne y c e)⟩
  ·obtain⟨e,n,ne,nf,d⟩:=I.pin p hp;exact⟨(hs.2 p.1 ne).trans e,n,ne,nf,d⟩
 ·have hfn:X.fn x=true:=by
   rcases hf with z | z
   ·exact z
   ·rw[z] at hk; cases hk
  obtain⟨c,hc⟩:=I.ok.has x (.inl hk);obtain⟨w',z⟩:=I.cell x c hc;refine wpAny_storeName_cell I.ok.kind hk hc z (fun h' hc' hs=>?_);obtain⟨oc,hoc,hocd⟩:=id z;refine h { s with heap:=h' } ⟨I.ok,I.os,I.bare,⟨fun b o e n hb hx=>?_,fun b o e n hb hx=>?_,I.base.free,fun b o e hx=>?_,I.base.tups,I.base.frzs,I.base.tbls⟩,⟨m,hn.sameBut hs (Ne.symm (cne x c hc)),fun j y v' e1 e2 e3=>?_⟩,fun y c' e=>?_,I.free,I.freeC,fun p hp=>?_,tracked ⟨oc,hoc,I.freeC x c hc⟩ hs,by simpa using I.len⟩ ⟨c,hs,.inr hc⟩
  ·exact(hs.2 b (X2 (XE (XB e) (I.ok.cab x c hfn hc)))).trans (I.base.keep b o e n hb hx)
  ·obtain⟨sl,e1⟩:=I.base.slot b o e n hb hx;exact⟨sl,(hs.2 b (X2 (XE (XB e) (I.ok.cab x c hfn hc)))).trans e1⟩
  ·obtain⟨o',e1⟩:=I.base.there b o e hx;exact⟨o',(hs.2 b (X2 (XE (XB e) (I.ok.cab x c hfn hc)))).trans e1⟩
  ·by_cases hj:j=i
   ·subst hj;rw[hi] at e1; cases e1;rw[List.getElem?_set_self hiσ] at e2;cases e2;exact⟨u,r,.inr ⟨.inl hk,c,hc,hc'⟩⟩
   ·rw[List.getElem?_set_ne (Ne.symm hj)] at e2;obtain⟨u',r',q⟩:=hl j y v' e1 e2 e3;refine⟨u',r',?_⟩;rcases q with q | ⟨k,c',e,z'⟩
    ·exact .inl q
    ·refine .inr ⟨k,c',e,z'.sameBut hs ?_⟩;rintro rfl;exact hj (Y0 hN e1 (I.ok.inj _ _ _ e hc ▸ hi))
  ·by_cases hcc:c'=c
   ·subst hcc; exact ⟨_,hc'⟩
   ·obtain⟨w2,z2⟩:=I.cell y c' e;exact⟨w2,z2.sameBut hs hcc⟩
  ·obtain⟨e,n,ne,nf,d⟩:=I.pin p hp;refine⟨(hs.2 p.1 ?_).trans e,n,ne,nf,d⟩;intro q;rw[q,hoc] at e;have q':oc=p.2:=Option.some.inj e;exact d w' (by rw[<- q']; exact hocd)
theorem Y1 {v:V}{Q:Unit->Shared->Prop} (I:Inv X pins σ H s) (hN:X.N.Nodup) (hi:X.N[i]?=some x) (hx:Loc X.env.scope x) (r:RelV v u)
  (h:∀ s',Inv X pins (σ.set i (some v)) H s'->Q () s') (hf:X.fn x=true \/ X.env.scope.names.lookup x=some .local:=by first | exact .inl rfl | exact .inr rfl | assumption):wpAny M A (storeName X.env x u) Q E s:=
 Wo I hN hi hx r (fun s' I' _=>h s' I') hf
theorem Inv.call' (I:Inv X pins σ H s) (ho:s'.os=s.os) (u:Un (frs X.stack) ch H H' s.heap s'.heap) (hok:HOk X.prog X.w H' s'.heap) (hg:AllBare s'.gens)
  (hch:∀ b∈ch,(b∈X.ex \/ X.s₀.heap.objs.size<=b)/\b≠X.env.locals/\(∀ x c,X.env.cells.lookup x=some c->c≠b)/\∀ p∈X.pn++pins,p.1≠b):Inv X pins σ H' s':=by
 obtain⟨h',g',d',t',o'⟩:=s';have e:o'=s.os:=ho;subst e;exact I.call (g':=g') (t':=t') (d':=d') u hok hg hch
end
abbrev XK:=Value->Option Addr->Hp->Prop
abbrev St:=List (Option V)
abbrev VK:=V->Hp->Prop
abbrev TE:=St->Hp->VK->Prop
abbrev TT:=St->Hp->(Bool->Hp->Prop)->Prop
abbrev TA:=St->Hp->(List V->Hp->Prop)->Prop
structure Ends where
 nx:St->Hp->Prop
 rt:VK
 bk:St->Hp->Prop:=fun _ _=>False
 ct:St->Hp->Prop:=fun _ _=>False
abbrev TS:=Ends->St->Hp->Prop
def EP (X:Cx) (pins:List (Addr×Obj)) (σ:St) (Q:VK) (u:Value) (s':Shared):Prop:=∃ v H',Inv X pins σ H' s'/\RelV v u/\Q v H'
def TP (X:Cx) (pins:List (Addr×Obj)) (σ:St) (Q:Bool->Hp->Prop) (b:Bool) (s':Shared):Prop:=∃ H',Inv X pins σ H' s'/\Q b H'
def AP (X:Cx) (pins:List (Addr×Obj)) (σ:St) (Q:List V->Hp->Prop) (us:List Value) (s':Shared):Prop:=∃ vs H',Inv X pins σ H' s'/\Vals vs us/\Q vs H'
def SP (X:Cx) (pins:List (Addr×Obj)) (D:Ends) (f:Flow) (s':Shared):Prop:=
 match f with
 | .next=>∃ σ' H',Inv X pins σ' H' s'/\D.nx σ' H'
 | .brk=>∃ σ' H',Inv X pins σ' H' s'/\D.bk σ' H'
 | .cont=>∃ σ' H',Inv X pins σ' H' s'/\D.ct σ' H'
 | .ret u=>∃ v σ' H',Inv X pins σ' H' s'/\RelV v u/\D.rt v H'
def PE (X:Cx) (e:Expr) (t:TE):Prop:=
 ∀ (pins:List (Addr×Obj)) (s:Shared) (σ:St) (H:Hp) (Q:VK),Inv X pins σ H s->t σ H Q->wpAny (model X.prog X.w) X.A (eval e X.env) (EP X pins σ Q) X.xe s
def PT (X:Cx) (e:Expr) (t:TT):Prop:=
 ∀ (pins:List (Addr×Obj)) (s:Shared) (σ:St) (H:Hp) (Q:Bool->Hp->Prop),Inv X pins σ H s->t σ H Q->wpAny (model X.prog X.w) X.A (isTrue e X.env (eval e X.env)) (TP X pins σ Q) X.xe s
def PW (X:Cx) (e:Expr) (t:TT):Prop:=
 ∀ (whole:Sem Value) (pins:List (Addr×Obj)) (s:Shared) (σ:St) (H:Hp) (Q:Bool->Hp->Prop),Inv X pins σ H s->t σ H Q->wpAny (model X.prog X.w) X.A (isTrue e X.env whole) (TP X pins σ Q) X.xe s
theorem PW.pt {X:Cx}{t:TT} (h:PW X e t):PT X e t:=h _
def PA (X:Cx) (es:List Expr) (t:TA):Prop:=
 ∀ (pos:Pos) (pins:List (Addr×Obj)) (s:Shared) (σ:St) (H:Hp) (Q:List V->Hp->Prop),Inv X pins σ H s->t σ H Q->wpAny (model X.prog X.w) X.A (spliced (backTo pos (starEach es X.env))) (AP X pins σ Q) X.xe s
def PS (X:Cx) (st:Stmt) (t:TS):Prop:=
 ∀ (pins:List (Addr×Obj)) (s:Shared) (σ:St) (H:Hp) (D:Ends),Inv X pins σ H s->t D σ H->wpAny (model X.prog X.w) X.A (exec st X.env) (SP X pins D) X.xe s
def PSs (X:Cx) (st:List Stmt) (t:TS):Prop:=
 ∀ (pins:List (Addr×Obj)) (s:Shared) (σ:St) (H:Hp) (D:Ends),Inv X pins σ H s->t D σ H->wpAny (model X.prog X.w) X.A (execs st X.env) (SP X pins D) X.xe s
theorem thn {t:Sem α}{Q Q':α->Shared->Prop} (h:wpAny M A t Q E s) (hQ:∀ a s,Q a s->Q' a s):wpAny M A t Q' E s:=wpAny_mono h hQ fun _ _ x=>x
section
variable {X:Cx}
def Uv (i:Nat):TE:=fun σ H Q=>∃ v,σ[i]?=some (some v)/\Q v H
def tC (v:V):TE:=fun _ H Q=>Q v H
theorem jgs (hN:X.N[i]?=some x) (hv:Vis X.env.scope x) (hd:(x==("__debug__":Str))=false:=by decide) (hcd:(x==("__classdict__":Str))=false:=by decide):PE X (.Name x pos) (Uv i):=by
 intro pins s σ H Q I h;obtain⟨v,e,h⟩:=h;obtain⟨m,hn,hl⟩:=I.loc;obtain⟨u,r,l⟩:=hl i x v hN e hv;have fin:EP X pins σ Q u s:=⟨v,H,I,r,h⟩;rcases l with⟨hk,hm⟩ | ⟨hk,c,hc,hcell⟩
 ·exact wpAny_Name (wpAny_loadName_local I.ok.kind hk hn hm fin) hd
 ·rcases hk with hk | hk
  ·exact wpAny_Name (wpAny_loadName_cell I.ok.kind hk hc hcell fin) hd
  ·exact wpAny_Name (wpAny_loadName_free I.ok.kind hk hc hcell fin hcd) hd
theorem jy {i j pos}:PE X (.Constant (.int i) j pos) (tC (.int i)):=fun _ _ _ H _ I h=>wpAny_Constant_int ⟨.int i,H,I.tok _,⟨_,rfl⟩,h⟩
theorem GA {b j pos}:PE X (.Constant (.bool b) j pos) (tC (.bl b)):=fun _ _ _ H _ I h=>Constant_bool ⟨.bl b,H,I,rfl,h⟩
def Gl (X:Cx) (x:Str):Prop:=X.env.kindOf x=some .globalImplicit
theorem Yk {σ:St}{H:Hp} (I:Inv X pins σ H s) (hg:Gl X x) (hm:X.mg x=some u) (h:Q u s)
  (hd:(x==("__debug__":Str))=false:=by decide):wpAny (model X.prog X.w) X.A (eval (.Name x pos) X.env) Q E s:=
 Calls.Name_function_global I.ok.kind hg (Calls.loadGlobal_global (by rw[I.ok.glob]; exact I.mod.glob.keeps I.bk) hm h) hd
theorem QK {σ:St}{H:Hp} (I:Inv X pins σ H s) (hg:Gl X x) (hm:X.mg x=none) (hv:bootBuiltins x=some u) (h:Q u s)
  (hn:x≠"__name__":=by decide) (hd:(x==("__debug__":Str))=false:=by decide):wpAny (model X.prog X.w) X.A (eval (.Name x pos) X.env) Q E s:=by
 obtain⟨mb,h1,h2⟩:=I.mod.blt;exact Calls.Name_function_global I.ok.kind hg (Calls.loadGlobal_builtin (by rw[I.ok.glob]; exact I.mod.glob.keeps I.bk) hm (by rw[I.ok.blt]; exact h1.keeps I.bk) ((h2 x hn).trans hv) h) hd
theorem je1 {v:V} (hg:Gl X x) (hm:X.mg x=some u) (r:RelV v u) (hd:(x==("__debug__":Str))=false:=by decide):PE X (.Name x pos) (tC v):=
 fun _ _ _ H _ I h=>Yk I hg hm ⟨v,H,I,r,h⟩ hd
theorem Gg {v:V} (hg:Gl X x) (hm:X.mg x=none) (hv:bootBuiltins x=some u) (r:RelV v u) (hn:x≠"__name__":=by decide) (hd:(x==("__debug__":Str))=false:=by decide):PE X (.Name x pos) (tC v):=
 fun _ _ _ H _ I h=>QK I hg hm hv ⟨v,H,I,r,h⟩ hn hd
variable {a b:Expr}{ta tb:TE} 
def PC (X:Cx) (op:CmpOp) (a b:Expr) (t:TE):Prop:=
 ∀ (pins:List (Addr×Obj)) (s:Shared) (σ:St) (H:Hp) (Q:VK),Inv X pins σ H s->t σ H Q ->
  wpAny (model X.prog X.w) X.A (eval a X.env) (fun v s₁=>wpAny (model X.prog X.w) X.A (eval b X.env) (fun u s₂=>wpAny (model X.prog X.w) X.A (compareOp op v u) (EP X pins σ Q) X.xe s₂) X.xe s₁) X.xe s
theorem jc5 (b:Expr) {op:CmpOp} (h:op≠.In) (h2:op≠.NotIn):behindInMarks op b=false:=by
 have e1:(op==CmpOp.In)=false:=by cases op <;> first | rfl | exact absurd rfl h
 have e2:(op==CmpOp.NotIn)=false:=by cases op <;> first | rfl | exact absurd rfl h2
 cases b <;> simp[behindInMarks,e1,e2]
def tB (t:TE):TT:=fun σ H Q=>t σ H fun x H1=>∃ c,x=.bl c/\Q c H1
theorem jeg {op:CmpOp}{t:TE} (h:PC X op a b t) (h1:behindInMarks op b=false:=by first | exact jc5 _ (by decide) (by decide) | rfl):PT X (.Compare a [op] [b] pos) (tB t):=by
 intro pins s σ H Q I hw;refine wpAny_isTrue_Compare1 (thn (h pins s σ H _ I hw) fun v s1 h1=>thn h1 fun u s2 h2=>thn h2 fun c s3 ⟨x,H1,I1,r1,q1⟩=>?_) h1;obtain⟨d,rfl,q⟩:=q1;cases r1;exact XX ⟨H1,I1,q⟩
theorem qW {t:TE} (h:PE X e t) (he:∀ whole,isTrue e X.env whole=(do let v <- whole; standAt e.pos; holding [v] (truthy v)):=by intro _; rfl):PT X e (tB t):=by
 intro pins s σ H Q I hw;refine isTrue_plain (thn (h pins s σ H _ I hw) fun v s1 ⟨x,H1,I1,r1,q1⟩=>?_) (he _);obtain⟨d,rfl,q⟩:=q1;cases r1;exact XX ⟨H1,I1,q⟩
variable {tA tB':TT}{rest:List Expr}
def jgt (t u:TT):TT:=fun σ H Q=>t σ H fun c H1=>if c=true then u σ H1 Q else Q false H1
def tOr (t u:TT):TT:=fun σ H Q=>t σ H fun c H1=>if c=true then Q true H1 else u σ H1 Q
def jgu (t:TT):TT:=fun σ H Q=>t σ H fun c H1=>Q (!c) H1
theorem jaN (ha:PT X a tA):PW X (.BoolOp .And [a] pos) tA:=by
 intro wh pins s σ H Q I h;refine isTrue_and (thn (ha pins s σ H Q I h) fun c s1 e=>?_);cases c with
 | true=>exact isTrue_and_nil e
 | false=>exact e
theorem UH (ha:PT X a tA):PW X (.BoolOp .Or [a] pos) tA:=by
 intro wh pins s σ H Q I h;refine isTrue_or (thn (ha pins s σ H Q I h) fun c s1 e=>?_);cases c with
 | false=>exact isTrue_or_nil e
 | true=>exact e
theorem jeh (ha:PT X a tA) (hb:PW X (.BoolOp .And (b::rest) pos) tB'):PW X (.BoolOp .And (a::b::rest) pos) (jgt tA tB'):=by
 intro wh pins s σ H Q I h;refine isTrue_and (thn (ha pins s σ H _ I h) fun c s1 ⟨H1,I1,q1⟩=>?_);cases c with
 | true=>exact hb wh pins s1 σ H1 Q I1 q1
 | false=>exact ⟨H1,I1,q1⟩
theorem Wp (ha:PT X a tA) (hb:PW X (.BoolOp .Or (b::rest) pos) tB'):PW X (.BoolOp .Or (a::b::rest) pos) (tOr tA tB'):=by
 intro wh pins s σ H Q I h;refine isTrue_or (thn (ha pins s σ H _ I h) fun c s1 ⟨H1,I1,q1⟩=>?_);cases c with
 | true=>exact ⟨H1,I1,q1⟩
 | false=>exact hb wh pins s1 σ H1 Q I1 q1
theorem yq (ha:PT X a tA):PT X (.UnaryOp .Not a pos) (jgu tA):=by
 intro pins s σ H Q I h;exact isTrue_not (ha pins s σ H (fun c H1=>Q (!c) H1) I h)
def Wq (ta tb:TE):TE:=fun σ H Q=>ta σ H fun x H1=>∃ c,x=.bl c/\if c=true then tb σ H1 Q else Q (.bl false) H1
def jgv (ta tb:TE):TE:=fun σ H Q=>ta σ H fun x H1=>∃ c,x=.bl c/\if c=true then Q (.bl true) H1 else tb σ H1 Q
def jaO (ta:TE):TE:=fun σ H Q=>ta σ H fun x H1=>∃ c,x=.bl c/\Q (.bl (!c)) H1
theorem UI {op}{t:TE} (h:PE X a t):PE X (.BoolOp op [a] pos) t:=fun pins s σ H Q I hw=>BoolOp_one (h pins s σ H Q I hw)
theorem Y2 (ha:PE X a ta) (hb:PE X (.BoolOp .And (b::rest) pos) tb):PE X (.BoolOp .And (a::b::rest) pos) (Wq ta tb):=by
 intro pins s σ H Q I h;refine BoolOp_and (thn (ha pins s σ H _ I h) fun v s1 ⟨x,H1,I1,r1,q1⟩=>?_);obtain⟨c,rfl,q1⟩:=q1;cases r1;refine XX ?_;cases c with
 | true=>exact hb pins s1 σ H1 Q I1 q1
 | false=>exact ⟨.bl false,H1,I1,rfl,q1⟩
theorem je2 (ha:PE X a ta) (hb:PE X (.BoolOp .Or (b::rest) pos) tb):PE X (.BoolOp .Or (a::b::rest) pos) (jgv ta tb):=by
 intro pins s σ H Q I h;refine BoolOp_or (thn (ha pins s σ H _ I h) fun v s1 ⟨x,H1,I1,r1,q1⟩=>?_);obtain⟨c,rfl,q1⟩:=q1;cases r1;refine XX ?_;cases c with
 | false=>exact hb pins s1 σ H1 Q I1 q1
 | true=>exact ⟨.bl true,H1,I1,rfl,q1⟩
theorem jaP (ha:PE X a ta):PE X (.UnaryOp .Not a pos) (jaO ta):=by
 intro pins s σ H Q I h;refine UnaryOp_ (thn (ha pins s σ H _ I h) fun v s1 ⟨x,H1,I1,r1,q1⟩=>?_);obtain⟨c,rfl,q1⟩:=q1;cases r1;exact not_of (XX ⟨.bl (!c),H1,I1,rfl,q1⟩)
end
def SqL (K:W.Frag) (H:Hp) (a:Addr) (xs:List V):Prop:=
 Rd H a (.lst xs) \/
  ∃ (o:Obj) (its:Array Value) (n:Nat),K.lookup a=some o/\o.cls=.type "list"/\o.dict=none/\o.data=.seq its n/\its.size<=sizeLine/\Vals xs its.toList
def SqT (K:W.Frag) (H:Hp) (a:Addr) (xs:List V):Prop:=
 Rd H a (.tup xs) \/
  ∃ (o:Obj) (its:Array Value) (n:Nat),K.lookup a=some o/\o.cls=.type "tuple"/\o.data=.seq its n/\its.size<=sizeLine/\Vals xs its.toList
def jiO:Value->Option V
 | .none=>some .non
 | .bool b=>some (.bl b)
 | .int i _=>some (.int i)
 | .str x _=>some (.str x)
 | .bytes b _=>some (.byt b)
 | .float b _=>some (.flt b)
 | .ref a=>some (.ref a)
 | .type n=>some (.ty n)
 | _=>none
theorem RelV.abs {x:V} (r:RelV x u):jiO u=some x:=by
 cases x with
 | non=>cases r; rfl
 | bl _=>cases r; rfl
 | int _=>obtain⟨t,rfl⟩:=r; rfl
 | str _=>obtain⟨t,rfl⟩:=r; rfl
 | byt _=>obtain⟨t,rfl⟩:=r; rfl
 | flt _=>obtain⟨t,rfl⟩:=r; rfl
 | ref _=>cases r; rfl
 | ty _=>cases r; rfl
theorem RelV.inj {x y:V} (r:RelV x u) (q:RelV y u):x=y:=Option.some.inj (r.abs.symm.trans q.abs)
theorem Vals.inj:∀ {xs ys:List V}{us:List Value},Vals xs us->Vals ys us->xs=ys
 | _,_,_,.nil,.nil=>rfl
 | _,_,_,.cons r t,.cons r' t'=>by rw[r.inj r',Vals.inj t t']
section
variable {X:Cx}{σ:St}{H:Hp}{xs ys:List V}
theorem SqL.of (h:H a=some (.lst xs)):SqL K H a xs:=.inl (.inl h)
theorem SqT.of (h:H a=some (.tup xs)):SqT K H a xs:=.inl (.inl h)
theorem Inv.list (I:Inv X pins σ H s) (h:SqL X.K H a xs):∃ its:List Value,Vals xs its/\PlainL s.heap a its.toArray/\xs.length<=sizeLine:=by
 rcases h with h | ⟨o,its,n,hk,hc,hd,hs,hz,r⟩
 ·obtain⟨z,its,n,r,e⟩:=h.ok I.hok;exact⟨its,r,⟨_,n,e,rfl,rfl,rfl⟩,z⟩
 ·refine⟨its.toList,r,⟨o,n,I.kIn a o hk,hc,hd,by simpa using hs⟩,?_⟩;have e:=r.length;simp only[wc] at e;omega
theorem Inv.tuple (I:Inv X pins σ H s) (h:SqT X.K H a xs):∃ its:List Value,Vals xs its/\IsTup s.heap a its.toArray/\xs.length<=sizeLine:=by
 rcases h with h | ⟨o,its,n,hk,hc,hs,hz,r⟩
 ·obtain⟨z,its,r,p⟩:=h.ok I.hok;exact⟨its,r,p.isTup,z⟩
 ·refine⟨its.toList,r,⟨o,I.kIn a o hk,hc,n,by simpa using hs⟩,?_⟩;have e:=r.length;simp only[wc] at e;omega
theorem Inv.list_inj (I:Inv X pins σ H s) (h:SqL X.K H a xs) (h':SqL X.K H a ys):xs=ys:=by
 obtain⟨its,r,⟨o,n,e,_,_,d⟩,_⟩:=I.list h;obtain⟨its',r',⟨o',n',e',_,_,d'⟩,_⟩:=I.list h';rw[e] at e'; cases e';rw[d] at d';injection d' with d1 _
 have:its=its':=by simpa using congrArg Array.toList d1
 subst this;exact r.inj r'
theorem Inv.tuple_inj (I:Inv X pins σ H s) (h:SqT X.K H a xs) (h':SqT X.K H a ys):xs=ys:=by
 obtain⟨its,r,⟨o,e,_,n,d⟩,_⟩:=I.tuple h;obtain⟨its',r',⟨o',e',_,n',d'⟩,_⟩:=I.tuple h';rw[e] at e'; cases e';rw[d] at d';injection d' with d1 _
 have:its=its':=by simpa using congrArg Array.toList d1
 subst this;exact r.inj r'
end
abbrev Cx.wish (X:Cx) (E:Value->Shared->Prop):Cx:={ X with xe:=E }
abbrev Cx.nox (X:Cx):Cx:=X.wish fun _ _=>False
theorem Cx.Ok.wish {X:Cx} (ok:X.Ok) (E:Value->Shared->Prop):(X.wish E).Ok:=
 ⟨ok.mod,ok.kind,ok.glob,ok.blt,ok.above,ok.inj,ok.has,ok.cab,ok.hd,ok.frames,ok.stk,ok.exf,ok.bs,ok.bsz,ok.noex,ok.exfs,ok.funs,ok.frf⟩
theorem Cx.Ok.unwish {X:Cx} (ok:(X.wish E).Ok):X.Ok:=
 ⟨ok.mod,ok.kind,ok.glob,ok.blt,ok.above,ok.inj,ok.has,ok.cab,ok.hd,ok.frames,ok.stk,ok.exf,ok.bs,ok.bsz,ok.noex,ok.exfs,ok.funs,ok.frf⟩
section
variable {X:Cx}{σ:St}{H:Hp} 
theorem Inv.wish (I:Inv X pins σ H s) (E:Value->Shared->Prop):Inv (X.wish E) pins σ H s:=⟨I.ok.wish E,I.os,I.bare,I.base,I.loc,I.cell,I.free,I.freeC,I.pin,I.hok,I.len⟩
theorem Inv.unwish (I:Inv (X.wish E) pins σ H s):Inv X pins σ H s:=⟨I.ok.unwish,I.os,I.bare,I.base,I.loc,I.cell,I.free,I.freeC,I.pin,I.hok,I.len⟩
theorem SP.unwish {D:Ends}{f:Flow} (h:SP (X.wish E) pins D f s'):SP X pins D f s':=by
 cases f with
 | next=>obtain⟨σ',H',I,q⟩:=h; exact ⟨σ',H',I.unwish,q⟩
 | brk=>obtain⟨σ',H',I,q⟩:=h; exact ⟨σ',H',I.unwish,q⟩
 | cont=>obtain⟨σ',H',I,q⟩:=h; exact ⟨σ',H',I.unwish,q⟩
 | ret u=>obtain⟨v,σ',H',I,r,q⟩:=h; exact ⟨v,σ',H',I.unwish,r,q⟩
theorem PSs.nox {st:List Stmt}{t:TS} (h:PSs X.nox st t):PSs X st t:=fun pins s σ H D I hw=>
 wpAny_mono (h pins s σ H D (I.wish _) hw) (fun _ _ q=>q.unwish) fun _ _ z=>False.elim z
end
section
variable {X:Cx}{rest:List Stmt}{t u:TS}{te:TE} 
def jgw:TS:=fun D σ H=>D.nx σ H
def Uw (t u:TS):TS:=fun D σ H=>t { D with nx:=u D } σ H
theorem kg:PSs X [] jgw:=fun _ _ σ H _ I h=>wpAny_execs_nil ⟨σ,H,I,h⟩
theorem jg (h1:PS X st t) (h2:PSs X rest u):PSs X (st::rest) (Uw t u):=by
 intro pins s σ H D I h;refine wpAny_execs_cons (thn (h1 pins s σ H { D with nx:=u D } I h) fun f s1 q=>?_)
 cases f with
 | next=>
  obtain⟨σ',H',I',q⟩:=q;exact h2 pins s1 σ' H' D I' q
 | ret v=>exact q
 | brk=>exact q
 | cont=>exact q
theorem jo (h1:PS X st t):PSs X [st] t:=by
 intro pins s σ H D I h;refine wpAny_execs_cons (thn (h1 pins s σ H D I h) fun f s1 q=>?_);cases f with
 | next=>exact wpAny_execs_nil q
 | ret v=>exact q
 | brk=>exact q
 | cont=>exact q
theorem Inv.quiet {σ:St}{H:Hp} (I:Inv X pins σ H s):interactive X.env=false:=by simp[interactive,I.ok.kind]
def Wr (te:TE):TS:=fun D σ H=>te σ H fun _ H1=>D.nx σ H1
theorem kZ (he:PE X e te) (hs:swapsWith e none pos.line X.env=pure false:=by rfl):PS X (.Expr e pos) (Wr te):=by
 intro pins s σ H D I h;exact wpAny_Expr_any (thn (he pins s σ H _ I h) fun v s1 ⟨x,H1,I1,r1,q1⟩=>⟨σ,H1,I1,q1⟩) I.quiet hs
def jgx (te:TE):TS:=fun D σ H=>te σ H D.rt
theorem j1 (he:PE X e te):PS X (.Return (some e) pos) (jgx te):=by
 intro pins s σ H D I h;exact wpAny_Return_some (thn (he pins s σ H _ I h) fun v s1 ⟨x,H1,I1,r1,q1⟩=>⟨x,σ,H1,I1,r1,q1⟩)
def jc6 (c:TT) (t u:TS):TS:=fun D σ H=>c σ H fun b H1=>if b=true then t D σ H1 else u D σ H1
theorem qB {c:Expr}{a b:List Stmt}{tc:TT} (hc:PT X c tc) (ha:PSs X a t) (hb:PSs X b u):PS X (.If c a b pos) (jc6 tc t u):=by
 intro pins s σ H D I h;refine wpAny_If (thn (hc pins s σ H _ I h) fun d s1 ⟨H1,I1,q1⟩=>?_);cases d with
 | true=>exact ha pins s1 σ H1 D I1 q1
 | false=>exact hb pins s1 σ H1 D I1 q1
def jei:TS:=fun _ _ _=>False
theorem JI:PS X st jei:=fun _ _ _ _ _ _ h=>h.elim
theorem QL {sts:List Stmt}:PSs X sts jei:=fun _ _ _ _ _ _ h=>h.elim
end
abbrev TG:=V->St->Hp->(St->Hp->Prop)->Prop
abbrev TGs:=List V->St->Hp->(St->Hp->Prop)->Prop
def PG (X:Cx) (target:Expr) (t:TG):Prop:=
 ∀ (pins:List (Addr×Obj)) (s:Shared) (σ:St) (H:Hp) (v:V) (u:Value) (Q:St->Hp->Prop),Inv X pins σ H s->RelV v u->t v σ H Q ->
  wpAny (model X.prog X.w) X.A (assign target X.env u) (fun _ s'=>∃ σ' H',Inv X pins σ' H' s'/\Q σ' H') X.xe s
def PGs (X:Cx) (ts:List Expr) (t:TGs):Prop:=
 ∀ (pins:List (Addr×Obj)) (s:Shared) (σ:St) (H:Hp) (vs:List V) (us:List Value) (Q:St->Hp->Prop),Inv X pins σ H s->Vals vs us->t vs σ H Q ->
  wpAny (model X.prog X.w) X.A (assignInOrder ((assignEach ts X.env).map (·.2)) us) (fun _ s'=>∃ σ' H',Inv X pins σ' H' s'/\Q σ' H') X.xe s
abbrev jhX:=V->V->V->Hp->(Hp->Prop)->Prop
def jiB (X:Cx) (t:jhX):Prop:=
 ∀ (pins:List (Addr×Obj)) (s:Shared) (σ:St) (H:Hp) (o i v:V) (ov iv u:Value) (Q:Hp->Prop),Inv X pins σ H s->RelV o ov->RelV i iv->RelV v u->t o i v H Q ->
  wpAny (model X.prog X.w) X.A (setItem ov iv u) (fun _ s'=>∃ H',Inv X pins σ H' s'/\Q H') X.xe s
section
variable {X:Cx} 
def xq (i:Nat):TG:=fun v σ H Q=>Q (σ.set i (some v)) H
theorem jN (hN:X.N.Nodup) (hi:X.N[i]?=some x) (hx:Loc X.env.scope x) (hf:X.fn x=true \/ X.env.scope.names.lookup x=some .local:=by first | exact .inl rfl | exact .inr rfl | assumption):PG X (.Name x pos) (xq i):=by
 intro pins s σ H v u Q I r h;exact wpAny_assign_Name (Y1 I hN hi hx r (fun s' I'=>⟨_,H,I',h⟩) hf)
def je3:TGs:=fun vs σ H Q=>vs=[]/\Q σ H
def J9 (t:TG) (u:TGs):TGs:=fun vs σ H Q=>∃ v r,vs=v::r/\t v σ H fun σ' H'=>u r σ' H' Q
theorem QM:PGs X [] je3:=by
 intro pins s σ H vs us Q I r h;obtain⟨e,h⟩:=h;subst e;cases r;exact assignInOrder_nil ⟨σ,H,I,h⟩
theorem yC {t:TG}{u:TGs} (h1:PG X e t) (h2:PGs X es u)
  (hs:(assignEach (e::es) X.env).map (·.2)=assign e X.env::(assignEach es X.env).map (·.2):=by rfl):PGs X (e::es) (J9 t u):=by
 intro pins s σ H vs us Q I r h;obtain⟨v,vr,e1,h⟩:=h;subst e1;cases r with
 | cons r rr=>
  rw[hs];refine assignInOrder_cons (thn (h1 pins s σ H _ _ _ I r h) fun _ s1 ⟨σ1,H1,I1,q1⟩=>?_);exact h2 pins s1 σ1 H1 _ _ Q I1 rr q1
def je4 (K:W.Frag) (n:Nat) (t:TGs):TG:=fun v σ H Q=>∃ a xs,v=.ref a/\SqT K H a xs/\xs.length=n/\t xs σ H Q
theorem Ws {k:Nat}{t:TGs} (hc:X.calm=true) (h:PGs X es t)
  (hn:(assignEach es X.env).length=n:=by rfl) (hst:(assignEach es X.env).findIdx? (·.1)=none:=by rfl):PG X (.Tuple es k pos) (je4 X.K n t):=by
 intro pins s σ H v u Q I r hw;obtain⟨a,xs,e1,hq,hl,hw⟩:=hw;subst e1;cases r;obtain⟨its,rv,ht,hz⟩:=I.tuple hq;refine assign_Tuple_tuple (I.ok.hd hc) ht (by simp[hn,<- hl,rv.length]) hst fun h' hx=>?_;have I1:Inv X pins σ H { s with heap:=h' }:=I.kept (t':=s.toks) fun b o e=>hx b o (X2 (XB e)) e
 exact h pins _ σ H xs _ Q I1 (by simpa using rv) hw
def jhP (to ti:TE) (t:jhX):TG:=fun v σ H Q=>to σ H fun o H1=>ti σ H1 fun i H2=>t o i v H2 fun H3=>Q σ H3
theorem jaQ {o i:Expr}{to ti:TE}{t:jhX} (ho:PE X o to) (hi:PE X i ti) (hs:jiB X t)
  (ha:∀ v,assign (.Subscript o i pos) X.env v=(do
   let ov <- holding [v] (eval o X.env)
   let iv <- holding [v,ov] (eval i X.env)
   standAt pos
   holding [v,ov,iv] (setItem ov iv v)
   release [v,ov,iv] []):=by intro _; rfl):PG X (.Subscript o i pos) (jhP to ti t):=by
 intro pins s σ H v u Q I r h;rw[ha];refine Xb (wv (thn (ho pins s σ H _ I h) fun ov s1 ⟨x,H1,I1,r1,q1⟩=>?_));refine Xb (wv (thn (hi pins s1 σ H1 _ I1 q1) fun iv s2 ⟨y,H2,I2,r2,q2⟩=>?_));refine Xb (wpAny_standAt (Xb (wv (thn (hs pins s2 σ H2 x y v ov iv u _ I2 r1 r2 r q2) fun _ s3 ⟨H3,I3,q3⟩=>?_))));exact wpAny_release ⟨σ,H3,I3,q3⟩
def U4 (te:TE) (g:TG):TS:=fun D σ H=>te σ H fun x H1=>g x σ H1 D.nx
theorem jaR {te:TE}{g:TG} (he:PE X e te) (hg:PG X tg g) (hs:swapsWithSole [tg] e pos.line X.env=pure false:=by rfl) (hw:swappedStores [tg] e X.env=pure none:=by rfl)
  (h1:(assignEach [tg] X.env).map (·.2)=[assign tg X.env]:=by rfl):PS X (.Assign [tg] e pos) (U4 te g):=by
 intro pins s σ H D I h;refine wpAny_Assign_stores (thn (he pins s σ H _ I h) fun v s1 ⟨x,H1,I1,r1,q1⟩=>?_) hs hw;rw[h1];exact thn (hg pins s1 σ H1 x v _ I1 r1 q1) fun _ s2 q=>q
theorem jM {te:TE} (hN:X.N.Nodup) (hi:X.N[i]?=some x) (hx:Loc X.env.scope x) (he:PE X e te) (hs:swapsWith e (some (.Name x pos')) pos.line X.env=pure false:=by rfl) (hf:X.fn x=true \/ X.env.scope.names.lookup x=some .local:=by first | exact .inl rfl | exact .inr rfl | assumption) :
  PS X (.Assign [.Name x pos'] e pos) (U4 te (xq i)):=by
 intro pins s σ H D I h;refine wpAny_Assign_Name (thn (he pins s σ H _ I h) fun v s1 ⟨y,H1,I1,r1,q1⟩=>?_) hs;exact Y1 I1 hN hi hx r1 (fun s2 I2=>⟨_,H1,I2,q1⟩) hf
end
section
variable {X:Cx} 
def jaS (c:TT) (tb:TS):TS:=fun D σ H=>∃ W:Nat->St->Hp->Prop,(∃ m,W m σ H)/\∀ m σ H,W m σ H ->
 c σ H fun b H1=>if b=true then ∃ N:St->Hp->Prop,(∀ σ' H',N σ' H'->∃ m',m'<m/\W m' σ' H')/\tb { D with nx:=N,ct:=N,bk:=D.nx } σ H1 else D.nx σ H1
theorem Jd {c:Expr}{tc:TT}{tb:TS} (hp:PassesOwn (model X.prog X.w) X.A X.env X.xe) (hc:PT X c tc) (hb:PSs X body tb):PS X (.While c body [] pos) (jaS tc tb):=by
 intro pins s σ H D I h;obtain⟨W,⟨m0,w0⟩,turn⟩:=h;refine wpAny_While (codeAny_whileLoop (fun n s'=>∃ σ' H',Inv X pins σ' H' s'/\W n σ' H') ?_ m0 ⟨σ,H,I,w0⟩);rintro n s1 ⟨σ1,H1,I1,w1⟩;refine wpAny_passesOwn hp (thn (hc pins s1 σ1 H1 _ I1 (turn n σ1 H1 w1)) fun b s2 ⟨H2,I2,q2⟩=>?_);cases b with
 | true=>
  obtain⟨N,hN,q2⟩:=q2;rw[if_pos rfl];refine wpAny_passesOwn hp (thn (hb pins s2 σ1 H2 _ I2 q2) fun f s3 q3=>?_);cases f with
  | next=>
   obtain⟨σ3,H3,I3,n3⟩:=q3;obtain⟨m',hm,w3⟩:=hN σ3 H3 n3;exact⟨m',hm,σ3,H3,I3,w3⟩
  | cont=>
   obtain⟨σ3,H3,I3,n3⟩:=q3;obtain⟨m',hm,w3⟩:=hN σ3 H3 n3;exact⟨m',hm,σ3,H3,I3,w3⟩
  | brk=>exact q3
  | ret v=>exact q3
 | false=>
  rw[if_neg Xw];exact wpAny_execs_nil ⟨σ1,H2,I2,q2⟩
end
structure It where
 go:Nat->Hp->Prop
 yld:Nat->Hp->V->Hp->Prop
 stop:Nat->Hp->Prop
def jaT (X:Cx) (pins:List (Addr×Obj)) (H:Hp) (b:Addr):Prop:=
 H b=none/\b≠X.env.locals/\b∉X.fs/\(b∈X.ex \/ X.s₀.heap.objs.size<=b)/\(∀ x c,X.env.cells.lookup x=some c->c≠b)/\∀ p∈X.pn++pins,p.1≠b
theorem Inv.fpOk {X:Cx}{σ:St}{H H':Hp}{b:Addr} (I:Inv X pins σ H s) (hb:s.heap.objs.size<=b) (hn:H' b=none):jaT X pins H' b:=by
 refine⟨hn,Nat.ne_of_gt (XE I.lt hb),I.nofs hb,.inr (we I.sz hb),fun x c e z=>?_,fun p hp z=>?_⟩
 ·obtain⟨v,q⟩:=I.cell x c e;exact absurd (XE q.lt (by rw[z]; exact hb)) (Nat.lt_irrefl _)
 ·exact absurd (XE (XB (I.pin p hp).1) (by rw[z]; exact hb)) (Nat.lt_irrefl _)
structure Turn (P:Program) (w:World) (K:W.Frag) (tg:Expr) (J:It) (fp:List Addr) (it:Addr) (tn:Nat->Heap->Prop):Prop where
 mem:it∈fp
 obj:∀ i h,tn i h->∀ b∈fp,∃ o,h.get? b=some o/\∀ v,o.data≠.cell v
 keep:∀ i h h',tn i h->(∀ b∈fp,∀ o,h.get? b=some o->h'.get? b=some o)->tn i h'
 item:∀ (X:Cx),X.prog=P->X.w=w->X.K=K->X.calm=true->∀ (i:Nat) (pins:List (Addr×Obj)) (s:Shared) (σ:St) (H:Hp) (E:Value->Shared->Prop),Inv X pins σ H s->(∀ b∈fp,jaT X pins H b)->tn i s.heap->J.go i H ->
  wpAny (model P w) X.A (pyNext (.ref it)) (fun r s1=>∃ u,r=some u /\
   wpAny (model P w) X.A (letOwnedTupleGo tg (.ref it) u) (fun _ s2=>∃ x H',Inv X pins σ H' s2/\RelV x u/\J.yld i H x H'/\tn (i+1) s2.heap/\∀ b∈fp,H' b=none) E s1) E s
 done:∀ (X:Cx),X.prog=P->X.w=w->X.K=K->X.calm=true->∀ (i:Nat) (pins:List (Addr×Obj)) (s:Shared) (σ:St) (H:Hp) (E:Value->Shared->Prop),Inv X pins σ H s->(∀ b∈fp,jaT X pins H b)->tn i s.heap->J.stop i H ->
  wpAny (model P w) X.A (pyNext (.ref it)) (fun r s1=>r=none/\Inv X pins σ H s1) E s
 self:∀ (A:Around) (i:Nat) (s:Shared) (Q:Value->Shared->Prop) (E:Value->Shared->Prop),tn i s.heap->Q (.ref it) s->wpAny (model P w) A (pyIter (.ref it)) Q E s
abbrev TI:=St->Hp->(It->Hp->Prop)->Prop
def PIE (X:Cx) (pins:List (Addr×Obj)) (σ:St) (tg:Expr) (R:It->Hp->Prop) (itv:Value) (s2:Shared):Prop:=
 ∃ (it:Addr) (fp:List Addr) (tn:Nat->Heap->Prop) (J:It) (H':Hp),itv=.ref it/\Inv X pins σ H' s2/\Turn X.prog X.w X.K tg J fp it tn/\tn 0 s2.heap/\(∀ b∈fp,jaT X pins H' b)/\R J H'
def PI (X:Cx) (tg iter:Expr) (wi:TI):Prop:=
 ∀ (pins:List (Addr×Obj)) (s:Shared) (σ:St) (H:Hp) (R:It->Hp->Prop),Inv X pins σ H s->wi σ H R ->
  wpAny (model X.prog X.w) X.A (eval iter X.env) (fun v s1=>wpAny (model X.prog X.w) X.A (pyIter v) (PIE X pins σ tg R) X.xe s1) X.xe s
theorem jc7 {n:String}{vs:Array Value}{Q:Unit->Shared->Prop} (ho:s.heap.get? it=some o) (hc:o.cls=.type n) (hd:o.data=.fields vs)
    (hn:["enumerate","zip","dict_itemiterator","dict_reverseitemiterator","odict_iterator","itertools.zip_longest","itertools.pairwise"].contains n=false) (hQ:Q () s):wpAny M A (letOwnedTupleGo tg (.ref it) u) Q E s:=by
  unfold letOwnedTupleGo;cases tg <;> first
    | exact Xd hQ
    | (cases u <;> first
        | exact Xd hQ
        | (refine Xb (wpAny_load ho ?_)
           rw[hc,hd];show wpAny M A (if (["enumerate","zip","dict_itemiterator","dict_reverseitemiterator","odict_iterator","itertools.zip_longest","itertools.pairwise"].contains n&&vs[0]?==some (rawInt _))=true then _ else _) Q E s;rw[if_neg (by intro h; rw[hn,Bool.false_and] at h; cases h)];exact Xd hQ))
def Itl (K:W.Frag) (a:Addr):It:=
 ⟨fun i H=>∃ xs x,SqL K H a xs/\xs[i]?=some x,fun i H x H'=>H'=H/\∀ xs,SqL K H a xs->xs[i]?=some x,fun i H=>∃ xs,SqL K H a xs/\xs.length<=i⟩
def Itt (K:W.Frag) (a:Addr):It:=
 ⟨fun i H=>∃ xs x,SqT K H a xs/\xs[i]?=some x,fun i H x H'=>H'=H/\∀ xs,SqT K H a xs->xs[i]?=some x,fun i H=>∃ xs,SqT K H a xs/\xs.length<=i⟩
def Itr (lo:Int) (n:Nat):It:=⟨fun i _=>i<n,fun i H x H'=>H'=H/\x=.int (lo+i),fun i _=>n<=i⟩
theorem jaU {P:Program} (a it:Addr):Turn P w K tg (Itl K a) [it] it (fun i h=>h.IsListIter it a i) where
 mem:=by simp
 obj:=fun i h st b hb=>by
  have e:b=it:=by simpa using hb
  subst e;obtain⟨o,e,c,d⟩:=st;exact⟨o,e,fun v z=>by rw[d] at z; cases z⟩
 keep:=fun i h h' st k=>st.at fun o e=>k it (by simp) o e
 item:=by
  intro X hP hw hK hc i pins s σ H E I hf st hg;subst hP hw hK;obtain⟨xs,x,hq,hx⟩:=hg;obtain⟨its,rv,p,hz⟩:=I.list hq;obtain⟨u,hu,ru⟩:=rv.get hx;obtain⟨f0,f1,f2,f3,f4,f5⟩:=hf it (by simp);refine wpAny_pyNext_list_item st p.isList (x:=u) (by simpa using hu) fun h' st' sb=>?_;have I1:Inv X pins σ H { s with heap:=h' }:=I.turned (t':=s.toks) (fun b o hb e=>(sb.2 b hb).trans e) f0 f1 f3 f4 f5
  obtain⟨o,e,c,d⟩:=id st';exact⟨u,rfl,jc7 (s:={ s with heap:=h' }) e c d (by decide) ⟨x,H,I1,ru,⟨rfl,fun ys hy=>by rw[I.list_inj hy hq]; exact hx⟩,st',fun b hb=>(hf b hb).1⟩⟩
 done:=by
  intro X hP hw hK hc i pins s σ H E I hf st hg;subst hP hw hK;obtain⟨xs,hq,hx⟩:=hg;obtain⟨its,rv,p,hz⟩:=I.list hq;obtain⟨f0,f1,f2,f3,f4,f5⟩:=hf it (by simp);have hl:=rv.length;exact wpAny_pyNext_list_end (I.ok.hd hc) st p.isList (by simp; omega) fun h' eb=>⟨rfl,I.turned (t':=s.toks) (fun b o hb e=>eb b o hb e) f0 f1 f3 f4 f5⟩
 self:=fun _ _ _ _ _ st h=>wpAny_pyIter_listiter st h
theorem ZN {P:Program} (a it:Addr):Turn P w K tg (Itt K a) [it] it (fun i h=>h.IsTupleIter it a i) where
 mem:=by simp
 obj:=fun i h st b hb=>by
  have e:b=it:=by simpa using hb
  subst e;obtain⟨o,e,c,d⟩:=st;exact⟨o,e,fun v z=>by rw[d] at z; cases z⟩
 keep:=fun i h h' st k=>st.at fun o e=>k it (by simp) o e
 item:=by
  intro X hP hw hK hc i pins s σ H E I hf st hg;subst hP hw hK;obtain⟨xs,x,hq,hx⟩:=hg;obtain⟨its,rv,p,hz⟩:=I.tuple hq;obtain⟨u,hu,ru⟩:=rv.get hx;obtain⟨f0,f1,f2,f3,f4,f5⟩:=hf it (by simp);refine wpAny_pyNext_tuple_item st (show s.heap.IsTuple a its.toArray from p) (x:=u) (by simpa using hu) fun h' st' sb=>?_;have I1:Inv X pins σ H { s with heap:=h' }:=I.turned (t':=s.toks) (fun b o hb e=>(sb.2 b hb).trans e) f0 f1 f3 f4 f5
  obtain⟨o,e,c,d⟩:=id st';exact⟨u,rfl,jc7 (s:={ s with heap:=h' }) e c d (by decide) ⟨x,H,I1,ru,⟨rfl,fun ys hy=>by rw[I.tuple_inj hy hq]; exact hx⟩,st',fun b hb=>(hf b hb).1⟩⟩
 done:=by
  intro X hP hw hK hc i pins s σ H E I hf st hg;subst hP hw hK;obtain⟨xs,hq,hx⟩:=hg;obtain⟨its,rv,p,hz⟩:=I.tuple hq;obtain⟨f0,f1,f2,f3,f4,f5⟩:=hf it (by simp);have hl:=rv.length;exact wpAny_pyNext_tuple_end (I.ok.hd hc) st (show s.heap.IsTuple a its.toArray from p) (by simp; omega) fun h' eb=>⟨rfl,I.turned (t':=s.toks) (fun b o hb e=>eb b o hb e) f0 f1 f3 f4 f5⟩
 self:=fun _ _ _ _ _ st h=>wpAny_pyIter_tupleiter st h
theorem ZO {P:Program} (it:Addr) (lo:Int) (n:Nat):Turn P w K tg (Itr lo n) [it] it (fun i h=>IsRangeIter h it (lo+(i:Nat) * 1) ((n:Int)-(i:Nat)) 1) where
 mem:=by simp
 obj:=fun i h st b hb=>by
  have e:b=it:=by simpa using hb
  subst e;exact⟨_,st,fun v z=>by
   have z':Data.fields _=Data.cell v:=z;cases z'⟩
 keep:=fun i h h' st k=>k it (by simp) _ st
 item:=by
  intro X hP hw hK hc i pins s σ H E I hf st hg;subst hP hw hK;obtain⟨f0,f1,f2,f3,f4,f5⟩:=hf it (by simp);have W:=Walks.range (prog:=X.prog) (w:=X.w) (I.ok.hd hc) it lo 1 n;refine W.item i s _ _ hg st fun v h' tk hv st' kk=>?_;obtain⟨t,rfl⟩:=hv;have I1:Inv X pins σ H { s with heap:=h',toks:=tk }:=I.turned (fun b o hb e=>kk b o (by simpa using hb) e) f0 f1 f3 f4 f5
  refine⟨_,rfl,jc7 (s:={ s with heap:=h',toks:=tk }) (n:="range_iterator") st' rfl rfl (by decide) ⟨.int (lo+i),H,I1,⟨t,?_⟩,⟨rfl,rfl⟩,st',fun b hb=>(hf b hb).1⟩⟩
  rw[Int.mul_one]
 done:=by
  intro X hP hw hK hc i pins s σ H E I hf st hg;subst hP hw hK;obtain⟨f0,f1,f2,f3,f4,f5⟩:=hf it (by simp);exact wpAny_pyNext_range_end (I.ok.hd hc) st (by have:n<=i:=hg; omega) fun h' eb=>⟨rfl,I.turned (t':=s.toks) (fun b o hb e=>eb b o hb e) f0 f1 f3 f4 f5⟩
 self:=fun _ _ _ _ _ st h=>wpAny_pyIter_rangeiter st h
section
variable {X:Cx} 
def jc8 (K:W.Frag) (tl:TE):TI:=fun σ H R=>tl σ H fun x H1=>∃ a,x=.ref a/\(∃ xs,SqL K H1 a xs)/\R (Itl K a) H1
def jhY (K:W.Frag) (tl:TE):TI:=fun σ H R=>tl σ H fun x H1=>∃ a,x=.ref a/\(∃ xs,SqT K H1 a xs)/\R (Itt K a) H1
theorem kN {l:Expr}{tl:TE} (hl:PE X l tl):PI X tg l (jc8 X.K tl):=by
 intro pins s σ H R I h;refine thn (hl pins s σ H _ I h) fun v s1 ⟨x,H1,I1,r1,q1⟩=>?_;obtain⟨a,e,⟨xs,hq⟩,q⟩:=q1;subst e;cases r1;obtain⟨its,rv,p,hz⟩:=I1.list hq;refine wpAny_pyIter_list p.isList ?_;refine⟨s1.heap.objs.size,[s1.heap.objs.size],_,_,H1,rfl,I1.kept (t':=s1.toks) fun b o e=>Xh _ e,jaU a _,⟨_,XD _ rfl,rfl,rfl⟩,fun b hb=>?_,q⟩;have e:b=s1.heap.objs.size:=by simpa using hb
 subst e;exact I1.fpOk (Xm _) (I1.hok.fresh (Xm _))
theorem jaV {l:Expr}{tl:TE} (hl:PE X l tl):PI X tg l (jhY X.K tl):=by
 intro pins s σ H R I h;refine thn (hl pins s σ H _ I h) fun v s1 ⟨x,H1,I1,r1,q1⟩=>?_;obtain⟨a,e,⟨xs,hq⟩,q⟩:=q1;subst e;cases r1;obtain⟨its,rv,p,hz⟩:=I1.tuple hq;refine wpAny_pyIter_tuple (show s1.heap.IsTuple a its.toArray from p) ?_;refine⟨s1.heap.objs.size,[s1.heap.objs.size],_,_,H1,rfl,I1.kept (t':=s1.toks) fun b o e=>Xh _ e,ZN a _,⟨_,XD _ rfl,rfl,rfl⟩,fun b hb=>?_,q⟩;have e:b=s1.heap.objs.size:=by simpa using hb
 subst e;exact I1.fpOk (Xm _) (I1.hok.fresh (Xm _))
theorem Y3 {σ:St}{H:Hp}{R:It->Hp->Prop}{lo hi:Int}{t u v:Tok}{tk:Nat} (I:Inv X pins σ H s) (h1:-(2 ^ 62)<=lo) (h2:lo<2 ^ 62) (h3:-(2 ^ 62)<=hi) (h4:hi<2 ^ 62)
  (q:R (Itr lo (hi-lo).toNat) H):wpAny (model X.prog X.w) X.A (pyIter (.ref s.heap.objs.size)) (PIE X pins σ tg R) E { s with heap:=s.heap.push { cls:=.type "range",data:=.fields #[.int lo t,.int hi u,.int 1 v] },toks:=tk }:=by
 refine wpAny_pyIter_range (IsRange.new ..) (small_one h1 h2 h3 h4) ?_;have I1:Inv X pins σ H { s with heap:=s.heap.push { cls:=.type "range",data:=.fields #[.int lo t,.int hi u,.int 1 v] },toks:=tk }:=I.kept fun b o e=>Xh _ e
 refine⟨(s.heap.push { cls:=.type "range",data:=.fields #[.int lo t,.int hi u,.int 1 v] }).objs.size,[(s.heap.push { cls:=.type "range",data:=.fields #[.int lo t,.int hi u,.int 1 v] }).objs.size],_,_,H,rfl,
  I1.kept (t':=tk) fun b o e=>Xh _ e,ZO _ lo (hi-lo).toNat,?_,fun b hb=>?_,q⟩
 ·have e1:lo+((0:Nat):Int) * 1=lo:=by simp
  have e2:(((hi-lo).toNat:Nat):Int)-((0:Nat):Int)=Builtin.Range.rangeSize lo hi 1:=by rw[rangeSize_one]; split <;> omega
  show IsRangeIter _ _ (lo+((0:Nat):Int) * 1) ((((hi-lo).toNat:Nat):Int)-((0:Nat):Int)) 1;rw[e1,e2];exact XD _ rfl
 ·have e:b=(s.heap.push { cls:=.type "range",data:=.fields #[.int lo t,.int hi u,.int 1 v] }).objs.size:=by simpa using hb
  subst e;exact I1.fpOk (Xm _) (I1.hok.fresh (Xm _))
def U5 (ta:TA):TI:=fun σ H R=>ta σ H fun vs H1=>∃ j:Int,vs=[.int j]/\-(2 ^ 62)<=j/\j<2 ^ 62/\R (Itr 0 j.toNat) H1
def Yl (ta:TA):TI:=fun σ H R=>ta σ H fun vs H1=>∃ i j:Int,vs=[.int i,.int j]/\(-(2 ^ 62)<=i/\i<2 ^ 62/\-(2 ^ 62)<=j/\j<2 ^ 62)/\R (Itr i (j-i).toNat) H1
theorem kh {a:Expr}{ta:TA}{p:Pos} (hg:Gl X "range") (hm:X.mg "range"=none) (ha:PA X [a] ta) (hs:starEach [a] X.env=[(false,eval a X.env)]:=by rfl):PI X tg (.Call (.Name "range" p) [a] [] pos) (U5 ta):=by
 intro pins s σ H R I h;refine Call_ (QK I hg hm boot_range (PyProof.Rows.callWith_type1 (thn (ha pos pins s σ H _ I h) fun us s1 ⟨vs,H1,I1,r1,q1⟩=>?_) hs rfl));obtain⟨j,e,q1,q2,q⟩:=q1;subst e;cases r1 with
 | cons r rr=>
  cases rr;obtain⟨t,rfl⟩:=r;exact call_range_1 (Y3 I1 (by omega) (by omega) q1 q2 (by simpa using q))
theorem Wt {a b:Expr}{ta:TA}{p:Pos} (hg:Gl X "range") (hm:X.mg "range"=none) (ha:PA X [a,b] ta) (hs:starEach [a,b] X.env=[(false,eval a X.env),(false,eval b X.env)]:=by rfl) (hs2:starEach [b] X.env=[(false,eval b X.env)]:=by rfl) :
  PI X tg (.Call (.Name "range" p) [a,b] [] pos) (Yl ta):=by
 intro pins s σ H R I h;refine Call_ (QK I hg hm boot_range (PyProof.Rows.callWith_type1 (thn (ha pos pins s σ H _ I h) fun us s1 ⟨vs,H1,I1,r1,q1⟩=>?_) (by rw[hs,hs2]) (by rw[hs2]; rfl)));obtain⟨i,j,e,⟨q1,q2,q3,q4⟩,q⟩:=q1;subst e;cases r1 with
 | cons r rr=>
  cases rr with
  | cons r' rr=>
   cases rr;obtain⟨t,rfl⟩:=r;obtain⟨t',rfl⟩:=r';exact call_range_2 (Y3 I1 q1 q2 q3 q4 q)
def jej (wi:TI) (g:TG) (tb:TS):TS:=fun D σ H=>wi σ H fun J H1=>∃ W:Nat->Nat->St->Hp->Prop,(∃ m,W 0 m σ H1)/\∀ i m σ H,W i m σ H ->
 (J.stop i H/\D.nx σ H) \/ (J.go i H/\∃ N:St->Hp->Prop,(∀ σ' H',N σ' H'->∃ m',m'<m/\W (i+1) m' σ' H')/\∀ x H',J.yld i H x H'->g x σ H' fun σ2 H2=>tb { D with nx:=N,ct:=N,bk:=D.nx } σ2 H2)
def Wu (fp:List Addr) (h:Heap):List (Addr×Obj):=fp.filterMap fun b=>(h.get? b).map fun o=>(b,o)
theorem Je {b:Addr} (hb:b∈fp) (e:h.get? b=some o):(b,o)∈Wu fp h:=List.mem_filterMap.mpr ⟨b,hb,by rw[e]; rfl⟩
theorem jaW {p:Addr×Obj} (hp:p∈Wu fp h):p.1∈fp/\h.get? p.1=some p.2:=by
 obtain⟨b,hb,e⟩:=List.mem_filterMap.mp hp;cases q:h.get? b with
 | none=>rw[q] at e; cases e
 | some o=>
  rw[q] at e;have e':(b,o)=p:=Option.some.inj e;subst e';exact⟨hb,q⟩
theorem Inv.pinned {σ:St}{H:Hp} (I:Inv X pins σ H s) (hf:∀ b∈fp,jaT X pins H b) (ho:∀ b∈fp,∃ o,s.heap.get? b=some o/\∀ v,o.data≠.cell v):Inv X (pins++Wu fp s.heap) σ H s:=
 I.pins_of fun p hp=>(List.mem_append.mp hp).elim (fun z=>I.pin p (XS _ z)) fun z=>by
  obtain⟨hb,e⟩:=jaW z;obtain⟨f0,f1,f2,_⟩:=hf p.1 hb;obtain⟨o,e',d⟩:=ho p.1 hb;rw[e] at e'; cases e';exact⟨e,f0,f1,f2,d⟩
theorem Inv.unpinned {pl:List (Addr×Obj)}{σ:St}{H:Hp} (I:Inv X (pins++pl) σ H s):Inv X pins σ H s:=I.pins_of fun p hp=>I.pin p (XS _ (List.mem_append_left _ hp))
theorem kP {wi:TI}{g:TG}{tb:TS} (hp:PassesOwn (model X.prog X.w) X.A X.env X.xe) (hc:X.calm=true) (hi:PI X tg iter wi) (hg:PG X tg g) (hb:PSs X body tb)
  (hs:∀ x,foldedSetIterable iter X.env x=pure x:=by intro _; rfl):PS X (.For tg iter body [] pos) (jej wi g tb):=by
 intro pins s σ H D I h;refine wpAny_For (thn (hi pins s σ H _ I h) fun v s1 h1=>thn h1 fun itv s2 h2=>?_) hs;obtain⟨it,fp,tn,J,H2,e,I2,T,st2,f2,W,⟨m0,w0⟩,turn⟩:=h2;subst e;have stat:∀ {H':Hp},(∀ b∈fp,H' b=none)->∀ b∈fp,jaT X pins H' b:=fun hn b hb=>⟨hn b hb,(f2 b hb).2⟩;refine codeAny_forLoop_any (fun n s'=>∃ i σ' H',Inv X pins σ' H' s'/\tn i s'.heap/\(∀ b∈fp,H' b=none)/\W i n σ' H') ?_ m0 ⟨0,σ,H2,I2,st2,fun b hb=>(f2 b hb).1,w0⟩;rintro n s3 ⟨i,σ3,H3,I3,st3,fr3,w3⟩;rcases turn i n σ3 H3 w3 with⟨stop,qn⟩ | ⟨go,N,hN,step⟩
 ·refine wpAny_passesOwn hp (thn (T.done X rfl rfl rfl hc i pins s3 σ3 H3 X.xe I3 (stat fr3) st3 stop) fun r s4 ⟨hr,I4⟩=>?_);subst hr;exact wpAny_execs_nil ⟨σ3,H3,I4,qn⟩
 ·refine wpAny_passesOwn hp (thn (T.item X rfl rfl rfl hc i pins s3 σ3 H3 X.xe I3 (stat fr3) st3 go) fun r s4 ⟨u,hr,h4⟩=>?_);subst hr;refine wpAny_passesOwn hp (thn h4 fun _ s5 ⟨x,H5,I5,r5,y5,st5,fr5⟩=>?_);have I5':=I5.pinned (stat fr5) (T.obj _ _ st5);refine wpAny_passesOwn hp (thn (hg _ s5 σ3 H5 x u _ I5' r5 (step x H5 y5)) fun _ s6 ⟨σ6,H6,I6,q6⟩=>?_);refine wpAny_passesOwn hp (thn (hb _ s6 σ6 H6 _ I6 q6) fun f s7 q7=>?_);have again:∀ {σ7:St}{H7:Hp},Inv X (pins++Wu fp s5.heap) σ7 H7 s7->N σ7 H7->∃ m,m<n/\∃ i σ' H',Inv X pins σ' H' s7/\tn i s7.heap/\(∀ b∈fp,H' b=none)/\W i m σ' H':=fun {σ7 H7} I7 n7=>by
   obtain⟨m',hm,w7⟩:=hN σ7 H7 n7;refine⟨m',hm,i+1,σ7,H7,I7.unpinned,T.keep _ _ _ st5 fun b hb o e=>(I7.pin (b,o) (XS _ (XS _ (Je hb e)))).1,fun b hb=>?_,w7⟩;obtain⟨o,e,d⟩:=T.obj _ _ st5 b hb;exact(I7.pin (b,o) (XS _ (XS _ (Je hb e)))).2.1
  cases f with
  | next=>obtain⟨σ7,H7,I7,n7⟩:=q7; exact again I7 n7
  | cont=>obtain⟨σ7,H7,I7,n7⟩:=q7; exact again I7 n7
  | brk=>obtain⟨σ7,H7,I7,q7⟩:=q7; exact ⟨σ7,H7,I7.unpinned,q7⟩
  | ret v=>obtain⟨x7,σ7,H7,I7,r7,q7⟩:=q7; exact ⟨x7,σ7,H7,I7.unpinned,r7,q7⟩
end
abbrev R2:=V->V->Hp->VK->Prop
def OpR (X:Cx) (f:Value->Value->Sem Value) (r:R2):Prop:=
 ∀ (pins:List (Addr×Obj)) (s:Shared) (σ:St) (H:Hp) (x y:V) (v u:Value) (Q:VK),Inv X pins σ H s->RelV x v->RelV y u->r x y H Q ->
  wpAny (model X.prog X.w) X.A (f v u) (EP X pins σ Q) X.xe s
def UnR (X:Cx) (f:Value->Sem Value) (r:V->Hp->VK->Prop):Prop:=
 ∀ (pins:List (Addr×Obj)) (s:Shared) (σ:St) (H:Hp) (x:V) (v:Value) (Q:VK),Inv X pins σ H s->RelV x v->r x H Q ->
  wpAny (model X.prog X.w) X.A (f v) (EP X pins σ Q) X.xe s
def Jq (X:Cx) (f:Value) (r:List V->Hp->VK->Prop):Prop:=
 ∀ (pins:List (Addr×Obj)) (s:Shared) (σ:St) (H:Hp) (xs:List V) (us:List Value) (Q:VK),Inv X pins σ H s->Vals xs us->r xs H Q ->
  wpAny (model X.prog X.w) X.A (call f us) (EP X pins σ Q) X.xe s
def tOp (r:R2) (ta tb:TE):TE:=fun σ H Q=>ta σ H fun x H1=>tb σ H1 fun y H2=>r x y H2 Q
def tUn (r:V->Hp->VK->Prop) (ta:TE):TE:=fun σ H Q=>ta σ H fun x H1=>r x H1 Q
def rI (C:Int->Int->Prop) (g:Int->Int->V):R2:=fun x y H Q=>∃ i j,x=.int i/\y=.int j/\C i j/\Q (g i j) H
def rI0 (g:Int->Int->V):R2:=fun x y H Q=>∃ i j,x=.int i/\y=.int j/\Q (g i j) H
def rU (g:Int->V):V->Hp->VK->Prop:=fun x H Q=>∃ i,x=.int i/\Q (g i) H
section
variable {X:Cx}{a b c:Expr}{ta tb tc:TE} 
theorem jhZ (ha:PE X a ta) (hb:PE X b tb) {σ:St}{H:Hp}{R:V->V->Hp->Prop} (I:Inv X pins σ H s)
  (h:ta σ H fun x H1=>tb σ H1 fun y H2=>R x y H2) {f:Value->Value->Sem Value}
  (hf:∀ v u s2 x y H2,Inv X pins σ H2 s2->RelV x v->RelV y u->R x y H2->wpAny (model X.prog X.w) X.A (f v u) Q X.xe s2) :
  wpAny (model X.prog X.w) X.A (eval a X.env) (fun v s₁=>wpAny (model X.prog X.w) X.A (eval b X.env) (fun u s₂=>wpAny (model X.prog X.w) X.A (f v u) Q X.xe s₂) X.xe s₁) X.xe s:=by
 refine thn (ha pins s σ H _ I h) fun v s1 ⟨x,H1,I1,r1,q1⟩=>?_;refine thn (hb pins s1 σ H1 _ I1 q1) fun u s2 ⟨y,H2,I2,r2,q2⟩=>?_;exact hf v u s2 x y H2 I2 r1 r2 q2
theorem ke {op:Operator}{r:R2} (ho:OpR X (binaryOp op) r) (ha:PE X a ta) (hb:PE X b tb):PE X (.BinOp a op b pos) (tOp r ta tb):=by
 intro pins s σ H Q I h;exact wpAny_BinOp (jhZ ha hb I h fun v u s2 x y H2 I2 rx ry q=>ho pins s2 σ H2 x y v u Q I2 rx ry q)
theorem je5 {op:UnaryOp}{r:V->Hp->VK->Prop} (ho:UnR X (unaryOp op) r) (ha:PE X a ta):PE X (.UnaryOp op a pos) (tUn r ta):=by
 intro pins s σ H Q I h;exact UnaryOp_ (thn (ha pins s σ H _ I h) fun v s1 ⟨x,H1,I1,r1,q1⟩=>ho pins s1 σ H1 x v Q I1 r1 q1)
theorem opI {f:Value->Value->Sem Value}{C:Int->Int->Prop}{g:Int->Int->Int}
  (rule:∀ (i j:Int) (t u:Tok) (s:Shared) (Q:Value->Shared->Prop) (E:Value->Shared->Prop),C i j->Q (.int (g i j) s.toks) { s with toks:=s.toks+1 }->wpAny (model X.prog X.w) X.A (f (.int i t) (.int j u)) Q E s) :
  OpR X f (rI C fun i j=>.int (g i j)):=by
 intro pins s σ H x y v u Q I rx ry h;obtain⟨i,j,rfl,rfl,hc,q⟩:=h;obtain⟨t,rfl⟩:=rx;obtain⟨t',rfl⟩:=ry;exact rule i j t t' s _ _ hc ⟨.int (g i j),H,I.tok _,⟨_,rfl⟩,q⟩
theorem jhQ {f:Value->Value->Sem Value}{g:Int->Int->Int}
  (rule:∀ (i j:Int) (t u:Tok) (s:Shared) (Q:Value->Shared->Prop) (E:Value->Shared->Prop),Q (.int (g i j) s.toks) { s with toks:=s.toks+1 }->wpAny (model X.prog X.w) X.A (f (.int i t) (.int j u)) Q E s) :
  OpR X f (rI0 fun i j=>.int (g i j)):=by
 intro pins s σ H x y v u Q I rx ry h;obtain⟨i,j,rfl,rfl,q⟩:=h;obtain⟨t,rfl⟩:=rx;obtain⟨t',rfl⟩:=ry;exact rule i j t t' s _ _ ⟨.int (g i j),H,I.tok _,⟨_,rfl⟩,q⟩
theorem jh0 {f:Value->Value->Sem Value} 
  (rule:∀ (i j:Int) (t u:Tok) (s:Shared) (Q:Value->Shared->Prop) (E:Value->Shared->Prop),Q (.bool (g i j)) s->wpAny (model X.prog X.w) X.A (f (.int i t) (.int j u)) Q E s) :
  OpR X f (rI0 fun i j=>.bl (g i j)):=by
 intro pins s σ H x y v u Q I rx ry h;obtain⟨i,j,rfl,rfl,q⟩:=h;obtain⟨t,rfl⟩:=rx;obtain⟨t',rfl⟩:=ry;exact rule i j t t' s _ _ ⟨.bl (g i j),H,I,rfl,q⟩
def jgi (i j:Int):Prop:=0<=j/\j<=1000000/\i.natAbs<2 ^ 64
def CMul (i j:Int):Prop:=(-(2 ^ 64)<i/\i<2 ^ 64) \/ (-(2 ^ 64)<j/\j<2 ^ 64)
theorem CMul.ok {i:Int} (h:CMul i j):IntMulOk i j:=by
 rcases h with⟨h1,h2⟩ | ⟨h1,h2⟩
 ·exact .of_left (intBits_le_64 h1 h2)
 ·exact .of_right (intBits_le_64 h1 h2)
theorem ZP (k:Nat):(0:Int)<=2 ^ k:=by
 rw[two_pow_cast];exact Int.natCast_nonneg _
theorem xD:OpR X (binaryOp .Add) (rI0 fun i j=>.int (i+j)):=jhQ fun _ _ _ _ _ _ _ q=>add_int q
theorem Gw:OpR X (binaryOp .Sub) (rI0 fun i j=>.int (i-j)):=jhQ fun _ _ _ _ _ _ _ q=>sub_int q
theorem Wv:OpR X (binaryOp .Mult) (rI CMul fun i j=>.int (i * j)):=opI fun _ _ _ _ _ _ _ hc q=>mul_int q hc.ok
theorem xX:OpR X (binaryOp .Mod) (rI (fun _ j=>0<j) fun i j=>.int (i % j)):=opI fun i j _ _ _ _ _ hc q=>by
 have h1:(0:Int)<j:=hc;exact mod_int' (by omega) (by rw[Int.fmod_eq_emod_of_nonneg i (by omega)]; exact q)
theorem jgy:OpR X (binaryOp .Pow) (rI jgi fun i j=>.int (i ^ j.toNat)):=opI fun _ _ _ _ _ _ _ hc q=>pow_int_small hc.1 hc.2.1 hc.2.2 q
theorem jaX:OpR X (binaryOp .LShift) (rI jgi fun i j=>.int (i * 2 ^ j.toNat)):=opI fun _ _ _ _ _ _ _ hc q=>lshift_int_small hc.1 hc.2.1 hc.2.2 q
theorem jek:OpR X (binaryOp .RShift) (rI (fun _ j=>0<=j) fun i j=>.int (i / 2 ^ j.toNat)):=opI fun i j _ _ _ _ _ hc q=>
 rshift_int hc (by rw[Int.fdiv_eq_ediv_of_nonneg i (ZP _)]; exact q)
theorem jel:OpR X (binaryOp .BitAnd) (rI0 fun i j=>.int (Builtin.bitAnd i j)):=jhQ fun _ _ _ _ _ _ _ q=>and_int q
theorem jaY:OpR X (binaryOp .BitOr) (rI0 fun i j=>.int (Builtin.bitOr i j)):=jhQ fun _ _ _ _ _ _ _ q=>or_int q
theorem unI {f:Value->Sem Value}{g:Int->Int}
  (rule:∀ (i:Int) (t:Tok) (s:Shared) (Q:Value->Shared->Prop) (E:Value->Shared->Prop),Q (.int (g i) s.toks) { s with toks:=s.toks+1 }->wpAny (model X.prog X.w) X.A (f (.int i t)) Q E s) :
  UnR X f (rU fun i=>.int (g i)):=by
 intro pins s σ H x v Q I rx h;obtain⟨i,rfl,q⟩:=h;obtain⟨t,rfl⟩:=rx;exact rule i t s _ _ ⟨.int (g i),H,I.tok _,⟨_,rfl⟩,q⟩
theorem jaZ:UnR X (unaryOp .USub) (rU fun i=>.int (-i)):=unI fun _ _ _ _ _ q=>neg_int q
end
def jiC:V->V->Bool
 | .non,.non=>true | .non,.int _=>true | .int _,.non=>true | .non,.bl _=>true | .bl _,.non=>true | .non,.str _=>true | .str _,.non=>true
 | .int _,.int _=>true | .bl _,.bl _=>true | .str _,.str _=>true | .byt _,.byt _=>true
 | .int _,.str _=>true | .str _,.int _=>true | .bl _,.str _=>true | .str _,.bl _=>true
 | _,_=>false
def rEq:R2:=fun x y H Q=>jiC x y=true/\Q (.bl (decide (x=y))) H
def rNe:R2:=fun x y H Q=>jiC x y=true/\Q (.bl (!decide (x=y))) H
theorem U6 {i:Int}:decide (V.int i=V.int j)=(i==j):=by
 rw[XN];simp
theorem jem {i j:Bool}:decide (V.bl i=V.bl j)=(i==j):=by
 rw[XN];simp
theorem ja0 {i j:Str}:decide (V.str i=V.str j)=(i==j):=by
 rw[XN];simp
theorem ja1 {i j:Array UInt8}:decide (V.byt i=V.byt j)=(i.toList==j.toList):=by
 rw[XN];cases i;cases j;simp
section
variable {X:Cx}{a b c:Expr}{ta tb tc:TE} 
theorem qz {σ:St}{H:Hp}{Q:VK}{k k':Bool} (I:Inv X pins σ H s) (q:Q (.bl k) H) (e:k=k'):EP X pins σ Q (.bool k') s:=by
 subst e;exact⟨.bl k,H,I,rfl,q⟩
theorem yW:OpR X (compareOp .Eq) rEq:=by
 intro pins s σ H x y v u Q I rx ry h;obtain⟨hs,q⟩:=h;cases x with
 | non=>
  cases rx;cases y with
  | non=>cases ry; exact PySem.EqNone.eq_none_none (qz I q (by simp))
  | bl j=>cases ry; exact PySem.EqNone.eq_none_bool (qz I q (by simp))
  | int j=>obtain⟨t',rfl⟩:=ry; exact PySem.EqNone.eq_none_int (qz I q (by simp))
  | str j=>obtain⟨t',rfl⟩:=ry; exact PySem.EqNone.eq_none_str (qz I q (by simp))
  | _=>exact absurd (show false=true from hs) Xw
 | bl i=>
  cases rx;cases y with
  | non=>cases ry; exact PySem.EqNone.eq_bool_none (qz I q (by simp))
  | bl j=>cases ry; exact eq_bool (qz I q jem)
  | str j=>obtain⟨t',rfl⟩:=ry; exact PySem.EqMixed.eq_bool_str (qz I q (by simp))
  | _=>exact absurd (show false=true from hs) Xw
 | int i=>
  obtain⟨t,rfl⟩:=rx;cases y with
  | non=>cases ry; exact PySem.EqNone.eq_int_none (qz I q (by simp))
  | int j=>obtain⟨t',rfl⟩:=ry; exact eq_int (qz I q U6)
  | str j=>obtain⟨t',rfl⟩:=ry; exact PySem.EqMixed.eq_int_str (qz I q (by simp))
  | _=>exact absurd (show false=true from hs) Xw
 | str i=>
  obtain⟨t,rfl⟩:=rx;cases y with
  | non=>cases ry; exact PySem.EqNone.eq_str_none (qz I q (by simp))
  | bl j=>cases ry; exact PySem.EqMixed.eq_str_bool (qz I q (by simp))
  | int j=>obtain⟨t',rfl⟩:=ry; exact PySem.EqMixed.eq_str_int (qz I q (by simp))
  | str j=>obtain⟨t',rfl⟩:=ry; exact eq_str (qz I q ja0)
  | _=>exact absurd (show false=true from hs) Xw
 | byt i=>
  obtain⟨t,rfl⟩:=rx;cases y with
  | byt j=>obtain⟨t',rfl⟩:=ry; exact W.eq_bytes (qz I q ja1)
  | _=>exact absurd (show false=true from hs) Xw
 | _=>cases y <;> exact absurd (show false=true from hs) Xw
theorem jgz:OpR X (compareOp .NotEq) rNe:=by
 intro pins s σ H x y v u Q I rx ry h;obtain⟨hs,q⟩:=h;cases x with
 | non=>
  cases rx;cases y with
  | non=>cases ry; exact PySem.EqNone.ne_none_none (qz I q (by simp))
  | bl j=>cases ry; exact PySem.EqNone.ne_none_bool (qz I q (by simp))
  | int j=>obtain⟨t',rfl⟩:=ry; exact PySem.EqNone.ne_none_int (qz I q (by simp))
  | str j=>obtain⟨t',rfl⟩:=ry; exact PySem.EqNone.ne_none_str (qz I q (by simp))
  | _=>exact absurd (show false=true from hs) Xw
 | bl i=>
  cases rx;cases y with
  | non=>cases ry; exact PySem.EqNone.ne_bool_none (qz I q (by simp))
  | bl j=>cases ry; exact ne_bool (qz I q (congrArg not jem))
  | str j=>obtain⟨t',rfl⟩:=ry; exact PySem.EqMixed.ne_bool_str (qz I q (by simp))
  | _=>exact absurd (show false=true from hs) Xw
 | int i=>
  obtain⟨t,rfl⟩:=rx;cases y with
  | non=>cases ry; exact PySem.EqNone.ne_int_none (qz I q (by simp))
  | int j=>obtain⟨t',rfl⟩:=ry; exact ne_int (qz I q (congrArg not U6))
  | str j=>obtain⟨t',rfl⟩:=ry; exact PySem.EqMixed.ne_int_str (qz I q (by simp))
  | _=>exact absurd (show false=true from hs) Xw
 | str i=>
  obtain⟨t,rfl⟩:=rx;cases y with
  | non=>cases ry; exact PySem.EqNone.ne_str_none (qz I q (by simp))
  | bl j=>cases ry; exact PySem.EqMixed.ne_str_bool (qz I q (by simp))
  | int j=>obtain⟨t',rfl⟩:=ry; exact PySem.EqMixed.ne_str_int (qz I q (by simp))
  | str j=>obtain⟨t',rfl⟩:=ry; exact ne_str (qz I q (congrArg not ja0))
  | _=>exact absurd (show false=true from hs) Xw
 | byt i=>
  obtain⟨t,rfl⟩:=rx;cases y with
  | byt j=>obtain⟨t',rfl⟩:=ry; exact W.ne_bytes (qz I q (congrArg not ja1))
  | _=>exact absurd (show false=true from hs) Xw
 | _=>cases y <;> exact absurd (show false=true from hs) Xw
theorem ZQ:OpR X (compareOp .Lt) (rI0 fun i j=>.bl (decide (i<j))):=jh0 fun _ _ _ _ _ _ _ q=>lt_int q
theorem jc9:OpR X (compareOp .LtE) (rI0 fun i j=>.bl (decide (i<=j))):=jh0 fun _ _ _ _ _ _ _ q=>le_int q
theorem ja2:OpR X (compareOp .Gt) (rI0 fun i j=>.bl (decide (j<i))):=jh0 fun _ _ _ _ _ _ _ q=>gt_int q
theorem kD (b:Expr) {op:CmpOp} (h:op≠.In:=by decide) (h2:op≠.NotIn:=by decide):behindInMarks op b=false:=by
 have e1:(op==CmpOp.In)=false:=by cases op <;> first | rfl | exact absurd rfl h
 have e2:(op==CmpOp.NotIn)=false:=by cases op <;> first | rfl | exact absurd rfl h2
 cases b <;> simp[behindInMarks,e1,e2]
theorem zc {op:CmpOp}{r:R2} (ho:OpR X (compareOp op) r) (ha:PE X a ta) (hb:PE X b tb) (hm:behindInMarks op b=false):PE X (.Compare a [op] [b] pos) (tOp r ta tb):=by
 intro pins s σ H Q I h;exact wpAny_Compare1 (jhZ ha hb I h fun v u s2 x y H2 I2 rx ry q=>ho pins s2 σ H2 x y v u Q I2 rx ry q) hm
def jc_ (t:TE):TT:=fun σ H Q=>t σ H fun x H'=>∃ k,x=.bl k/\Q k H'
theorem kq {op:CmpOp}{r:R2} (ho:OpR X (compareOp op) r) (ha:PE X a ta) (hb:PE X b tb) (hm:behindInMarks op b=false):PT X (.Compare a [op] [b] pos) (jc_ (tOp r ta tb)):=by
 intro pins s σ H Q I h;refine wpAny_isTrue_Compare1 (thn (ha pins s σ H _ I h) fun v s1 ⟨x,H1,I1,r1,q1⟩=>thn (hb pins s1 σ H1 _ I1 q1) fun u s2 ⟨y,H2,I2,r2,q2⟩=>
  thn (ho pins s2 σ H2 x y v u _ I2 r1 r2 q2) fun c s3 ⟨z,H3,I3,r3,k,e,q3⟩=>?_) hm
 subst e;cases r3;exact XX ⟨H3,I3,q3⟩
def Y4 (r r':R2) (ta tb tc:TE):TE:=fun σ H Q=>ta σ H fun x H1=>tb σ H1 fun y H2=>r x y H2 fun z H3=>∃ k,z=.bl k /\
 (if k=true then tc σ H3 fun w' H4=>r' y w' H4 Q else Q (.bl false) H3)
theorem Y5 {op op':CmpOp}{r r':R2} (ho:OpR X (compareOp op) r) (ho':OpR X (compareOp op') r') (ha:PE X a ta) (hb:PE X b tb) (hc:PE X c tc)
  (hm:lastMarks [op,op'] [b,c]=false:=by with_unfolding_all rfl):PT X (.Compare a [op,op'] [b,c] pos) (jc_ (Y4 r r' ta tb tc)):=by
 intro pins s σ H Q I h;refine isTrue_chain (thn (ha pins s σ H _ I h) fun v s1 ⟨x,H1,I1,r1,q1⟩=>test_link (thn (hb pins s1 σ H1 _ I1 q1) fun u s2 ⟨y,H2,I2,r2,q2⟩=>
  thn (ho pins s2 σ H2 x y v u _ I2 r1 r2 q2) fun d s3 ⟨z,H3,I3,r3,k,e,q3⟩=>?_)) hm
 subst e;cases r3;refine XX ?_;cases k with
 | false=>
  obtain⟨k',e',q'⟩:=q3;cases e';exact ite_ff ⟨H3,I3,q'⟩
 | true=>
  refine ite_tt (test_last (thn (hc pins s3 σ H3 _ I3 q3) fun w' s4 ⟨z',H4,I4,r4,q4⟩=>thn (ho' pins s4 σ H4 y z' u w' _ I4 r2 r4 q4) fun d' s5 ⟨z2,H5,I5,r5,k2,e2,q5⟩=>?_));subst e2;cases r5;exact XX ⟨H5,I5,q5⟩
theorem Y6:(sizeLine:Nat)<2 ^ 63:=by rw[XY]; decide
theorem Ux {x:V} (r:Vals [x] us):∃ u,us=[u]/\RelV x u:=by
 cases r with
 | cons r1 r2=>cases r2; exact ⟨_,rfl,r1⟩
theorem ja3:Jq X (.type "int") (fun xs H Q=>(∃ i,xs=[.int i]/\Q (.int i) H) \/ ∃ k,xs=[.bl k]/\Q (.int (if k then 1 else 0)) H):=by
 intro pins s σ H xs us Q I r h;rcases h with⟨i,rfl,q⟩ | ⟨k,rfl,q⟩
 ·obtain⟨u,rfl,t,rfl⟩:=Ux r;exact call_int_int ⟨.int i,H,I,⟨_,rfl⟩,q⟩
 ·obtain⟨u,rfl,r1⟩:=Ux r;cases r1;exact call_int_bool ⟨.int (if k then 1 else 0),H,I.tok _,⟨_,rfl⟩,q⟩
end
structure ObjM (h:Heap) (x dx C:Addr) (mA:Str->Option Value):Prop where
 obj:h.get? x=some (W.instObj C dx)
 ns:h.Ns1 dx mA
 ne:dx≠x
theorem ja4 (n:h.Ns1 dx mA):∃ od,h.get? dx=some od/\∀ name,W.lookIn name od=some (mA name):=by
 obtain⟨o,es,ep,ho,hd,hk,_,hm⟩:=n;refine⟨o,ho,fun name=>?_⟩;have e:=hm name;unfold nsFind findBy at e;rw[<- Array.find?_toList] at e;unfold W.lookIn;rw[hd];dsimp only;split
 ·rename_i y q
  rw[q] at e;exact congrArg some e
 ·rename_i q
  rw[q] at e;have a:es.toList.any (·.refKey)=false:=by
   rw[List.any_eq_false];intro y hy;obtain⟨z,t,hkey⟩:=hk y (Array.mem_toList_iff.mp hy);simp[DictEntry.refKey,hkey]
  have a':¬ es.toList.any (·.refKey)=true:=by rw[a]; exact Xw
  rw[if_neg a'];exact congrArg some e
theorem ObjM.look {x:Addr} (I:ObjM h x dx C mA):∃ od,W.InstAt h x (W.instObj C dx) C (some od)/\∀ name,W.lookIn name od=some (mA name):=
 let ⟨od,ho,hl⟩:=ja4 I.ns
 ⟨od,⟨I.obj,rfl,rfl,ho⟩,hl⟩
section
variable {x f:Addr}{v:Value}
theorem je6 {expr:Bool} (X:K.In s.heap) (I:ObjM s.heap x dx C mA) (hg:W.plainGet K C name=true) (hh:W.hasDictIn K C=true)
  (ha:W.findIn K (.ref C) name=some none) (hv:mA name=some v) (hv':W.handedIn v=true) (h:Q v { s with toks:=s.toks+1 }) :
  wpAny (model prog w) A (getAttr (.ref x) name expr) Q E s:=by
 obtain⟨od,J,hl⟩:=I.look;exact W.get_value X J (W.plainGet_of hg).1 (W.findObj_own hh ha rfl (by rw[hl,hv])) hv' h
theorem jda {Q:Value×List Value->Shared->Prop} (X:K.In s.heap) (I:ObjM s.heap x dx C mA) (hg:W.plainGet K C name=true)
  (hf:W.findIn K (.ref C) name=some (some (.ref f))) (ht:W.isFn K (.ref f)=true) (hv:mA name=none) (h:Q (.ref f,[.ref x]) s) :
  wpAny (model prog w) A (getMethod (.ref x) name pl) Q E s:=by
 obtain⟨od,J,hl⟩:=I.look;exact W.method_fn X J (W.plainGet_of hg).1 (W.plainGet_of hg).2 hf (beq_iff_eq.mp ht) (by show (W.lookIn name od).map (·.isSome)=some false; rw[hl,hv]; rfl) h
theorem je7 {ns:List Str}{Q:Unit->Shared->Prop} (X:K.In s.heap) (I:ObjM s.heap x dx C mA)
  (hs:W.findIn K (.ref C) "__setattr__"=some (some (.builtin "object.__setattr__"))) (hp:W.plainOver K C=true) (ht:W.takerIn K C name=some none) (hh:W.hasDictIn K C=true)
  (hw:PySem.Within mA ns) (hsz:ns.length<=sizeLine)
  (h:∀ h',ObjM h' x dx C (fun y=>if y=name then some v else mA y)->Heap.SameBut dx s.heap h'->Q () { s with heap:=h',toks:=s.toks+2 }) :
  wpAny (model prog w) A (setAttr (.ref x) name v) Q E s:=by
 obtain⟨od,J,hl⟩:=I.look;refine W.set_plain X J hs (W.osa_open (s:={ s with toks:=s.toks+1 }) (r:=none) X J hp ht fun b=>?_)
 obtain⟨cd,hc,hd'⟩:=W.any_some hh;have hx:s.heap.get? x=some ⟨.ref C,some dx,.plain,#[]⟩:=I.obj;refine Xb (Xd (Xb (Xb (wpAny_loadPart hx (Xb (W.Looks.here (s:={ s with toks:=s.toks+1 }) (W.looks_clsIn X hc) ?_))))))
 rw[hd'];refine Xd (a:=some dx) (Xb (Xd (Xb ?_)));refine wpAny_nsSet1 (s:={ s with toks:=s.toks+1 }) I.ns fun h' hn2 hs2=>?_
 obtain⟨oD,esD,epD,hoD,hdD,hcD⟩:=hn2.count (PySem.Within.cons name v hw);refine Xb (wpAny_lookBehind hoD (by rw[hdD]; exact pastItsLine_dict (we hcD (by rw[Xv]; omega))) ?_);exact Xd (h _ ⟨(hs2.2 _ (Ne.symm I.ne)).trans I.obj,hn2,I.ne⟩ hs2)
theorem jdb {R:Result->Shared->Prop} (X:K.In s.heap) (hm:W.makesIn K C=true)
  (hi:W.findIn K (.ref C) "__init__"=some (some (.ref f))) (hf:W.typeIn K (.ref f)=some (.type "function"))
  (h:codeAny (model prog w) (A.under (.builtin "type.__call__" ⟨.ref C::vs,kw⟩)) (.call (.ref f) ⟨.ref (s.heap.objs.size+1)::vs,kw⟩) (W.InitBack (s.heap.objs.size+1) R)
   { s with heap:=(s.heap.push W.emptyDict).push (W.instObj C s.heap.objs.size) }) :
  codeAny (model prog w) A (.call (.ref C) ⟨vs,kw⟩) R s:=by
 obtain⟨hh,g,d,t,os⟩:=s;exact W.make_core (W.makes_of X hm) (W.looks_findIn X hi) (fun self=>W.bind_fn X self hf) (.inl rfl) h
end
def Qq (f:Str) (v:V):List (Str×V)->List (Str×V)
 | []=>[(f,v)]
 | (g,x)::r=>if g=f then (g,v)::r else (g,x)::Qq f v r
theorem jY (f g:Str) (v:V):∀ fs:List (Str×V),(Qq f v fs).lookup g=if g=f then some v else fs.lookup g
 | []=>by
  show List.lookup g [(f,v)]=_;by_cases h:g=f
  ·have hb:(g==f)=true:=beq_iff_eq.mpr h;simp only[List.lookup,hb,if_pos h]
  ·have hb:(g==f)=false:=beq_eq_false_iff_ne.mpr h;simp only[List.lookup,hb,if_neg h]
 | (k,x)::r=>by
  have ih:=jY f g v r;rw[show Qq f v ((k,x)::r)=(if k=f then (k,v)::r else (k,x)::Qq f v r) from rfl];by_cases hk:k=f
  ·rw[if_pos hk];by_cases h:g=k
   ·have hb:(g==k)=true:=beq_iff_eq.mpr h;simp only[List.lookup,hb,if_pos (h.trans hk)]
   ·have hb:(g==k)=false:=beq_eq_false_iff_ne.mpr h;simp only[List.lookup,hb,if_neg (fun e:g=f=>h (e.trans hk.symm))]
  ·rw[if_neg hk];by_cases h:g=k
   ·have hb:(g==k)=true:=beq_iff_eq.mpr h;simp only[List.lookup,hb,if_neg (fun e:g=f=>hk (h.symm.trans e))]
   ·have hb:(g==k)=false:=beq_eq_false_iff_ne.mpr h;simp only[List.lookup,hb];exact ih
theorem QN (f:Str) (v:V):∀ fs:List (Str×V),f∈(Qq f v fs).map (·.1)/\∀ g,g∈fs.map (·.1)->g∈(Qq f v fs).map (·.1)
 | []=>⟨by simp[Qq],fun g h=>by simp at h⟩
 | (k,x)::r=>by
  obtain⟨i1,i2⟩:=QN f v r;rw[show Qq f v ((k,x)::r)=(if k=f then (k,v)::r else (k,x)::Qq f v r) from rfl];by_cases hk:k=f
  ·rw[if_pos hk];subst hk;exact⟨by simp,fun g h=>by simpa using h⟩
  ·rw[if_neg hk];refine⟨?_,fun g h=>?_⟩
   ·rw[XR];exact Xe _ i1
   ·rw[XR] at h ⊢;rcases List.mem_cons.mp h with e | e
    ·exact List.mem_cons.mpr (.inl e)
    ·exact Xe _ (i2 g e)
theorem Jr (f:Str) (v:V):∀ fs:List (Str×V),(Qq f v fs).length<=fs.length+1
 | []=>by simp[Qq]
 | (k,x)::r=>by
  have ih:=Jr f v r;rw[show Qq f v ((k,x)::r)=(if k=f then (k,v)::r else (k,x)::Qq f v r) from rfl];by_cases hk:k=f
  ·rw[if_pos hk,Xv,Xv]; omega
  ·rw[if_neg hk,Xv,Xv]; omega
theorem RelO.some_of {v:V}{o:Option Value} (r:RelO (some v) o):∃ u,o=some u/\RelV v u:=by
 cases o with
 | none=>exact (show False from r).elim
 | some u=>exact ⟨u,rfl,r⟩
theorem RelO.none_of {o:Option Value} (r:RelO none o):o=none:=by
 cases o with
 | none=>rfl
 | some u=>exact (show False from r).elim
theorem ja5 {v:V} (r:RelV v u):W.handedIn u=true:=by
 cases v with
 | non=>cases (show u=Value.none from r); rfl
 | bl b=>cases (show u=Value.bool b from r); rfl
 | int i=>obtain⟨t,e⟩:=(show ∃ t,u=Value.int i t from r); cases e; rfl
 | str x=>obtain⟨t,e⟩:=(show ∃ t,u=Value.str x t from r); cases e; rfl
 | byt b=>obtain⟨t,e⟩:=(show ∃ t,u=Value.bytes b t from r); cases e; rfl
 | flt b=>obtain⟨t,e⟩:=(show ∃ t,u=Value.float b t from r); cases e; rfl
 | ref a=>cases (show u=Value.ref a from r); rfl
 | ty n=>cases (show u=Value.type n from r); rfl
section
variable {P:Program}{H H':Hp}{fs fs':List (Str×V)}
theorem U7 (hok:HOk P w H h) (e:H a=some (.ins C dx fs)):∃ mA,ObjM h a dx C mA/\(∀ f,RelO (fs.lookup f) (mA f))/\PySem.Within mA (fs.map (·.1))/\fs.length<=1000/\H dx=some (.own a):=by
 obtain⟨d,z,ne,ob,mA,n,r,q⟩:=(show ObjOk P w H h a (.ins C dx fs) from hok a _ e);exact⟨mA,⟨ob,n,ne⟩,r,q,z,d⟩
end
structure Cls (K:W.Frag) (C:Addr):Prop where
 pg:W.plainGet K C Str.empty=true
 hd:W.hasDictIn K C=true
 po:W.plainOver K C=true
 sa:W.findIn K (.ref C) "__setattr__"=some (some (.builtin "object.__setattr__"))
theorem Cls.get (c:Cls K C) (f:Str):W.plainGet K C f=true:=c.pg
def NoAttr (K:W.Frag) (C:Addr) (f:Str):Prop:=W.findIn K (.ref C) f=some none
theorem NoAttr.taker {f:Str} (n:NoAttr K C f):W.takerIn K C f=some none:=by
 unfold W.takerIn;rw[show W.findIn K (.ref C) f=some none from n];rfl
structure Meth (K:W.Frag) (C:Addr) (m:Str) (f:Addr):Prop where
 at_:W.findIn K (.ref C) m=some (some (.ref f))
 fn:W.isFn K (.ref f)=true
 kp:W.keepIn K (.ref f)=true
section
variable {X:Cx}{σ:St}{H:Hp}{fs:List (Str×V)}{f:Str}{v:V} 
theorem ZR {b:Bool} (I:Inv X pins σ H s) (e:H a=some (.ins C dx fs)) (c:Cls X.K C) (n:NoAttr X.K C f) (l:fs.lookup f=some v)
  (h:∀ u s',Inv X pins σ H s'->RelV v u->Q u s'):wpAny (model X.prog X.w) A (getAttr (.ref a) f b) Q E s:=by
 obtain⟨mA,O,r,_,_,_⟩:=U7 I.hok e;obtain⟨u,hu,ru⟩:=RelO.some_of (v:=v) (o:=mA f) (by rw[<- l]; exact r f);exact je6 I.kIn O (c.get f) c.hd n hu (ja5 ru) (h u _ (I.tok _) ru)
theorem UJ {m:Str}{g:Addr}{Q:Value×List Value->Shared->Prop} (I:Inv X pins σ H s) (e:H a=some (.ins C dx fs)) (c:Cls X.K C) (k:Meth X.K C m g) (l:fs.lookup m=none)
  (h:Q (.ref g,[.ref a]) s):wpAny (model X.prog X.w) A (getMethod (.ref a) m pl) Q E s:=by
 obtain⟨mA,O,r,_,_,_⟩:=U7 I.hok e;have hn:mA m=none:=RelO.none_of (by rw[<- l]; exact r m);exact jda I.kIn O (c.get m) k.at_ k.fn hn h
theorem ZS {y:V}{Q:Unit->Shared->Prop} (I:Inv X pins σ H s) (e:H a=some (.ins C dx fs)) (c:Cls X.K C) (n:NoAttr X.K C f) (hl:fs.length<1000) (ry:RelV y u)
  (h:∀ s',Inv X pins σ (upd H a (.ins C dx (Qq f y fs))) s'->Q () s'):wpAny (model X.prog X.w) A (setAttr (.ref a) f u) Q E s:=by
 obtain⟨mA,O,r,wi,_,ho⟩:=U7 I.hok e;have hz:(fs.map (·.1)).length<=sizeLine:=by rw[Xr,XY]; omega
 refine je7 I.kIn O c.sa c.po n.taker c.hd wi hz fun h' O' sb=>h _ ?_;have hd:∃ o,h'.get? dx=some o:=let ⟨o,_,_,e',_⟩:=O'.ns; ⟨o,e'⟩;refine I.write (x:=a) (e:=dx) (by rw[e]; exact True.intro) (.inr ho) (fun b q hb z=>(sb.2 b hb).trans z) hd ?_;refine⟨by rw[qp O.ne]; exact ho,?_,O.ne,O'.obj,_,O'.ns,fun g=>?_,fun g hg=>?_⟩
 ·have:=Jr f y fs; omega
 ·show RelO ((Qq f y fs).lookup g) (if g=f then some u else mA g);rw[jY];by_cases q:g=f
  ·rw[if_pos q,if_pos q]; exact ry
  ·rw[if_neg q,if_neg q]; exact r g
 ·by_cases q:g=f
  ·rw[q]; exact (QN f y fs).1
  ·refine(QN f y fs).2 g (wi g fun z=>hg ?_);show (if g=f then some u else mA g)=none;rw[if_neg q]; exact z
theorem Inv.made (I:Inv X pins σ H s):Inv X pins σ (upd (upd H s.heap.objs.size (.own (s.heap.objs.size+1))) (s.heap.objs.size+1) (.ins C s.heap.objs.size []))
  { s with heap:=(s.heap.push W.emptyDict).push (W.instObj C s.heap.objs.size) }:=by
 have e1:(s.heap.push W.emptyDict).get? s.heap.objs.size=some W.emptyDict:=XD s.heap rfl;have e2:((s.heap.push W.emptyDict).push (W.instObj C s.heap.objs.size)).get? (s.heap.objs.size+1)=some (W.instObj C s.heap.objs.size):=by
  have:=XD (s.heap.push W.emptyDict) (o:=W.instObj C s.heap.objs.size) rfl
  rwa [Heap.size_push] at this
 have e3:(s.heap.push W.emptyDict).Ns s.heap.objs.size (fun _=>none):=⟨W.emptyDict,#[],_,e1,rfl,(fun e he=>absurd he (by simp)),fun _=>rfl⟩;have I1:=I.laid (a:=s.heap.objs.size) (o:=.own (s.heap.objs.size+1)) (h':=s.heap.push W.emptyDict) (t':=s.toks) (fun b u q=>Xh _ q) (Xm _) ⟨_,e1⟩;refine I1.laid (a:=s.heap.objs.size+1) (o:=.ins C s.heap.objs.size []) (t':=s.toks) (fun b u q=>Xh _ q) (Nat.le_of_eq (Heap.size_push _ _)) ?_;have ne:s.heap.objs.size≠s.heap.objs.size+1:=X2 (Nat.lt_succ_self _);refine⟨by rw[qp ne,kR],wg _,ne,e2,fun _=>none,(Heap.Ns1.of_empty e3).at fun o q=>Xh _ q,fun _=>True.intro,fun y hy=>absurd rfl hy⟩
theorem je8 {f:Str} (hb:attributeBase e f env (eval e env)=eval e env)
  (h:wpAny (model prog w) A (eval e env) (fun o s₁=>wpAny (model prog w) A (getAttr o f true) Q E s₁) E s):wpAny (model prog w) A (eval (.Attribute e f pos) env) Q E s:=
 Attribute_any_ h (by rw[arm_eval_Attribute,hb])
end
def jgA (K:W.Frag) (ta:TE) (f:Str):TE:=fun σ H Q=>ta σ H fun x H1=>∃ a C dx fs v,x=.ref a/\H1 a=some (.ins C dx fs)/\Cls K C/\NoAttr K C f/\fs.lookup f=some v/\Q v H1
def jh1 (K:W.Frag) (ta tv:TE) (f:Str):TS:=fun D σ H=>tv σ H fun y H1=>ta σ H1 fun x H2=>∃ a C dx fs,x=.ref a/\H2 a=some (.ins C dx fs)/\Cls K C/\NoAttr K C f/\fs.length<1000 /\
 D.nx σ (upd H2 a (.ins C dx (Qq f y fs)))
section
variable {X:Cx}{o value:Expr}{f:Str}{tpos:Pos}{ta tv:TE}
theorem yR (he:PE X e ta) (hb:attributeBase e f X.env (eval e X.env)=eval e X.env):PE X (.Attribute e f pos) (jgA X.K ta f):=by
 intro pins s σ H Q I h;refine je8 hb (thn (he pins s σ H _ I h) fun u s1 ⟨x,H1,I1,rx,a,C,dx,fs,v,ex,ea,c,n,l,q⟩=>?_);subst ex;obtain rfl:u=Value.ref a:=rx;exact ZR I1 ea c n l fun u' s2 I2 ru=>⟨v,H1,I2,ru,q⟩
theorem QO (ha:PE X o ta) (hv:PE X value tv) (hs:swapsWith value (some (.Attribute o f pos')) pos.line X.env=pure false):PS X (.Assign [.Attribute o f pos'] value pos) (jh1 X.K ta tv f):=by
 intro pins s σ H D I h;refine plainObj_wpAny_Assign_Attribute (thn (hv pins s σ H _ I h) fun u s1 ⟨y,H1,I1,ry,q⟩=>thn (ha pins s1 σ H1 _ I1 q) fun ov s2 ⟨x,H2,I2,rx,a,C,dx,fs,ex,ea,c,n,l,q2⟩=>?_) hs;subst ex;obtain rfl:ov=Value.ref a:=rx;exact ZS I2 ea c n l ry fun s3 I3=>⟨σ,_,I3,q2⟩
end
section
variable {X:Cx}{σ:St}{H:Hp}{c:Value}{b:Bool}
inductive TyOf (K:W.Frag) (H:Hp):V->Value->Prop where
 | non:TyOf K H .non (.type "NoneType")
 | bl (x:Bool):TyOf K H (.bl x) (.type "bool")
 | int (i:Int):TyOf K H (.int i) (.type "int")
 | str (x:Str):TyOf K H (.str x) (.type "str")
 | flt (x:UInt64):TyOf K H (.flt x) (.type "float")
 | lst {a:Addr}{xs:List V} (e:H a=some (.lst xs)):TyOf K H (.ref a) (.type "list")
 | frz {a:Addr}{o:Obj}{xs:List V} (e:H a=some (.frz o (.lst xs))):TyOf K H (.ref a) (.type "list")
 | tup {a:Addr}{xs:List V} (e:H a=some (.tup xs)):TyOf K H (.ref a) (.type "tuple")
 | dK {a:Addr}{kvs:List (Key×V)} (e:H a=some (.dK kvs)):TyOf K H (.ref a) (.type "dict")
 | dT {a:Addr}{fl:Bool}{kvs:List (List Key×V)} (e:H a=some (.dT fl kvs)):TyOf K H (.ref a) (.type "dict")
 | ins {a C dx:Addr}{fs:List (Str×V)} (e:H a=some (.ins C dx fs)) (cl:Cls K C) (ha:W.findIn K (.ref C) "__class__"=some (some (.builtin "object.__class__")))
   (hn:W.specialIn K (.builtin "object.__class__") "__get__"=some (some (.builtin "getset_descriptor.__get__"))) (htk:W.takesIn K (.builtin "object.__class__")=some true)
   (hm:W.mroIn K C (.type "object")=some true):TyOf K H (.ref a) (.ref C)
theorem ja6 {x:V}{t:Value} (I:Inv X pins σ H s) (rx:RelV x u) (ty:TyOf X.K H x t) (e:W.kitOne X.K t c=some b) (h:∀ tk,Q (.bool b) { s with toks:=tk }) :
  wpAny (model X.prog X.w) A (call (.builtin "isinstance") [u,c]) Q E s:=by
 cases ty with
 | non=>cases (show u=Value.none from rx); exact wn W.kitx_none I.kIn True.intro e (fun z=>nomatch z) h
 | bl y=>cases (show u=Value.bool y from rx); exact wn W.kitx_bool I.kIn True.intro e (fun z=>nomatch z) h
 | int i=>obtain⟨t,q⟩:=(show ∃ t,u=Value.int i t from rx); cases q; exact wn W.kitx_int I.kIn True.intro e (fun z=>nomatch z) h
 | str y=>obtain⟨t,q⟩:=(show ∃ t,u=Value.str y t from rx); cases q; exact wn W.kitx_str I.kIn True.intro e (fun z=>nomatch z) h
 | flt y=>obtain⟨t,q⟩:=(show ∃ t,u=Value.float y t from rx); cases q; exact wn W.kitx_float I.kIn True.intro e (fun z=>nomatch z) h
 | @lst a xs ea=>
  cases (show u=Value.ref a from rx);obtain⟨_,_,n,_,h1⟩:=(show ObjOk X.prog X.w H s.heap a (.lst xs) from I.hok a _ ea);exact wn W.kitx_list I.kIn ⟨_,h1,rfl⟩ e (fun z=>nomatch z) h
 | @frz a ob xs ea=>
  cases (show u=Value.ref a from rx);obtain⟨_,_,_,n,_,h1⟩:=(show ObjOk X.prog X.w H s.heap a (.frz ob (.lst xs)) from I.hok a _ ea);exact wn W.kitx_list I.kIn ⟨_,h1,rfl⟩ e (fun z=>nomatch z) h
 | @tup a xs ea=>
  cases (show u=Value.ref a from rx);obtain⟨_,_,_,p⟩:=(show ObjOk X.prog X.w H s.heap a (.tup xs) from I.hok a _ ea);obtain⟨o,h1,h2,_⟩:=p;exact wn W.kitx_tuple I.kIn ⟨o,h1,h2.1⟩ e (fun z=>nomatch z) h
 | @dK a kvs ea=>
  cases (show u=Value.ref a from rx);obtain⟨_,_,vs,_,p⟩:=(show ObjOk X.prog X.w H s.heap a (.dK kvs) from I.hok a _ ea);obtain⟨o,es,ep,h1,h2,_⟩:=p;exact wn W.kitx_dict I.kIn ⟨o,h1,h2.1⟩ e (fun z=>nomatch z) h
 | @dT a fl kvs ea=>
  cases (show u=Value.ref a from rx);obtain⟨_,_,xs,_,o,es,ep,h1,h2,_⟩:=(show ObjOk X.prog X.w H s.heap a (.dT fl kvs) from I.hok a _ ea);exact wn W.kitx_dict I.kIn ⟨o,h1,h2.1⟩ e (fun z=>nomatch z) h
 | @ins a C dx fs ea cl ha hn htk hm=>
  cases (show u=Value.ref a from rx);obtain⟨mA,O,_⟩:=U7 I.hok ea;obtain⟨od,J,_⟩:=O.look;exact wn (W.kitx_own (cl.get _) cl.hd ha hn htk hm) I.kIn J e (fun z=>nomatch z) h
end
structure Room (k:Nat) (A:Around):Prop where
 hd:A.handled=none
 dp:A.depth+3 * k+5<recursionLimit
 un:A.units+16 * k+200<cLine
 gd:A.guards=some []
theorem Room.mono {j k:Nat} (r:Room k A) (h:j<=k):Room j A:=⟨r.hd,by have:=r.dp; omega,by have:=r.un; omega,r.gd⟩
theorem Room.deeper {k:Nat} (r:Room (k+1) A) (env:Env):Room k (A.deeper env):=
 ⟨r.hd,by have:=r.dp; show A.depth+1+3 * k+5<_; omega,by have:=r.un; show A.units+3+16 * k+200<_; omega,r.gd⟩
theorem ZT:(A.under (.builtin "type.__call__" ⟨.ref C::us,kw⟩)).depth=A.depth+1:=by
 first | rfl | simp[Around.under,Code.weight,Code.isCreation,Code.isGuard,Code.isCaller,Code.frames,Code.isFrame,guardIds]
theorem ZU:(A.under (.builtin "type.__call__" ⟨.ref C::us,kw⟩)).units=A.units+1:=by
 first | rfl | simp[Around.under,Code.cUnits,Code.frames,Code.isFrame]
theorem Ym:(A.under (.builtin "type.__call__" ⟨.ref C::us,kw⟩)).guards=A.guards:=by
 cases A with
 | mk a b c d e=>cases d <;> rfl
theorem Room.make {k:Nat} (r:Room (k+1) A) (C:Addr) (us:List Value) (kw:List (Str×Value)):Room k (A.under (.builtin "type.__call__" ⟨.ref C::us,kw⟩)):=
 ⟨r.hd,by have:=r.dp; rw[ZT]; omega,by have:=r.un; rw[ZU]; omega,(Ym).trans r.gd⟩
theorem Room.depth {k:Nat} (r:Room k A):A.depth<recursionLimit:=by have:=r.dp; omega
def yi:TA:=fun _ H Q=>Q [] H
def ki (ta:TE) (tr:TA):TA:=fun σ H Q=>ta σ H fun x H1=>tr σ H1 fun xs H2=>Q (x::xs) H2
section
variable {X:Cx}{te:TE}{t:TA} 
theorem ji:PA X [] yi:=fun _ _ _ _ H Q I h=>Calls.spliced_nil ⟨[],H,I,.nil,h⟩
theorem jc (ha:PE X e te) (hr:PA X es t) (hs:starEach (e::es) X.env=(false,eval e X.env)::starEach es X.env:=by rfl):PA X (e::es) (ki te t):=by
 intro pos pins s σ H Q I h;rw[hs];show wpAny _ _ (spliced ((false,eval e X.env)::backTo pos (starEach es X.env))) _ _ s;refine Calls.spliced_cons (thn (ha pins s σ H _ I h) fun u s1 ⟨x,H1,I1,r1,q1⟩=>?_);exact thn (hr pos pins s1 σ H1 _ I1 q1) fun us s2 ⟨xs,H2,I2,r2,q2⟩=>⟨x::xs,H2,I2,.cons r1 r2,q2⟩
def jgj (t:TA):TE:=fun σ H Q=>t σ H fun xs H1=>xs.length<=sizeLine/\∀ p,H1 p=none->Q (.ref p) (upd H1 p (.tup xs))
def jiD (t:TA):TE:=fun σ H Q=>t σ H fun xs H1=>xs.length<=sizeLine/\∀ p,H1 p=none->Q (.ref p) (upd H1 p (.lst xs))
theorem QP {x1} (h:PA X es t):PE X (.Tuple es x1 pos) (jgj t):=by
 intro pins s σ H Q I hq;refine wpAny_Tuple_spliced (thn (h pos pins s σ H _ I hq) fun us s1 ⟨xs,H1,I1,r,z,q⟩=>⟨by rw[<- r.length]; exact z,?_⟩);have hf:H1 s1.heap.objs.size=none:=I1.hok.fresh (Xm _);refine⟨.ref s1.heap.objs.size,upd H1 s1.heap.objs.size (.tup xs),I1.laid (t':=s1.toks) (fun b u e=>Xh _ e) (Xm _) ?_,rfl,q _ hf⟩;exact⟨z,us,r,TupO.new _ _⟩
theorem qC (h:PA X es t):PE X (.List es pos) (jiD t):=by
 intro pins s σ H Q I hq;refine wpAny_List_spliced (thn (h pos pins s σ H _ I hq) fun us s1 ⟨xs,H1,I1,r,z,q⟩=>⟨by rw[<- r.length]; exact z,?_⟩);have hf:H1 s1.heap.objs.size=none:=I1.hok.fresh (Xm _);refine⟨.ref s1.heap.objs.size,upd H1 s1.heap.objs.size (.lst xs),I1.laid (t':=s1.toks) (fun b u e=>Xh _ e) (Xm _) ?_,rfl,q _ hf⟩;exact⟨z,us,0,r,XD _ rfl⟩
end
abbrev Sp:=List V->Hp->VK->XK->Prop
abbrev CXT:=List Env->Hp->Shared->XK->Value->Shared->Prop
structure Env0 (P:Program) (w:World) (K:W.Frag) (mg:Str->Option Value) (base:Heap) (A:Around) (outer:List Env) (s:Shared) (H:Hp):Prop where
 frames:A.frames=some outer
 mod:Mod K mg base
 bs:∀ b o,base.get? b=some o->s.heap.get? b=some o/\H b=none
 bsz:base.objs.size<=s.heap.objs.size
 funs:s.heap.FunFrames base outer
 frf:∀ b∈frs outer,H b=none
 hok:HOk P w H s.heap
 bare:AllBare s.gens
def CE (outer:List Env) (P:Program) (w:World) (H:Hp) (s:Shared) (Q:VK) (u:Value) (s':Shared):Prop:=
 ∃ v H',s'.os=s.os/\AllBare s'.gens/\Un (frs outer) [] H H' s.heap s'.heap/\HOk P w H' s'.heap/\RelV v u/\Q v H'
def CR (CX:CXT) (outer:List Env) (P:Program) (w:World) (H:Hp) (s:Shared) (Q:VK) (E:XK) (r:Result) (s':Shared):Prop:=
 match r with
 | .ok (.ret u)=>CE outer P w H s Q u s'
 | .ok _=>False
 | .error e=>CX outer H s E e s'
structure FnOk (P:Program) (w:World) (K:W.Frag) (mg:Str->Option Value) (base:Heap) (CX:CXT) (k:Nat) (f:Addr) (fd:FuncData) (ps:List Str) (sp:Sp):Prop where
 len:∀ vs H Q E,sp vs H Q E->vs.length=ps.length
 run:∀ (A:Around) (outer:List Env) (s:Shared) (H:Hp) (args:Args) (us:List Value) (vs:List V) (Q:VK) (E:XK),Room k A->Env0 P w K mg base A outer s H->BindsTo s fd args (ps.zip us)->Vals vs us->sp vs H Q E ->
  codeAny (model P w) A (.call (.ref f) args) (CR CX outer P w H s Q E) s
theorem Env0.make {P:Program}{H:Hp} (e:Env0 P w K mg base A outer s H) (C:Addr) (us:List Value) (kw:List (Str×Value)) :
  Env0 P w K mg base (A.under (.builtin "type.__call__" ⟨.ref C::us,kw⟩)) outer s H:=⟨by first | exact e.frames | (simpa [Around.under,Code.envs,Code.isFrame,pushEnvs] using e.frames),e.mod,e.bs,e.bsz,e.funs,e.frf,e.hok,e.bare⟩
section
variable {X:Cx}{σ:St}{H:Hp} 
theorem Inv.env0 (I:Inv X pins σ H s):Env0 X.prog X.w X.K X.mg X.base X.A X.stack s H:=
 ⟨I.ok.frames,I.ok.mod,I.bs,we I.ok.bsz I.sz,I.stack,I.stkFree,I.hok,I.bare⟩
theorem Inv.after {Q:VK} (I:Inv X pins σ H s) (h:CE X.stack X.prog X.w H s Q u s'):EP X pins σ Q u s':=by
 obtain⟨v,H',os,bare,un,hok,r,q⟩:=h;obtain⟨hh,g,d,t,os'⟩:=s';obtain rfl:os'=s.os:=os;exact⟨v,H',I.call (h':=hh) (g':=g) (d':=d) (t':=t) (ch:=[]) un hok bare (fun b z=>absurd z (by simp)),r,q⟩
end
def JJ (sp:Sp) (dvs:List V) (E:XK) (t:TA):TE:=fun σ H Q=>t σ H fun vs H1=>sp (vs++dvs) H1 Q E
def Uy (C:Addr) (m:Str) (sp:Sp) (dvs:List V) (E:XK) (ta:TE) (t:TA):TE:=fun σ H Q=>ta σ H fun x H1=>∃ a dx fs,x=.ref a/\H1 a=some (.ins C dx fs)/\fs.lookup m=none /\
 t σ H1 fun vs H2=>sp (x::(vs++dvs)) H2 Q E
def jdc (C:Addr) (sp:Sp) (dvs:List V) (E:XK) (t:TA):TE:=fun σ H Q=>t σ H fun vs H1=>∀ x dx,H1 x=none->H1 dx=none->dx≠x ->
 sp (.ref x::(vs++dvs)) (upd (upd H1 dx (.own x)) x (.ins C dx [])) (fun v H2=>v=.non/\Q (.ref x) H2) E
def Binds (K:W.Frag) (fd:FuncData) (ps:List Str) (ds:List Value):Prop:=
 ∀ (s:Shared) (us:List Value),K.In s.heap->(us++ds).length=ps.length->BindsTo s fd ⟨us,[]⟩ (ps.zip (us++ds))
theorem Binds.all (h:∀ us:List Value,us.length=ps.length->bindArgs fd ⟨us,[]⟩=pure (ps.zip us)):Binds K fd ps []:=fun s us _ hl=>by
 rw[List.append_nil] at hl ⊢;exact .of_eq (h us hl)
def QQ (CX:CXT) (X:Cx) (E:XK):Prop:=∀ (pins:List (Addr×Obj)) (σ:St) (H:Hp) (s:Shared) (e:Value) (s':Shared),Inv X pins σ H s->CX X.stack H s E e s'->X.xe e s'
section
variable {X:Cx}{CX:CXT}{k:Nat}{f:Addr}{sp:Sp}{dvs:List V}{ds:List Value}{E:XK}{m:Str}{p:Pos}{o:Expr}{ta:TE}{t:TA}
theorem ja7 {σ:St}{H:Hp}{Q:VK}{vs:List V} (F:FnOk X.prog X.w X.K X.mg X.base CX k f fd ps sp) (hr:Room k X.A) (hb:Binds X.K fd ps ds) (hd:Vals dvs ds) (hx:QQ CX X E)
  (I:Inv X pins σ H s) (r:Vals vs us) (h:sp (vs++dvs) H Q E):wpAny (model X.prog X.w) X.A (call (.ref f) us) (EP X pins σ Q) X.xe s:=by
 have r2:Vals (vs++dvs) (us++ds):=r.append hd;have hl:(us++ds).length=ps.length:=by rw[<- r2.length]; exact F.len _ _ _ _ h
 refine wpAny_call (codeAny_mono (F.run X.A X.stack s H ⟨us,[]⟩ (us++ds) (vs++dvs) Q E hr I.env0 (hb s us I.kIn hl) r2 h) fun r s' hq=>?_);cases r with
 | error e=>exact hx pins σ H s e s' I hq
 | ok fl=>
  cases fl with
  | ret u=>exact I.after hq
  | next=>exact False.elim hq
  | brk=>exact False.elim hq
  | cont=>exact False.elim hq
theorem je9 (F:FnOk X.prog X.w X.K X.mg X.base CX k f fd ps sp) (hr:Room k X.A) (hg:Gl X x) (hm:X.mg x=some (.ref f)) (hk:W.keepIn X.K (.ref f)=true) (hb:Binds X.K fd ps ds) (hd:Vals dvs ds) (hx:QQ CX X E)
  (ha:PA X (e::es) t) (hdb:(x==("__debug__":Str))=false:=by decide) (he:starEach (e::es) X.env=(false,eval e X.env)::starEach es X.env:=by rfl) (hpl:(backTo pos (starEach es X.env)).any (·.1)=false:=by rfl) :
  PE X (.Call (.Name x p) (e::es) [] pos) (JJ sp dvs E t):=by
 intro pins s σ H Q I h;refine wpAny_Call_Name_kw (Yk I hg hm ?_ hdb);refine W.callWith_K (h₀:=X.base) I.ok.mod.kin hk (thn (ha pos pins s σ H _ I h) fun us s1 ⟨vs,H1,I1,r,q⟩=>⟨I1.kIn,?_⟩) he hpl;exact ja7 F hr hb hd hx I1 r q
theorem je_ (he:PE X o ta) (c:Cls X.K C) (hm:Meth X.K C m f) (F:FnOk X.prog X.w X.K X.mg X.base CX k f fd ps sp) (hr:Room k X.A) (hb:Binds X.K fd ps ds) (hd:Vals dvs ds) (hx:QQ CX X E) (ha:PA X (e::es) t)
  (hst:starEach (e::es) X.env=(false,eval e X.env)::starEach es X.env:=by rfl) (hpl:(backTo pos (starEach es X.env)).any (·.1)=false:=by rfl)
  (ht:eval (.Call (.Attribute o m apos) (e::es) [] pos) X.env=(do
   let ov <- eval o X.env
   standAt apos.atName
   let (f,first) <- holding [ov] (getMethod ov m pl)
   callWith pos f first (backTo pos (starEach (e::es) X.env)) (backToKw pos (keywordEach [] X.env))):=by rfl) :
  PE X (.Call (.Attribute o m apos) (e::es) [] pos) (Uy C m sp dvs E ta t):=by
 intro pins s σ H Q I h;refine W.methodCall_KW (pl:=pl) (thn (he pins s σ H _ I h) fun u s1 ⟨x,H1,I1,rx,a,dx,fs,ex,ea,l,q⟩=>?_) ht;subst ex;obtain rfl:u=Value.ref a:=rx;refine UJ I1 ea c hm l ?_;refine W.callWith_K (first:=[.ref a]) (h₀:=X.base) I.ok.mod.kin hm.kp (thn (ha pos pins s1 σ H1 _ I1 q) fun us s2 ⟨vs,H2,I2,r,q2⟩=>⟨I2.kIn,?_⟩) hst hpl;exact ja7 (us:=.ref a::us) (vs:=.ref a::vs) F hr hb hd hx I2 (.cons rfl r) q2
theorem jdd (he:PE X o ta) (c:Cls X.K C) (hm:Meth X.K C m f) (F:FnOk X.prog X.w X.K X.mg X.base CX k f fd ps sp) (hr:Room k X.A) (hb:Binds X.K fd ps ds) (hd:Vals dvs ds) (hx:QQ CX X E)
  (ht:eval (.Call (.Attribute o m apos) [] [] pos) X.env=(do
   let ov <- eval o X.env
   standAt apos.atName
   let (f,first) <- holding [ov] (getMethod ov m pl)
   callWith pos f first (backTo pos (starEach [] X.env)) (backToKw pos (keywordEach [] X.env))):=by rfl) :
  PE X (.Call (.Attribute o m apos) [] [] pos) (Uy C m sp dvs E ta yi):=by
 intro pins s σ H Q I h;refine W.methodCall_KW (pl:=pl) (thn (he pins s σ H _ I h) fun u s1 ⟨x,H1,I1,rx,a,dx,fs,ex,ea,l,q⟩=>?_) ht;subst ex;obtain rfl:u=Value.ref a:=rx;refine UJ I1 ea c hm l ?_;exact W.callWith_K0 (first:=[.ref a]) I1.kIn hm.kp (ja7 (us:=[.ref a]) (vs:=[.ref a]) F hr hb hd hx I1 (.cons rfl .nil) q)
structure Mk (K:W.Frag) (C f:Addr):Prop where
 makes:W.makesIn K C=true
 init:W.findIn K (.ref C) "__init__"=some (some (.ref f))
 fn:W.isFn K (.ref f)=true
 kp:W.keepIn K (.ref C)=true
theorem jde {σ:St}{H:Hp}{Q:VK}{vs:List V} (M:Mk X.K C f) (F:FnOk X.prog X.w X.K X.mg X.base CX k f fd ps sp) (hr:Room (k+1) X.A) (hb:Binds X.K fd ps ds) (hd:Vals dvs ds)
  (hx:QQ CX X E) (I:Inv X pins σ H s) (r:Vals vs us)
  (h:∀ x dx,H x=none->H dx=none->dx≠x->sp (.ref x::(vs++dvs)) (upd (upd H dx (.own x)) x (.ins C dx [])) (fun v H2=>v=.non/\Q (.ref x) H2) E) :
  wpAny (model X.prog X.w) X.A (call (.ref C) us) (EP X pins σ Q) X.xe s:=by
 have hq:=h (s.heap.objs.size+1) s.heap.objs.size (I.hok.fresh (Nat.le_succ _)) (I.hok.fresh (Xm _)) (X2 (Nat.lt_succ_self _));have I2:=Inv.made (C:=C) I;have r2:Vals (V.ref (s.heap.objs.size+1)::(vs++dvs)) (Value.ref (s.heap.objs.size+1)::(us++ds)):=.cons rfl (r.append hd);have hl:(Value.ref (s.heap.objs.size+1)::us++ds).length=ps.length:=by
  have e:=r2.length;rw[F.len _ _ _ _ hq] at e;exact e.symm
 refine wpAny_call (jdb (f:=f) I.kIn M.makes M.init (beq_iff_eq.mp M.fn) (codeAny_mono (F.run _ X.stack _ _ ⟨Value.ref (s.heap.objs.size+1)::us,[]⟩ (Value.ref (s.heap.objs.size+1)::(us++ds)) _ _ E (hr.make C us [])
  (I2.env0.make C us []) (hb _ (Value.ref (s.heap.objs.size+1)::us) I2.kIn hl) r2 hq) fun r s' hq'=>?_))
 cases r with
 | error e=>exact hx pins σ _ _ e s' I2 hq'
 | ok fl=>
  cases fl with
  | ret u=>
   obtain⟨v,H',I3,rv,ev,q3⟩:=I2.after hq';subst ev;exact⟨rv,⟨V.ref (s.heap.objs.size+1),H',I3,rfl,q3⟩⟩
  | next=>exact False.elim hq'
  | brk=>exact False.elim hq'
  | cont=>exact False.elim hq'
theorem jfa (M:Mk X.K C f) (F:FnOk X.prog X.w X.K X.mg X.base CX k f fd ps sp) (hr:Room (k+1) X.A) (hg:Gl X x) (hm:X.mg x=some (.ref C)) (hb:Binds X.K fd ps ds) (hd:Vals dvs ds) (hx:QQ CX X E)
  (ha:PA X (e::es) t) (hdb:(x==("__debug__":Str))=false:=by decide) (he:starEach (e::es) X.env=(false,eval e X.env)::starEach es X.env:=by rfl) (hpl:(backTo pos (starEach es X.env)).any (·.1)=false:=by rfl) :
  PE X (.Call (.Name x p) (e::es) [] pos) (jdc C sp dvs E t):=by
 intro pins s σ H Q I h;refine wpAny_Call_Name_kw (Yk I hg hm ?_ hdb);refine W.callWith_K (h₀:=X.base) I.ok.mod.kin M.kp (thn (ha pos pins s σ H _ I h) fun us s1 ⟨vs,H1,I1,r,q⟩=>⟨I1.kIn,?_⟩) he hpl;exact jde M F hr hb hd hx I1 r q
end
structure FnScope (N P:List Str) (sc:Scope):Prop where
 kind:sc.kind=.function
 co:sc.isCoroutine=false
 gen:sc.isGenerator=false
 nd:N.Nodup
 pre:N.take P.length=P
 par:∀ x∈P,sc.names.lookup x=some .local \/ sc.names.lookup x=some .cell
 nofree:∀ y∈sc.names,y.2≠.free
theorem Ww:∀ {binds:List (Str×Value)}{m:Str->Option Value},(∀ v,(x,v)∉binds)->bindL kindOf binds m x=m x
 | [],_,_=>rfl
 | (n,v)::r,m,h=>by
  unfold bindL;rw[Ww fun w hw=>h w (Xe _ hw)];split
  ·have:x≠n:=by rintro rfl; exact h v Xg
   simp[this]
  ·rfl
theorem Wx:∀ {binds:List (Str×Value)}{m:Str->Option Value},(∀ v,(x,v)∉binds)->bindC kindOf binds m x=m x
 | [],_,_=>rfl
 | (n,v)::r,m,h=>by
  unfold bindC;rw[Wx fun w hw=>h w (Xe _ hw)];split
  ·rfl
  ·have:x≠n:=by rintro rfl; exact h v Xg
   simp[this]
theorem Wy {kindOf:Str->Option NameKind}{x:Str}{v:Value}:∀ {P:List Str}{vs:List Value}{i:Nat}{m:Str->Option Value},P.Nodup->P[i]?=some x->vs[i]?=some v->kindOf x=some .local ->
  bindL kindOf (P.zip vs) m x=some v
 | [],_,_,_,_,h,_,_=>by simp at h
 | _::_,[],_,_,_,_,h,_=>by simp at h
 | p::P,w::vs,0,m,nd,h1,h2,hk=>by
  simp at h1 h2; subst h1; subst h2;show bindL kindOf ((p,w)::P.zip vs) m p=_;unfold bindL;rw[Ww fun v hv=>(List.nodup_cons.mp nd).1 (List.of_mem_zip hv).1,if_pos hk];simp
 | p::P,w::vs,i+1,m,nd,h1,h2,hk=>by
  show bindL kindOf ((p,w)::P.zip vs) m x=_;unfold bindL;exact Wy (i:=i) (List.nodup_cons.mp nd).2 (by simpa using h1) (by simpa using h2) hk
theorem Wz {kindOf:Str->Option NameKind}{x:Str}{v:Value}:∀ {P:List Str}{vs:List Value}{i:Nat}{m:Str->Option Value},P.Nodup->P[i]?=some x->vs[i]?=some v->kindOf x≠some .local ->
  bindC kindOf (P.zip vs) m x=some v
 | [],_,_,_,_,h,_,_=>by simp at h
 | _::_,[],_,_,_,_,h,_=>by simp at h
 | p::P,w::vs,0,m,nd,h1,h2,hk=>by
  simp at h1 h2; subst h1; subst h2;show bindC kindOf ((p,w)::P.zip vs) m p=_;unfold bindC;rw[Wx fun v hv=>(List.nodup_cons.mp nd).1 (List.of_mem_zip hv).1,if_neg hk];simp
 | p::P,w::vs,i+1,m,nd,h1,h2,hk=>by
  show bindC kindOf ((p,w)::P.zip vs) m x=_;unfold bindC;exact Wz (i:=i) (List.nodup_cons.mp nd).2 (by simpa using h1) (by simpa using h2) hk
def J_ (N:List Str) (vs:List V):St:=vs.map some++List.replicate (N.length-vs.length) none
def jfb (CX:CXT) (P:Program) (w:World) (K:W.Frag) (mg:Str->Option Value) (base:Heap) (N:List Str) (qual:Str) (scope:Scope) (f:Addr) (cd:Value) (A:Around) (outer:List Env) (s:Shared) (H:Hp) (E:XK):Cx where
 prog:=P
 w:=w
 K:=K
 mg:=mg
 base:=base
 A:=A.deeper (envOfC qual scope s.heap.objs.size f cd)
 N:=N
 s₀:=s
 H₀:=H
 env:=envOfC qual scope s.heap.objs.size f cd
 outer:=outer
 stack:=envOfC qual scope s.heap.objs.size f cd::outer
 ex:=[]
 calm:=true
 fn:=fun _=>true
 pn:=[]
 xe:=fun e s'=>wpAny (model P w) (A.deeper (envOfC qual scope s.heap.objs.size f cd)) (leaving (envOfC qual scope s.heap.objs.size f cd) e) (fun _ s''=>CX outer H s E e s'') (fun e' s''=>CX outer H s E e' s'') s'
theorem Y7 (h:sc.names.lookup x=some .cell):∃ c,(cellsFrom n sc.names []).lookup x=some c:=by
 have q:=W.cellsFrom_some sc.names n [] (.inl h);exact Option.isSome_iff_exists.mp q
theorem ja8 {CX:CXT}{P:Program}{f:Addr}{cd:Value}{s1:Shared}{H:Hp}{E:XK}{vs:List V}
  (S:FnScope N ps scope) (hd:A.handled=none) (e0:Env0 P w K mg base A outer s H) (hl:vs.length=ps.length) (r:Vals vs us)
  (x:InCallC s s.heap.objs.size (bindL (envOfC qual scope s.heap.objs.size f cd).kindOf (ps.zip us) fun _=>none) (cellsFrom (s.heap.objs.size+1) scope.names []) (bindC (envOfC qual scope s.heap.objs.size f cd).kindOf (ps.zip us) fun _=>none) s1) :
  Inv (jfb CX P w K mg base N qual scope f cd A outer s H E) [] (J_ N vs) H s1:=by
 have hpl:ps.length<=N.length:=by have:=congrArg List.length S.pre; rw[wx] at this; omega
 obtain⟨h1,tk,rfl,hk⟩:=x.done;have noA:∀ b:Addr,b∉(jfb CX P w K mg base N qual scope f cd A outer s H E).ex:=fun b z=>absurd (show b∈([]:List Addr) from z) (by simp);refine⟨⟨e0.mod,S.kind,rfl,rfl,Xm _,fun y z c h1 h2=>?_,fun y hy=>?_,fun y c _ h=>?_,fun _=>hd,Around.frames_deeper e0.frames,.inr ⟨rfl,rfl⟩,fun b z=>absurd z (noA b),e0.bs,e0.bsz,fun b _ _=>noA b,fun b z=>absurd z (noA b),e0.funs,e0.frf⟩,
  rfl,e0.bare,Un.kept hk,⟨_,x.toInCall.ns,fun i y v h1 h2 h3=>?_⟩,fun y c h=>⟨_,x.cell y c h⟩,e0.hok.fresh (Xm _),fun y c h=>?_,fun p hp=>absurd (show p∈([]:List (Addr×Obj)) from hp) (by simp),e0.hok.kept hk,?_⟩
 ·exact name_of_addr x.apart (wm h1) (wm h2)
 ·have hy:scope.names.lookup y=some .cell \/ scope.names.lookup y=some .free:=hy;rcases hy with hy | hy
  ·exact Y7 hy
  ·exact absurd rfl (S.nofree _ (wm hy))
 ·exact Nat.le_of_lt (x.above y c (wm h))
 ·have hi:i<vs.length:=by
   unfold J_ at h2;by_cases hi:i<vs.length
   ·exact hi
   ·rw[List.getElem?_append_right (by simpa using hi)] at h2;rw[List.getElem?_replicate] at h2;split at h2 <;> cases h2
  have ha:vs[i]?=some v:=by
   unfold J_ at h2;rw[List.getElem?_append_left (by simpa using hi),XG] at h2;cases e:vs[i]? with
   | none=>rw[e] at h2; cases h2
   | some a=>rw[e] at h2; cases h2; rfl
  obtain⟨u,hu,rv⟩:=r.get ha;have hp:ps[i]?=some y:=by
   rw[<- S.pre,List.getElem?_take_of_lt (by omega)]; exact h1
  have ndP:ps.Nodup:=by rw[<- S.pre]; exact S.nd.sublist (List.take_sublist _ _)
  refine⟨u,rv,?_⟩;rcases S.par y (X8 hp) with k | k
  ·exact .inl ⟨k,Wy ndP hp hu k⟩
  ·obtain⟨c,e⟩:=Y7 (n:=s.heap.objs.size+1) k;refine .inr ⟨.inl k,c,e,?_⟩;have q:=x.cell y c e;rw[Wz ndP hp hu (by show scope.names.lookup y≠_; rw[k]; decide)] at q;exact q
 ·exact e0.hok.fresh (Nat.le_of_lt (x.above y c (wm h)))
 ·unfold J_;show _=N.length;rw[Xt,Xr,List.length_replicate];omega
theorem jh2 {CX:CXT}{P:Program}{k:Nat}{f:Addr}{params:Arguments}{dV kV doc pm ct oc:Value} 
  {sp:Sp} (lk:K.lookup f=some ⟨oc,od,.func (W.fnOf name qual params body scope dV kV doc pm an cdv ct),osl⟩) (hcd:W.codeIn K cdv qual=true) (S:FnScope N ps scope)
  (len:∀ vs H Q E,sp vs H Q E->vs.length=ps.length)
  (hbody:∀ (A:Around) (outer:List Env) (s:Shared) (H:Hp) (vs:List V) (Q:VK) (E:XK),Room k (A.deeper (envOfC qual scope s.heap.objs.size f cdv))->sp vs H Q E ->
   ∃ t,PSs (jfb CX P w K mg base N qual scope f cdv A outer s H E) body t/\t { nx:=fun _ H'=>Q .non H',rt:=Q } (J_ N vs) H) :
  FnOk P w K mg base CX (k+1) f (W.fnOf name qual params body scope dV kV doc pm an cdv ct) ps sp:=by
 refine⟨len,fun A outer s H args us vs Q E hr e0 hb r hsp=>?_⟩;have hl:=len _ _ _ _ hsp;have KX:K.In s.heap:=e0.mod.kin.keeps fun b o e=>(e0.bs b o e).1;have lim:s.heap.NoLimit:=e0.mod.nolimit.keeps fun b o e=>(e0.bs b o e).1;have hkind:∀ y∈ps.zip us,scope.names.lookup y.1=some .local \/ (scope.names.lookup y.1=some .cell/\((cellsFrom (s.heap.objs.size+1) scope.names []).lookup y.1).isSome=true):=fun⟨n,v⟩ hy=>by
  rcases S.par n (List.of_mem_zip hy).1 with q | q
  ·exact .inl q
  ·exact .inr ⟨q,W.cellsFrom_some _ _ _ (.inl q)⟩
 refine codeAny_call_function hr.depth (KX _ _ lk) rfl S.co S.gen rfl (W.codeRec_of KX hcd) (hb _ _ _ _ ?_);refine wpAny_newFunctionEnv_cells S.kind hkind fun env he s1 x=>?_;subst he;refine⟨lim.keeps x.toInCall.keep,codeAny_func ?_⟩;obtain⟨t,ht,hq⟩:=hbody A outer s H vs Q E (hr.deeper _) hsp;have I:Inv (jfb CX P w K mg base N qual scope f cdv A outer s H E) [] (J_ N vs) H s1:=ja8 S hr.hd e0 hl r x;refine wpAny_mono (ht [] s1 (J_ N vs) H _ I hq) (fun fl s' hs=>?_) fun e s' hs=>hs;have fin:∀ {σ':St}{H':Hp}{v:V}{u:Value},Inv (jfb CX P w K mg base N qual scope f cdv A outer s H E) [] σ' H' s'->RelV v u->Q v H'->CE outer P w H s Q u s':=
  fun {σ' H' v u} J rv q=>⟨v,H',J.os,J.bare,J.base,J.hok,rv,q⟩
 cases fl with
 | ret u=>
  obtain⟨v,σ',H',J,rv,q⟩:=hs;exact fin J rv q
 | next=>
  obtain⟨σ',H',J,q⟩:=hs;exact fin (v:=V.non) (u:=Value.none) J rfl q
 | brk=>
  obtain⟨_,_,_,q⟩:=hs;exact False.elim q
 | cont=>
  obtain⟨_,_,_,q⟩:=hs;exact False.elim q
section
variable {X:Cx}{p:Pos}{t:TA}{id:String}{r:List V->Hp->VK->Prop}
def tCB (r:List V->Hp->VK->Prop) (t:TA):TE:=fun σ H Q=>t σ H fun vs H1=>r vs H1 Q
theorem jP (hc:Jq X (.builtin id) r) (hg:Gl X x) (hm:X.mg x=none) (hv:bootBuiltins x=some (.builtin id)) (ha:PA X (e::es) t) (hn:x≠"__name__":=by decide) (hdb:(x==("__debug__":Str))=false:=by decide)
  (he:starEach (e::es) X.env=(false,eval e X.env)::starEach es X.env:=by rfl) (hpl:(backTo pos (starEach es X.env)).any (·.1)=false:=by rfl):PE X (.Call (.Name x p) (e::es) [] pos) (tCB r t):=by
 intro pins s σ H Q I h;refine wpAny_Call_Name_kw (QK I hg hm hv ?_ hn hdb);exact PyProof.Rows.callWith_builtin1 (thn (ha pos pins s σ H _ I h) fun us s1 ⟨vs,H1,I1,r1,q1⟩=>hc pins s1 σ H1 vs us Q I1 r1 q1) he hpl
theorem qD (hc:Jq X (.type T) r) (hg:Gl X x) (hm:X.mg x=none) (hv:bootBuiltins x=some (.type T)) (ha:PA X (e::es) t) (hn:x≠"__name__":=by decide) (hdb:(x==("__debug__":Str))=false:=by decide)
  (he:starEach (e::es) X.env=(false,eval e X.env)::starEach es X.env:=by rfl) (hpl:(backTo pos (starEach es X.env)).any (·.1)=false:=by rfl):PE X (.Call (.Name x p) (e::es) [] pos) (tCB r t):=by
 intro pins s σ H Q I h;refine wpAny_Call_Name_kw (QK I hg hm hv ?_ hn hdb);exact PyProof.Rows.callWith_type1 (thn (ha pos pins s σ H _ I h) fun us s1 ⟨vs,H1,I1,r1,q1⟩=>hc pins s1 σ H1 vs us Q I1 r1 q1) he hpl
end
end L2
variable {σ fr:L2.St}{xs ys:List L2.V}{H H' H1 F1 Fe He F':L2.Hp}{ks:List L2.Key}{X:L2.Cx}{v:L2.V}{ta tb tc tv td t1 t2 t3 ty:L2.TE}{D:L2.Ends}{wi:L2.TI}{sp:L2.Sp}{J:L2.It}{tr:L2.TA}{G:L2.Hp->L2.Hp->Prop}{u':L2.TS}{kvs:List (List L2.Key×L2.V)}{ws:List (L2.Key×PySem.Value)}{lvs:List (L2.Key×L2.V)}
namespace HT
open PySem PyProof.Rows
section
theorem cat_tup {t b:Addr}{ws:List Value} (ht:IsTup s.heap t vs.toArray) (hb:IsTup s.heap b ws.toArray) (hv:vs≠[])
  (h1:ws=[]->Q (.ref t) s) (h2:ws≠[]->Q (.ref s.heap.objs.size) { s with heap:=s.heap.push { cls:=.type "tuple",data:=.seq (vs++ws).toArray } })
  (hsz:vs.length+ws.length<=sizeLine):wpAny (model prog w) A (binaryOp .Add (.ref t) (.ref b)) Q E s:=by
 obtain⟨⟨cls,dd,data,sl⟩,ho,hc,n,hd⟩:=id ht;obtain⟨⟨cls2,dd2,data2,sl2⟩,ho2,hc2,n2,hd2⟩:=id hb;simp only at hc hd hc2 hd2;subst hc hd hc2 hd2;have e:vs.toArray++ws.toArray=(vs++ws).toArray:=by simp
 by_cases hw:ws=[]
 ·exact concat_meets ⟨_,ho,rfl⟩ ⟨_,ho2,rfl⟩ noFill_tuple_add seq_tuple_add PySem.F.slot_tuple_add PySem.F.entry_tuple_add (PySem.F.args_tuple_add_2 _ _)
   (tuple_addW1 t b vs.toArray ws.toArray n n2 dd dd2 sl sl2 (by simpa using hv) (by simp[hw])) ⟨ho,ho2,h1 hw⟩
 ·refine concat_meets ⟨_,ho,rfl⟩ ⟨_,ho2,rfl⟩ noFill_tuple_add seq_tuple_add PySem.F.slot_tuple_add PySem.F.entry_tuple_add (PySem.F.args_tuple_add_2 _ _)
   (tuple_addW2 t b vs.toArray ws.toArray n n2 dd dd2 sl sl2 (by simpa using hv) (by simpa using hw) (by rw[List.size_toArray,List.size_toArray]; exact hsz)) ⟨ho,ho2,?_⟩
  rw[e];exact h2 hw
def sIx (n d:Nat):Option Int->Nat
 | none=>d
 | some v=>if v<0 then (v+(n:Int)).toNat else min v.toNat n
theorem sIx_none (n d:Nat):sIx n d none=d:=rfl
theorem sIx_nat (n d k:Nat):sIx n d (some (k:Int))=min k n:=by
 show (if (k:Int)<0 then ((k:Int)+(n:Int)).toNat else min (k:Int).toNat n)=min k n;rw[if_neg (by omega),Int.toNat_natCast]
theorem jgB (n d:Nat) (hd:d<=n) (o:Option Int):sIx n d o<=n:=by
 cases o with
 | none=>exact hd
 | some v=>
  show (if v<0 then (v+(n:Int)).toNat else min v.toNat n)<=n;by_cases hv:v<0
  ·rw[if_pos hv]; omega
  ·rw[if_neg hv]; exact Nat.min_le_right _ _
theorem ja9 (v:Int) (n d:Nat):(if v<0 then max (v+(n:Int)) 0 else min v (n:Int))=((sIx n d (some v):Nat):Int):=by
 show (if v<0 then max (v+(n:Int)) 0 else min v (n:Int))=(((if v<0 then (v+(n:Int)).toNat else min v.toNat n):Nat):Int);by_cases hv:v<0
 ·simp only[if_pos hv]; omega
 ·simp only[if_neg hv]; omega
theorem ZV (lo hi:Option Int) (n:Nat):Builtin.Slice.sliceAdjust lo hi 1 (n:Int)=(((sIx n 0 lo:Nat):Int),((sIx n n hi:Nat):Int)):=by
 have h1:¬ ((1:Int)<0):=by omega
 unfold Builtin.Slice.sliceAdjust;simp only[h1,if_false];refine Prod.ext ?_ ?_
 ·cases lo with
  | none=>rfl
  | some v=>exact ja9 v n 0
 ·cases hi with
  | none=>rfl
  | some v=>exact ja9 v n n
theorem ZW (i j:Nat):Builtin.Slice.slicePlaces (i:Int) (j:Int) 1=j-i:=by
 unfold Builtin.Slice.slicePlaces;have h1:(1:Int) > 0:=by omega
 simp only[h1,if_true,Int.ediv_one];split <;> omega
theorem UK {v:Value}{o:Option Int}{Q:Option Int->Shared->Prop} (p:IsPart v o) (h:Q o s):wpAny (model prog w) A (Builtin.Slice.slicePartIndex v) Q E s:=by
 cases p with
 | none=>exact slicePart_none h
 | int i t=>exact slicePart_int h
theorem Gx {sl:Addr}{Q:Int×Int×Nat->Shared->Prop} (hs:s.heap.IsSliceOf sl vl vu .none) (pl:IsPart vl lo) (pu:IsPart vu hi)
  (h:Q (((sIx n 0 lo:Nat):Int),1,sIx n n hi-sIx n 0 lo) s):wpAny (model prog w) A (Builtin.Slice.sliceApplied (.ref sl) (pure (n:Int))) Q E s:=by
 obtain⟨os,hos,hcs,hds⟩:=id hs;unfold Builtin.Slice.sliceApplied Builtin.Slice.sliceFields;refine wpAny_bind (wpAny_bind (wpAny_field hos hds (x:=vl) rfl (wpAny_bind (wpAny_field hos hds (x:=vu) rfl (wpAny_bind (wpAny_field hos hds (x:=.none) rfl (wpAny_pure ?_)))))));refine wpAny_bind (slicePart_none ?_);show wpAny _ _ (if ((1:Int)==0)=true then _ else _) _ _ s;rw[if_neg (by decide)];refine wpAny_bind (UK pl (wpAny_bind (UK pu (wpAny_bind (wpAny_pure ?_)))));show wpAny _ _ (match Builtin.Slice.sliceAdjust lo hi 1 (n:Int) with | (lo,hi)=>pure (lo,(1:Int),Builtin.Slice.slicePlaces lo hi 1)) _ _ s
 rw[ZV lo hi n];show wpAny _ _ (pure (((sIx n 0 lo:Nat):Int),(1:Int),Builtin.Slice.slicePlaces ((sIx n 0 lo:Nat):Int) ((sIx n n hi:Nat):Int) 1)) _ _ s;rw[ZW];exact wpAny_pure h
theorem jdf (xs:Array Value) (i k:Nat):((List.range k).filterMap fun (m:Nat)=>xs[((i:Int)+(m:Int) * 1).toNat]?).toArray=((xs.toList.drop i).take k).toArray:=by
 have e:(fun (m:Nat)=>xs[((i:Int)+(m:Int) * 1).toNat]?)=fun m=>xs[i+m]?:=by
  funext m
  have:((i:Int)+(m:Int) * 1).toNat=i+m:=by omega
  rw[this]
 rw[e];have:=pick_run xs i k;rw[List.filterMap_map] at this;have e2:((fun x=>xs[x]?) ∘ fun x=>i+x)=fun m=>xs[i+m]?:=rfl;rw[e2] at this;rw[this]
theorem getItem_tuple_cut {t sl:Addr} (ht:IsTup s.heap t items) (hs:s.heap.IsSliceOf sl vl vu .none) (pl:IsPart vl lo) (pu:IsPart vu hi)
  (hw:¬ (sIx items.size 0 lo=0/\sIx items.size items.size hi=items.size))
  (h:Q (.ref s.heap.objs.size) { s with heap:=s.heap.push { cls:=.type "tuple",data:=.seq ((items.toList.drop (sIx items.size 0 lo)).take (sIx items.size items.size hi-sIx items.size 0 lo)).toArray } })
  (hsz:items.size<=sizeLine):wpAny (model prog w) A (getItem (.ref t) (.ref sl)) Q E s:=by
 have htake:sizeOk (.seq ((items.toList.drop (sIx items.size 0 lo)).take (sIx items.size items.size hi-sIx items.size 0 lo)).toArray):=by
  show ((items.toList.drop (sIx items.size 0 lo)).take (sIx items.size items.size hi-sIx items.size 0 lo)).toArray.size<=sizeLine;rw[List.size_toArray,List.length_take,List.length_drop,Array.length_toList];omega
 have hj:sIx items.size items.size hi<=items.size:=jgB _ _ (Nat.le_refl _) hi;obtain⟨os,hos,hcs,hds⟩:=id hs;have hTs:s.TypeIs (.ref sl) "slice":=⟨os,hos,hcs⟩;unfold getItem
 try with_reducible refine wpAny_holding ?_
 first | refine wpAny_bind (wpAny_pure ?_) | skip
 refine wpAny_bind (wpAny_sequenceKey ht.typeIs (by decide) ?_);refine wpAny_bind (wpAny_callSpecial?_slot (name:=Str.ofString "__getitem__") ht.typeIs PyProof.Rows.slot_tuple_getitem
  (wpAny_call_entry PyProof.Rows.slot_tuple_getitem ht.typeIs entry_tuple_getitem ?_ (args_tuple_getitem _ _)))
 show wpAny _ _ (Builtin.Tuple.tupleItemsOf (.ref t) >>= _) _ _ s;refine wpAny_bind (tupleItemsOf_ ht ?_);refine wpAny_bind (wpAny_typeOf hTs ?_);rw[if_pos (by decide)];refine wpAny_bind (Gx hs pl pu ?_);have hno:¬ ((((sIx items.size 0 lo:Nat):Int)==0&&(1:Int)==1&&(sIx items.size items.size hi-sIx items.size 0 lo)==items.size)=true):=by
  intro q;rw[Bool.and_eq_true,Bool.and_eq_true] at q;have q1:((sIx items.size 0 lo:Nat):Int)=0:=eq_of_beq q.1.1;have q2:sIx items.size items.size hi-sIx items.size 0 lo=items.size:=eq_of_beq q.2;exact hw ⟨by omega,by omega⟩
 show wpAny _ _ (if (((sIx items.size 0 lo:Nat):Int)==0&&(1:Int)==1&&(sIx items.size items.size hi-sIx items.size 0 lo)==items.size)=true then _ else _) _ _ s;rw[if_neg hno,jdf]
 first
  | exact wpAny_bind (m:=Builtin.Tuple.tupleExact _) (wpAny_newObj_type (wpAny_pure ⟨_,rfl,wpAny_pure h⟩) htake)
  | exact wpAny_bind (m:=Builtin.Tuple.tupleExact _) (wpAny_newObj_type (wpAny_bind (wpAny_pure (wpAny_pure ⟨_,rfl,wpAny_pure h⟩))) htake)
  | exact wpAny_bind (wpAny_bind (m:=Builtin.Tuple.tupleExact _) (wpAny_newObj_type (wpAny_pure (wpAny_pure ⟨_,rfl,wpAny_pure h⟩)) htake))
  | exact wpAny_bind (wpAny_bind (m:=Builtin.Tuple.tupleExact _) (wpAny_newObj_type (wpAny_pure ⟨_,rfl,wpAny_pure h⟩) htake))
end
end HT
namespace L2
open PySem PySem.Spec PyProof.Rows
abbrev TO:=St->Hp->(Option Int->Hp->Prop)->Prop
def PO (X:Cx) (e:Option Expr) (t:TO):Prop:=
 ∀ (pins:List (Addr×Obj)) (s:Shared) (σ:St) (H:Hp) (Q:Option Int->Hp->Prop),Inv X pins σ H s->t σ H Q ->
  wpAny (model X.prog X.w) X.A (evalPart e X.env) (fun u s'=>∃ o H',Inv X pins σ H' s'/\IsPart u o/\Q o H') X.xe s
def ja_:TO:=fun _ H Q=>Q none H
def jdg (t:TE):TO:=fun σ H Q=>t σ H fun x H1=>∃ i,x=.int i/\Q (some i) H1
theorem zY:∀ {us:List Value},Vals (ns.map V.int) us->IntsAre us ns:=by
 induction ns with
 | nil=>intro us r; rw[List.map_nil] at r; cases r; exact .nil
 | cons n ns ih=>
  intro us r;rw[XR] at r;cases r with
  | cons r1 r2=>
   obtain⟨t,e⟩:=r1;subst e;exact .cons n t (ih r2)
section
variable {te:TE}{lo hi:Option Expr}{tl th:TO}{p2:Pos}
theorem GC:PO X none ja_:=by
 intro pins s σ H Q I h;rw[evalPart_none];exact Xd ⟨none,H,I,.none,h⟩
theorem GD (h:PE X e te):PO X (some e) (jdg te):=by
 intro pins s σ H Q I hw;rw[evalPart_some];refine thn (h pins s σ H _ I hw) fun u s1 ⟨x,H1,I1,r1,q1⟩=>?_;obtain⟨i,rfl,q⟩:=q1;obtain⟨t,rfl⟩:=r1;exact⟨some i,H1,I1,.int i t,q⟩
def SlR (X:Cx) (r:V->Option Int->Option Int->Hp->VK->Prop):Prop:=
 ∀ (pins:List (Addr×Obj)) (s:Shared) (σ:St) (H:Hp) (x:V) (v vl vu:Value) (lo hi:Option Int) (sl:Addr) (Q:VK),Inv X pins σ H s->RelV x v->s.heap.IsSliceOf sl vl vu .none->IsPart vl lo->IsPart vu hi->r x lo hi H Q ->
  ∃ T id,typeLookup (.type T) "__getitem__"=pure (some (.builtin id))/\s.TypeIs v T/\wpAny (model X.prog X.w) X.A (getItem v (.ref sl)) (EP X pins σ Q) X.xe s
def tSl (r:V->Option Int->Option Int->Hp->VK->Prop) (te:TE) (tl th:TO):TE:=fun σ H Q=>te σ H fun x H1=>tl σ H1 fun l H2=>th σ H2 fun u H3=>r x l u H3 Q
theorem zB {r:V->Option Int->Option Int->Hp->VK->Prop} (hr:SlR X r) (he:PE X e te) (hl:PO X lo tl) (hu:PO X hi th):PE X (.Subscript e (.Slice lo hi none p2) pos) (tSl r te tl th):=by
 intro pins s σ H Q I h;refine Subscript_ (thn (he pins s σ H _ I h) fun v s1 ⟨x,H1,I1,r1,q1⟩=>?_);refine wpAny_Slice (thn (hl pins s1 σ H1 _ I1 q1) fun vl s2 ⟨l,H2,I2,pl,q2⟩=>thn (hu pins s2 σ H2 _ I2 q2) fun vu s3 ⟨u,H3,I3,pu,q3⟩=>?_);rw[evalPart_none];refine Xd ?_;have I4:Inv X pins σ H3 { s3 with heap:=s3.heap.push { cls:=.type "slice",data:=.fields #[vl,vu,.none] } }:=I3.kept (t':=s3.toks) fun b ob q=>Xh _ q
 obtain⟨T,id,hT,ht,hg⟩:=hr pins { s3 with heap:=s3.heap.push { cls:=.type "slice",data:=.fields #[vl,vu,.none] } } σ H3 x v vl vu l u s3.heap.objs.size Q I4 r1 (Heap.IsSliceOf.new ..) pl pu q3
 show wpAny (model X.prog X.w) X.A (subscriptTail e (.Slice lo hi none p2) v (.ref s3.heap.objs.size)) (EP X pins σ Q) X.xe { s3 with heap:=s3.heap.push { cls:=.type "slice",data:=.fields #[vl,vu,.none] } }
 exact tail_any (ops:=[.ref s3.heap.objs.size,v]) ht hT hg (by with_unfolding_all rfl)
def jdh (xs:List V) (lo hi:Option Int):List V:=(xs.drop (HT.sIx xs.length 0 lo)).take (HT.sIx xs.length xs.length hi-HT.sIx xs.length 0 lo)
theorem QR (xs:List V) (lo hi:Option Int):(jdh xs lo hi).length<=xs.length:=by
 unfold jdh;rw[wx,List.length_drop];omega
def jiP (K:W.Frag):V->Option Int->Option Int->Hp->VK->Prop:=fun x lo hi H Q=>∃ a xs,x=.ref a/\SqT K H a xs /\
 ¬ (HT.sIx xs.length 0 lo=0/\HT.sIx xs.length xs.length hi=xs.length)/\∀ p,H p=none->Q (.ref p) (upd H p (.tup (jdh xs lo hi)))
theorem jgC:SlR X (jiP X.K):=by
 intro pins s σ H x v vl vu lo hi sl Q I rx hs pl pu h;obtain⟨a,xs,rfl,hx,hw,q⟩:=h;cases rx;obtain⟨its,r,ht,hz⟩:=I.tuple hx;have hlen:its.toArray.size=xs.length:=by rw[Xs]; exact r.length.symm
 refine⟨"tuple",_,PyProof.Rows.slot_tuple_getitem.lookup,ht.typeIs,?_⟩;refine HT.getItem_tuple_cut ht hs pl pu (by rw[hlen]; exact hw) ?_ (by rw[hlen]; exact hz);rw[hlen];refine⟨.ref s.heap.objs.size,_,I.laid (t':=s.toks) (o:=.tup (jdh xs lo hi)) (fun b ob q=>Xh _ q) (Xm _) ?_,rfl,q _ (I.hok.fresh (Xm _))⟩;exact⟨we (QR xs lo hi) hz,_,(r.drop (HT.sIx xs.length 0 lo)).take (HT.sIx xs.length xs.length hi-HT.sIx xs.length 0 lo),TupO.new _ _⟩
def jh3 (K:W.Frag):R2:=fun x y H Q=>∃ a b xs ys,x=.ref a/\y=.ref b/\SqT K H a xs/\SqT K H b ys/\xs≠[]/\xs.length+ys.length<=sizeLine /\
 (ys=[]->Q (.ref a) H)/\(ys≠[]->∀ p,H p=none->Q (.ref p) (upd H p (.tup (xs++ys))))
theorem Vals.nil_iff (r:Vals xs us):us=[] ↔ xs=[]:=by
 cases r with
 | nil=>simp
 | cons _ _=>simp
theorem jfc:OpR X (binaryOp .Add) (jh3 X.K):=by
 intro pins s σ H x y v u Q I rx ry h;obtain⟨a,b,xs,ys,rfl,rfl,ha,hb,hx,hz,q1,q2⟩:=h;cases rx;cases ry;obtain⟨its,r1,p1,_⟩:=I.tuple ha;obtain⟨its2,r2,p2,_⟩:=I.tuple hb;refine HT.cat_tup p1 p2 (fun z=>hx (r1.nil_iff.mp z)) (fun z=>⟨.ref a,H,I,rfl,q1 (r2.nil_iff.mp z)⟩) (fun z=>?_) (by rw[<- r1.length,<- r2.length]; exact hz);refine⟨.ref s.heap.objs.size,_,I.laid (t':=s.toks) (o:=.tup (xs++ys)) (fun b ob q=>Xh _ q) (Xm _) ?_,rfl,q2 (fun w=>z (r2.nil_iff.mpr w)) _ (I.hok.fresh (Xm _))⟩;exact⟨by rw[Xt]; exact hz,_,r1.append r2,TupO.new _ _⟩
end
def ixN (n:Nat) (i:Int):Option Nat:=if 0<=i then (if i<n then some i.toNat else none) else if -(n:Int)<=i then some (i+n).toNat else none
def atI (xs:List α) (i:Int):Option α:=(ixN xs.length i).bind fun j=>xs[j]?
theorem Yn {i:Int}{j:Nat} (h:ixN n i=some j):seqIndex? i n=some j/\j<n/\-(n:Int)<=i/\i<n:=by
 unfold ixN at h;by_cases h0:0<=i
 ·rw[if_pos h0] at h;by_cases h1:i<n
  ·rw[if_pos h1] at h;have e:i.toNat=j:=Option.some.inj h;exact⟨by rw[seqIndex_of h0 h1,e],by omega,by omega,h1⟩
  ·rw[if_neg h1] at h; cases h
 ·rw[if_neg h0] at h;by_cases h1:-(n:Int)<=i
  ·rw[if_pos h1] at h;have e:(i+n).toNat=j:=Option.some.inj h;exact⟨by rw[seqIndex_neg (by omega) h1,e],by omega,h1,by omega⟩
  ·rw[if_neg h1] at h; cases h
theorem jba {xs:List α}{i:Int}{v:α} (h:atI xs i=some v):∃ j,seqIndex? i xs.length=some j/\xs[j]?=some v/\j<xs.length/\-(xs.length:Int)<=i/\i<xs.length:=by
 unfold atI at h;cases e:ixN xs.length i with
 | none=>rw[e] at h; cases h
 | some j=>
  rw[e] at h;obtain⟨h1,h2,h3,h4⟩:=Yn e;exact⟨j,h1,h,h2,h3,h4⟩
theorem jfd {xs:List α}{j:Nat}{v:α} (h:xs[j]?=some v):atI xs (j:Int)=some v:=by
 have hj:j<xs.length:=(List.getElem?_eq_some_iff.mp h).1;have e:ixN xs.length (j:Int)=some j:=by
  unfold ixN;rw[if_pos (by omega),if_pos (by omega)]; simp
 unfold atI; rw[e]; exact h
theorem jdi (xs:List α) (v:α):atI (xs++[v]) (-1)=some v:=by
 have hl:(xs++[v]).length=xs.length+1:=by simp
 have e:ixN (xs++[v]).length (-1)=some xs.length:=by
  unfold ixN;rw[hl,if_neg (by decide),if_pos (by omega)];congr 1;omega
 unfold atI;rw[e];show (xs++[v])[xs.length]?=some v;simp
def jfe (b:Expr):Prop:=∀ o i,subscripted b false o i=operate [o,i] (getItem o i)
def IxR (X:Cx) (r:R2):Prop:=
 ∀ (value slice:Expr) (pins:List (Addr×Obj)) (s:Shared) (σ:St) (H:Hp) (x y:V) (v u:Value) (Q:VK),Inv X pins σ H s->RelV x v->RelV y u->r x y H Q ->
  subscripted slice false v u=operate [v,u] (getItem v u)->wpAny (model X.prog X.w) X.A (subscriptTail value slice v u) (EP X pins σ Q) X.xe s
def MtR (X:Cx) (id:String) (r:V->List V->Hp->VK->Prop):Prop:=
 ∀ (pins:List (Addr×Obj)) (s:Shared) (σ:St) (H:Hp) (x:V) (xs:List V) (v:Value) (us:List Value) (Q:VK),Inv X pins σ H s->RelV x v->Vals xs us->r x xs H Q ->
  wpAny (model X.prog X.w) X.A (call (.builtin id) (v::us)) (EP X pins σ Q) X.xe s
section
variable {a b:Expr} 
theorem qS {r:R2} (hr:IxR X r) (ha:PE X a ta) (hb:PE X b tb) (hs:jfe b):PE X (.Subscript a b pos) (tOp r ta tb):=by
 intro pins s σ H Q I h;exact Subscript_ (jhZ ha hb I h fun v u s2 x y H2 I2 rx ry q=>hr a b pins s2 σ H2 x y v u Q I2 rx ry q (hs _ _))
def jh4 (K:W.Frag):R2:=fun x y H Q=>∃ p xs i v,x=.ref p/\y=.int i/\SqL K H p xs/\atI xs i=some v/\Q v H
def jiE (K:W.Frag):R2:=fun x y H Q=>∃ p xs i v,x=.ref p/\y=.int i/\SqT K H p xs/\atI xs i=some v/\Q v H
theorem kS:IxR X (jh4 X.K):=by
 intro value slice pins s σ H x y v u Q I rx ry h hs;obtain⟨p,xs,i,z,rfl,rfl,hq,he,q⟩:=h;cases rx;obtain⟨t,rfl⟩:=ry;obtain⟨its,r,pl,hz⟩:=I.list hq;obtain⟨j,h1,h2,h3,h4,h5⟩:=jba he;obtain⟨w,ew,rw'⟩:=r.get h2;have hl:=r.length;have hn:=Y6;have fin:EP X pins σ Q w s:=⟨z,H,I,rw',q⟩;by_cases h0:0<=i
 ·have hj:i.toNat=j:=by
   rw[seqIndex_of h0 h5] at h1;exact Option.some.inj h1
  exact item_listR pl.isList h0 (by omega) (by rw[hj]; simpa using ew) fin hs
 ·have hj:(i+(its.toArray.size:Int)).toNat=j:=by
   rw[seqIndex_neg (by omega) h4] at h1;rw[Xs,<- hl];exact Option.some.inj h1
  exact subscriptTail_builtinR (x:=w) pl.isList.typeIs slot_list_getitem.lookup
   (wpAny_getItem_list_neg (Q:=fun r s'=>r=w/\EP X pins σ Q r s') pl.isList (by omega) (by rw[Xs] <;> omega) (by omega) (by rw[hj]; simpa using ew) ⟨rfl,fin⟩) hs
theorem zd:IxR X (jiE X.K):=by
 intro value slice pins s σ H x y v u Q I rx ry h hs;obtain⟨p,xs,i,z,rfl,rfl,hq,he,q⟩:=h;cases rx;obtain⟨t,rfl⟩:=ry;obtain⟨its,r,pl,hz⟩:=I.tuple hq;obtain⟨j,h1,h2,h3,h4,h5⟩:=jba he;obtain⟨w,ew,rw'⟩:=r.get h2;have hl:=r.length;have hn:=Y6;have fin:EP X pins σ Q w s:=⟨z,H,I,rw',q⟩;exact subscriptTail_builtinR (x:=w) pl.typeIs slot_tuple_getitem.lookup
  (getItem_tuple (j:=j) (Q:=fun r s'=>r=w/\EP X pins σ Q r s') pl (by omega) (by omega) (by rw[Xs,<- hl]; exact h1) (by simpa using ew) ⟨rfl,fin⟩) hs
theorem ZX (its:List Value) (n j:Nat) (u:Value):Obj.mapSeq (·.setIfInBounds j u) { cls:=.type "list",data:=.seq its.toArray n }={ cls:=.type "list",data:=.seq (its.set j u).toArray n }:=by
 simp[Obj.mapSeq]
theorem Inv.lst {p:Addr} (I:Inv X pins σ H s) (h:H p=some (.lst xs)) :
  ∃ (its:List Value) (n:Nat),Vals xs its/\s.heap.get? p=some { cls:=.type "list",data:=.seq its.toArray n }/\xs.length<=sizeLine:=by
 obtain⟨z,its,n,r,e⟩:=I.hok p _ h;exact⟨its,n,r,e,z⟩
theorem Inv.lstUpd {p:Addr}{n':Nat}{f:Obj->Obj} (I:Inv X pins σ H s) (h:H p=some (.lst xs))
  (ho:s.heap.get? p=some { cls:=.type "list",data:=.seq its.toArray n }) (hf:f { cls:=.type "list",data:=.seq its.toArray n }={ cls:=.type "list",data:=.seq its'.toArray n' }) (r:Vals ys its') (hz:ys.length<=sizeLine) (t:Nat) :
  Inv X pins σ (upd H p (.lst ys)) { s with heap:=s.heap.update p f,toks:=t }:=by
 have e:(s.heap.update p f).get? p=some { cls:=.type "list",data:=.seq its'.toArray n' }:=by
  rw[Heap.get?_update_self f ho (by rw[hf] <;> rfl),hf]
 refine I.write (x:=p) (e:=p) (by rw[h]; trivial) (.inl rfl) (fun b u hb q=>(Heap.get?_update_other _ _ (Ne.symm hb)).trans q) ⟨_,e⟩ ?_;exact⟨hz,its',n',r,e⟩
def jdj:V->V->V->Hp->(Hp->Prop)->Prop:=fun o i v H Q=>∃ p xs k j,o=.ref p/\i=.int k/\H p=some (.lst xs)/\ixN xs.length k=some j/\Q (upd H p (.lst (xs.set j v)))
theorem U8:jiB X jdj:=by
 intro pins s σ H o i v ov iv u Q I ro ri rv h;obtain⟨p,xs,k,j,rfl,rfl,hp,hj,q⟩:=h;cases ro;obtain⟨t,rfl⟩:=ri;obtain⟨its,n,r,ho,hz⟩:=I.lst hp;obtain⟨h1,h2,h3,h4⟩:=Yn hj;have hl:=r.length;have hn:=Y6;have I':Inv X pins σ (upd H p (.lst (xs.set j v))) { s with heap:=s.heap.update p (Obj.mapSeq (·.setIfInBounds j u)) }:=
  I.lstUpd hp ho (ZX its n j u) (r.set rv j) (by rw[List.length_set]; exact hz) s.toks
 by_cases h0:0<=k
 ·have hk:k.toNat=j:=by
   rw[seqIndex_of h0 h4] at h1;exact Option.some.inj h1
  exact W.ki_setAt ho h0 (by omega) (by rw[Xs,<- hl]; exact h4) (by rw[hk]; exact ⟨_,I',q⟩)
 ·have hk:(k+(its.toArray.size:Int)).toNat=j:=by
   rw[seqIndex_neg (by omega) h3] at h1;rw[Xs,<- hl];exact Option.some.inj h1
  exact W.ki_setBack ho (by omega) (by rw[Xs,<- hl]; exact h3) (by omega) (by rw[hk]; exact ⟨_,I',q⟩)
theorem WA (lo hi:Option Int) (n:Nat):(sliceBounds lo hi none n).1=((HT.sIx n 0 lo:Nat):Int)/\(sliceBounds lo hi none n).2.1=((HT.sIx n n hi:Nat):Int)/\(sliceBounds lo hi none n).2.2=1:=by
 refine⟨?_,?_,rfl⟩
 ·cases lo with
  | none=>simp[sliceBounds,HT.sIx]
  | some i=>
   simp only[sliceBounds,HT.sIx,Option.getD_none,show (1:Int) > 0 by decide,if_true];by_cases h:i<0
   ·simp only[h,if_true] <;> omega
   ·simp only[h,if_false] <;> omega
 ·cases hi with
  | none=>simp[sliceBounds,HT.sIx]
  | some i=>
   simp only[sliceBounds,HT.sIx,Option.getD_none,show (1:Int) > 0 by decide,if_true];by_cases h:i<0
   ·simp only[h,if_true] <;> omega
   ·simp only[h,if_false] <;> omega
theorem U9 (its:List Value) (lo hi:Option Int):slicePick its.toArray lo hi none=((its.drop (HT.sIx its.length 0 lo)).take (HT.sIx its.length its.length hi-HT.sIx its.length 0 lo)).toArray:=by
 obtain⟨h1,h2,h3⟩:=WA lo hi its.toArray.size;unfold slicePick;rw[h1,h2,h3];simp only[sliceRange_one,pick_run,Xs] <;> rfl
def jhR (K:W.Frag):V->Option Int->Option Int->Hp->VK->Prop:=fun x lo hi H Q=>∃ a xs,x=.ref a/\SqL K H a xs/\∀ p,H p=none->Q (.ref p) (upd H p (.lst (jdh xs lo hi)))
theorem jbb:SlR X (jhR X.K):=by
 intro pins s σ H x v vl vu lo hi sl Q I rx hs pl pu h;obtain⟨a,xs,rfl,hx,q⟩:=h;cases rx;obtain⟨its,r,ht,hz⟩:=I.list hx;have hlen:=r.length;refine⟨"list",_,slot_list_getitem.lookup,ht.isList.typeIs,?_⟩;refine wpAny_getItem_list_slice ht.isList hs pl pu .none (by simp) ?_ (by rw[Xs] <;> omega);rw[U9,<- hlen];refine⟨.ref s.heap.objs.size,_,I.laid (t':=s.toks) (o:=.lst (jdh xs lo hi)) (fun b ob q=>Xh _ q) (Xm _) ?_,rfl,q _ (I.hok.fresh (Xm _))⟩;exact⟨we (QR xs lo hi) hz,_,0,(r.drop (HT.sIx xs.length 0 lo)).take (HT.sIx xs.length xs.length hi-HT.sIx xs.length 0 lo),XD _ rfl⟩
def WB:V->Bool
 | .non=>true
 | .bl _=>true
 | .int _=>true
 | .str _=>true
 | _=>false
def eqV:V->V->Bool
 | .non,.non=>true
 | .bl a,.bl b=>a==b
 | .bl a,.int b=>(if a then 1 else 0)==b
 | .int a,.bl b=>a==(if b then 1 else 0)
 | .int a,.int b=>a==b
 | .str a,.str b=>a==b
 | _,_=>false
theorem jgD {y x:V}{v:Value} (ry:RelV y u) (rx:RelV x v) (fy:WB y=true) (fx:WB x=true):SeqAt.EqAt A s u v (eqV y x):=by
 cases y with
 | non=>
  cases ry;cases x with
  | non=>cases rx; exact SeqAt.EqAt.same _
  | bl b=>cases rx; exact SeqAt.EqAt.none_bool b
  | int b=>obtain⟨t,rfl⟩:=rx; exact SeqAt.EqAt.none_int b t
  | str b=>obtain⟨t,rfl⟩:=rx; exact SeqAt.EqAt.none_str b t
  | _=>exact absurd (show false=true from fx) Xw
 | bl a=>
  cases ry;cases x with
  | non=>cases rx; exact SeqAt.EqAt.bool_none a
  | bl b=>cases rx; exact SeqAt.EqAt.bool_bool a b
  | int b=>obtain⟨t,rfl⟩:=rx; exact SeqAt.EqAt.bool_int a b t
  | str b=>obtain⟨t,rfl⟩:=rx; exact SeqAt.EqAt.bool_str a b t
  | _=>exact absurd (show false=true from fx) Xw
 | int a=>
  obtain⟨t',rfl⟩:=ry;cases x with
  | non=>cases rx; exact SeqAt.EqAt.int_none a t'
  | bl b=>cases rx; exact SeqAt.EqAt.int_bool a t' b
  | int b=>obtain⟨t,rfl⟩:=rx; exact SeqAt.EqAt.int_int a t' b t
  | str b=>obtain⟨t,rfl⟩:=rx; exact SeqAt.EqAt.int_str a t' b t
  | _=>exact absurd (show false=true from fx) Xw
 | str a=>
  obtain⟨t',rfl⟩:=ry;cases x with
  | non=>cases rx; exact SeqAt.EqAt.str_none a t'
  | bl b=>cases rx; exact SeqAt.EqAt.str_bool a t' b
  | int b=>obtain⟨t,rfl⟩:=rx; exact SeqAt.EqAt.str_int a t' b t
  | str b=>obtain⟨t,rfl⟩:=rx; exact SeqAt.EqAt.str_str a t' b t
  | _=>exact absurd (show false=true from fx) Xw
 | _=>exact absurd (show false=true from fy) Xw
theorem jQ:Jq X (.builtin "len") (fun xs H Q=>∃ p ys,xs=[.ref p]/\(SqL X.K H p ys \/ SqT X.K H p ys)/\Q (.int ys.length) H):=by
 intro pins s σ H xs us Q I r h;obtain⟨p,ys,rfl,hq,q⟩:=h;obtain⟨u,rfl,rx⟩:=Ux r;cases rx;have hn:=Y6;rcases hq with hq | hq
 ·obtain⟨its,r',pl,hz⟩:=I.list hq;have hlen:=r'.length;exact Calls.call_len_list pl.isList (by simp only[Xs] <;> omega) ⟨.int ys.length,H,I.tok _,⟨s.toks+1,by rw[Xs,hlen]⟩,q⟩
 ·obtain⟨its,r',pl,hz⟩:=I.tuple hq;have hlen:=r'.length;exact len_tuple pl (by simp only[Xs] <;> omega) ⟨.int ys.length,H,I.tok _,⟨s.toks+1,by rw[Xs,hlen]⟩,q⟩
theorem qX:Jq X (.type "list") (fun xs H Q=>∃ p ys,xs=[.ref p]/\(SqL X.K H p ys \/ SqT X.K H p ys)/\∀ l,H l=none->Q (.ref l) (upd H l (.lst ys))):=by
 intro pins s σ H xs us Q I r h;obtain⟨p,ys,rfl,hq,q⟩:=h;obtain⟨u,rfl,rx⟩:=Ux r;cases rx;have fin:∀ (its:List Value),Vals ys its->ys.length<=sizeLine->∀ (h':Heap) (c':Nat),(∀ b o',s.heap.get? b=some o'->h'.get? b=some o') ->
   h'.get? s.heap.objs.size=some { cls:=.type "list",dict:=none,data:=.seq its.toArray c',slots:=#[] }->EP X pins σ Q (.ref s.heap.objs.size) { s with heap:=h' }:=fun its r' hz h' c' kp e=>
  ⟨.ref s.heap.objs.size,_,I.laid (t':=s.toks) kp (Xm _) (show ObjOk X.prog X.w _ h' _ (.lst ys) from ⟨hz,its,c',r',e⟩),rfl,q _ (I.hok.fresh (Xm _))⟩
 rcases hq with hq | hq
 ·obtain⟨its,r',pl,hz⟩:=I.list hq;have hlen:=r'.length;obtain⟨o,ho,hc,n,hd⟩:=pl.isList;exact call_list_seq p (.inl rfl) ho hc hd (fun h' c' kp e=>fin its r' hz h' c' kp e) (by simp only[Xs] <;> omega)
 ·obtain⟨its,r',pl,hz⟩:=I.tuple hq;have hlen:=r'.length;obtain⟨o,ho,hc,n,hd⟩:=pl;exact call_list_seq p (.inr rfl) ho hc hd (fun h' c' kp e=>fin its r' hz h' c' kp e) (by simp only[Xs] <;> omega)
theorem yX:Jq X (.type "tuple") (fun xs H Q=>∃ p ys,xs=[.ref p]/\((SqL X.K H p ys/\∀ l,H l=none->Q (.ref l) (upd H l (.tup ys))) \/ (SqT X.K H p ys/\Q (.ref p) H))):=by
 intro pins s σ H xs us Q I r h;obtain⟨p,ys,rfl,h⟩:=h;obtain⟨u,rfl,rx⟩:=Ux r;cases rx;rcases h with⟨hq,q⟩ | ⟨hq,q⟩
 ·obtain⟨its,r',pl,hz⟩:=I.list hq;have hlen:=r'.length;refine call_tuple_list pl.isList (fun h' kp=>?_) (by simp only[Xs] <;> omega);have I1:Inv X pins σ H { s with heap:=h' }:=I.kept (t':=s.toks) kp
  have I2:Inv X pins σ (upd H h'.objs.size (.tup ys)) { s with heap:=h'.push { cls:=.type "tuple",data:=.seq its.toArray } }:=
   I1.laid (t':=s.toks) (fun b o e=>Xh _ e) (Xm _) (show ObjOk X.prog X.w _ _ _ (.tup ys) from ⟨hz,its,r',TupO.new _ _⟩)
  exact⟨.ref h'.objs.size,_,I2,rfl,q _ (I1.hok.fresh (Xm _))⟩
 ·obtain⟨its,r',pl,hz⟩:=I.tuple hq;exact call_tuple_same pl ⟨.ref p,H,I,rfl,q⟩
def tyV (K:W.Frag) (T:String) (x:V) (H:Hp):Prop:=match x with
 | .str _=>T="str"
 | .int _=>T="int"
 | .ref p=>(T="list"/\∃ xs,SqL K H p xs) \/ (T="tuple"/\∃ o,K.lookup p=some o/\o.cls=.type "tuple"/\o.dict=none) \/
   (T="dict"/\((∃ kvs,H p=some (.dK kvs)) \/ ∃ fl kvs,H p=some (.dT fl kvs))) \/ (T="set"/\∃ S n,H p=some (.set S n))
 | _=>False
theorem jen {x:V}{v:Value} (I:Inv X pins σ H s) (r:RelV x v) (ty:tyV X.K T x H) :
  s.TypeIs v T/\∀ a,v=.ref a->∃ ob,s.heap.get? a=some ob/\ob.dict=none:=by
 cases x with
 | str z=>
  obtain⟨t,rfl⟩:=r;cases (show T="str" from ty);exact⟨typeIs_str s z t,fun _ e=>nomatch e⟩
 | int i=>
  obtain⟨t,rfl⟩:=r;cases (show T="int" from ty);exact⟨typeIs_int s i t,fun _ e=>nomatch e⟩
 | ref p=>
  cases r;rcases ty with⟨rfl,xs,hq⟩ | ⟨rfl,o,hk,hc,hd⟩ | ⟨rfl,hk⟩ | ⟨rfl,S,n,hk⟩
  ·obtain⟨its,_,pl,_⟩:=I.list hq;refine⟨pl.isList.typeIs,fun a e=>?_⟩;cases e;obtain⟨o,n,e,c,hd,_⟩:=pl;exact⟨o,e,hd⟩
  ·refine⟨⟨o,I.kIn p o hk,hc⟩,fun a e=>?_⟩;cases e;exact⟨o,I.kIn _ o hk,hd⟩
  ·have z:∃ o,s.heap.get? p=some o/\o.ExactDict:=by
    rcases hk with⟨kvs,hk⟩ | ⟨fl,kvs,hk⟩
    ·obtain⟨_,_,_,_,o,_,_,e,ex,_⟩:=I.hok p _ hk;exact⟨o,e,ex⟩
    ·obtain⟨_,_,_,_,o,_,_,e,ex,_⟩:=I.hok p _ hk;exact⟨o,e,ex⟩
   obtain⟨o,e,ex⟩:=z;refine⟨⟨o,e,ex.1⟩,fun a e2=>?_⟩;cases e2;exact⟨o,e,ex.2.1⟩
  ·obtain⟨o,_,_,_,e,ex,_⟩:=I.hok p _ hk;refine⟨⟨o,e,ex.1⟩,fun a e2=>?_⟩;cases e2;exact⟨o,e,ex.2.1⟩
 | _=>exact False.elim ty
def jhS (K:W.Frag) (T:String) (r:V->List V->Hp->VK->Prop) (to:TE):TE:=fun σ H Q=>to σ H fun x H1=>tyV K T x H1/\r x [] H1 Q
def tBM (K:W.Frag) (T:String) (r:V->List V->Hp->VK->Prop) (to:TE) (t:TA):TE:=fun σ H Q=>to σ H fun x H1=>tyV K T x H1/\t σ H1 fun xs H2=>r x xs H2 Q
variable {o:Expr}{to:TE}{t:TA}{id:String}{r:V->List V->Hp->VK->Prop}
theorem jgE (pa:PlainAttrs T) (slot:Slot T name id) (hty:typeOf (.builtin id)=pure (.type "method_descriptor")) (hm:MtR X id r) (ho:PE X o to)
  (hbase:attributeBase o name X.env (eval o X.env)=eval o X.env:=by rfl) (hline:(apos.endLine==cpos.line)=true:=by rfl):PE X (.Call (.Attribute o name apos) [] [] cpos) (jhS X.K T r to):=by
 intro pins s σ H Q I h;refine wpAny_Call_method0_late hbase hline (thn (ho pins s σ H _ I h) fun v s1 ⟨x,H1,I1,r1,ty,q1⟩=>?_);obtain⟨h1,h2⟩:=jen I1 r1 ty;exact⟨T,id,pa,slot,hty,h1,h2,Calls.callWith_builtin rfl (PySem.evalArgs_none (hm pins s1 σ H1 x [] v [] Q I1 r1 .nil q1))⟩
theorem zR (pa:PlainAttrs T) (slot:Slot T name id) (hty:typeOf (.builtin id)=pure (.type "method_descriptor")) (hm:MtR X id r) (ho:PE X o to) (ha:PA X (e::es) t)
  (hbase:attributeBase o name X.env (eval o X.env)=eval o X.env:=by rfl)
  (hfew:((backTo cpos (starEach (e::es) X.env)).all (fun x=>!x.1)&&(backToKw cpos (keywordEach [] X.env)).all (fun x=>x.1.isSome)
  &&decide ((e::es).length+([]:List Keyword).length+(if ([]:List Keyword).isEmpty then 0 else 1)<30))=true:=by rfl)
  (hline:(apos.endLine==cpos.line)=true:=by rfl) (hs:starEach (e::es) X.env=(false,eval e X.env)::starEach es X.env:=by rfl) (hplain:(backTo cpos (starEach es X.env)).any (·.1)=false:=by rfl) :
  PE X (.Call (.Attribute o name apos) (e::es) [] cpos) (tBM X.K T r to t):=by
 intro pins s σ H Q I h;refine wpAny_Call_method_late hbase hfew hline rfl (thn (ho pins s σ H _ I h) fun v s1 ⟨x,H1,I1,r1,ty,q1⟩=>?_);obtain⟨h1,h2⟩:=jen I1 r1 ty;refine⟨T,id,pa,slot,hty,h1,h2,?_⟩;have hA:=ha cpos pins s1 σ H1 _ I1 q1;rw[hs] at hA ⊢;refine Calls.callWith_builtin (by show (false||(backTo cpos (starEach es X.env)).any (·.1))=false; rw[hplain] <;> rfl) (Calls.evalArgs_plain ?_)
 exact thn hA fun us s2 ⟨vs,H2,I2,r2,q2⟩=>hm pins s2 σ H2 x vs v us Q I2 r1 r2 q2
end
def MtM (X:Cx) (id:String) (r:V->List V->Hp->VK->Prop):Prop:=
 ∀ (pins:List (Addr×Obj)) (s:Shared) (σ:St) (H:Hp) (x:V) (xs:List V) (v:Value) (us:List Value) (Q:VK),Inv X pins σ H s->RelV x v->Vals xs us->r x xs H Q ->
  wpAny (model X.prog X.w) X.A (call (.builtin id) (v::us)) (EP X pins σ Q) X.xe s
theorem Vals.one:∀ {x:V}{us:List Value},Vals [x] us->∃ u,us=[u]/\RelV x u
 | _,_,.cons r .nil=>⟨_,rfl,r⟩
theorem Vals.two:∀ {x y:V}{us:List Value},Vals [x,y] us->∃ u v,us=[u,v]/\RelV x u/\RelV y v
 | _,_,_,.cons r (.cons q .nil)=>⟨_,_,rfl,r,q⟩
theorem Vals.zero:∀ {us:List Value},Vals [] us->us=[]
 | _,.nil=>rfl
theorem Vals.eraseIdx:∀ {xs:List V}{us:List Value} (i:Nat),Vals xs us->Vals (xs.eraseIdx i) (us.eraseIdx i)
 | _,_,_,.nil=>.nil
 | _,_,0,.cons _ t=>t
 | _,_,i+1,.cons r t=>.cons r (Vals.eraseIdx i t)
theorem WC:∀ (l:List α) (i:Nat),(l.eraseIdx i).length<=l.length
 | [],_=>Xm _
 | _::_,0=>Nat.le_succ _
 | _::r,i+1=>Nat.succ_le_succ (WC r i)
section
variable {l b:Addr}{zs:List V}
theorem Inv.lset {f:Array Value->Array Value} (I:Inv X pins σ H s) (hH:H l=some (.lst xs))
  (e:s.heap.get? l=some { cls:=.type "list",data:=.seq its.toArray n }) (hf:f its.toArray=its'.toArray) (hv:Vals ys its') (hz:ys.length<=sizeLine) :
  Inv X pins σ (upd H l (.lst ys)) { s with heap:=s.heap.update l (Obj.mapSeq f),toks:=t' }:=by
 have q:=PySem.IsL.update e f;rw[hf] at q;refine I.write (x:=l) (e:=l) (by rw[hH]; exact trivial) (.inl rfl) (fun b' u hb hu=>(Heap.get?_update_other s.heap (Obj.mapSeq f) (Ne.symm hb)).trans hu) ⟨_,q⟩ ?_;exact⟨hz,its',_,hv,q⟩
theorem Inv.lnew (I:Inv X pins σ H s) (hv:Vals ys its) (hz:ys.length<=sizeLine) :
  Inv X pins σ (upd H s.heap.objs.size (.lst ys)) { s with heap:=s.heap.push { cls:=.type "list",data:=.seq its.toArray },toks:=t' }:=
 I.laid (fun _ _ q=>Xh _ q) (Xm _) ⟨hz,its,0,hv,XD _ rfl⟩
theorem Inv.fresh (I:Inv X pins σ H s):H s.heap.objs.size=none:=I.hok.fresh (Xm _)
theorem Inv.lstM (I:Inv X pins σ H s) (hH:H l=some (.lst xs)):xs.length<=sizeLine/\∃ (its:List Value) (n:Nat),Vals xs its/\xs.length=its.length/\s.heap.get? l=some { cls:=.type "list",data:=.seq its.toArray n }:=by
 obtain⟨z,its,n,r,e⟩:=I.hok l _ hH;exact⟨z,its,n,r,r.length,e⟩
end
section
def Qa:V->List V->Hp->VK->Prop:=fun x vs H Q=>∃ l xs y,x=.ref l/\vs=[y]/\H l=some (.lst xs)/\xs.length<sizeLine/\Q .non (upd H l (.lst (xs++[y])))
theorem kJ:MtM X "list.append" Qa:=by
 intro pins s σ H x vs v us Q I rx rv h;obtain⟨l,xs,y,rfl,rfl,hH,hz,q⟩:=h;cases rx;obtain⟨u,rfl,ru⟩:=rv.one;obtain⟨z,its,n,r,hl,e⟩:=I.lstM hH;refine call_meets F.slot_list_append ⟨_,e,rfl⟩ F.entry_list_append (F.args_list_append_2 _ _) (PySem.list_append l its.toArray n u (by rw[Xs]; omega)) ⟨e,?_⟩;refine⟨.non,_,I.lset (its':=its++[u]) hH e (by simp) (r.append (.cons ru .nil)) ?_,rfl,q⟩;rw[Xt,wq];omega
def jeo:V->List V->Hp->VK->Prop:=fun x vs H Q=>∃ l xs i k y,x=.ref l/\vs=[.int i]/\H l=some (.lst xs)/\-(2 ^ 63)<=i/\i<2 ^ 63/\seqIndex? i xs.length=some k/\xs[k]?=some y/\Q y (upd H l (.lst (xs.eraseIdx k)))
theorem Y8:MtM X "list.pop" jeo:=by
 intro pins s σ H x vs v us Q I rx rv h;obtain⟨l,xs,i,k,y,rfl,rfl,hH,h1,h2,hk,hy,q⟩:=h;cases rx;obtain⟨u,rfl,ru⟩:=rv.one;obtain⟨t,rfl⟩:=ru;obtain⟨z,its,n,r,hl,e⟩:=I.lstM hH;obtain⟨w,hw,rw'⟩:=r.get hy;refine call_meets F.slot_list_pop ⟨_,e,rfl⟩ F.entry_list_pop (F.args_list_pop_2 _ _)
  (MeetsSeq.list_pop_at l its.toArray n i t k w (fitsIndex_both h1 h2) (by rw[Xs,<- hl]; exact hk) (by rw[<- Array.getElem?_toList]; exact hw) (by rw[Xs]; omega)) ⟨e,?_⟩
 refine⟨y,_,I.lset (its':=its.eraseIdx k) hH e ?_ (r.eraseIdx k) ?_,rw',q⟩
 ·show its.toArray.eraseIdxIfInBounds k=(its.eraseIdx k).toArray;rw[List.eraseIdxIfInBounds_toArray]
 ·have:=WC xs k;omega
def jiF:R2:=fun x y H Q=>∃ l b xs zs,x=.ref l/\y=.ref b/\H l=some (.lst xs)/\H b=some (.lst zs)/\xs.length+zs.length<=sizeLine/\∀ p,H p=none->Q (.ref p) (upd H p (.lst (xs++zs)))
theorem Y9:OpR X (binaryOp .Add) jiF:=by
 intro pins s σ H x y v u Q I rx ry h;obtain⟨l,b,xs,zs,rfl,rfl,hH,hB,hz,q⟩:=h;cases rx;cases ry;obtain⟨z,its,n,r,hl,e⟩:=I.lstM hH;obtain⟨z2,its2,n2,r2,hl2,e2⟩:=I.lstM hB;refine PySem.P.add_list e e2 ?_ (by rw[Xs,Xs]; omega);have ea:its.toArray++its2.toArray=(its++its2).toArray:=by simp
 rw[ea];exact⟨.ref _,_,I.lnew (t':=s.toks) (r.append r2) (by rw[Xt]; omega),rfl,q _ I.fresh⟩
end
end L2
variable {tl th:L2.TO}
namespace Att
open PySem PySem.W PySem.Calls PyProof.Rows
theorem QS {P:Params} :∀ (ns:List Int) (vs:List Value),WellAll P h vs (ns.map WData.int)->IntsAre vs ns:=by
 intro ns
 induction ns with
 | nil=>
  intro vs w;rw[List.map_nil] at w;cases w;exact .nil
 | cons n ns ih=>
  intro vs w;rw[List.map_cons] at w;cases w with
  | cons a b=>
   cases a;exact .cons _ _ (ih _ b)
theorem jbc {l:OpenLaw} (hn:l.most=some n) {P:Params}{args:List WData}{vals:List Value}
  (hpre:l.row.toRowW.claim.pre args=true) (hwl:WellAll P h vals args) :
  ∃ a vs ns,vals=[Value.ref a]/\args=[WData.list (ns.map WData.int)]/\h.get? a=some { cls:=.type "list",data:=.seq vs.toArray }/\IntsAre vs ns/\ns.length<=n:=by
 have hsh:WShape.hasAll [] args [.list .int]=true:=(pre_splitW hpre).1;have hc:l.pre.holds [] { args:=args }=true:=(pre_splitW hpre).2;obtain⟨d,r,rfl,h1,h2⟩:=hasAllW_cons hsh;obtain rfl:=hasAllW_nil h2;obtain⟨xs,rfl,h3⟩:=hasW_list h1;obtain⟨ns,rfl⟩:=items_int h3;have hlen:ns.length<=n:=by
  unfold OpenLaw.pre at hc;have h4:(WTm.not (.lt (.lit (.int (n:Int))) (.len (.arg 0)))).holds [] { args:=[.list (ns.map .int)] }=true:=by
   have h4:=(holds_andW hc).1;rw[hn] at h4;exact h4
  have h5:=condW_of h4 (w_not (w_lt w_lit (w_len_list (w_arg rfl))));rw[List.length_map] at h5;refine Nat.le_of_not_lt fun q=>?_;have q':(n:Int)<((ns.length:Nat):Int):=by omega
  first
   | (rw[decide_eq_true q'] at h5; exact absurd h5 (by decide))
   | (simp at h5; omega)
 cases hwl with
 | cons w1 w2=>
  cases w2;cases w1 with
  | list ho hall=>exact ⟨_,_,ns,rfl,rfl,ho,QS ns _ hall,hlen⟩
theorem jbd (l:OpenLaw) (args:List WData):l.row.toRowW.claim.post args (.bool true) args=true:=
 postW_of (r:=l.row.toRowW) (X:=(true==true))
  (show WShape.has [] (.bool true) .bool=true by first | rfl | decide | simp[WShape.has,WShape.arms,WShape.armsAll])
  (show (WTm.eq .res (.lit (.bool true))).value [] { args:=args,res:=some (.bool true),after:=args }=some (.bool (true==true)) from w_eq_bool (w_res rfl) w_lit) rfl
theorem attach_call {l:OpenLaw}{q:Program}{d:DefRec}
  (hn:l.most=some n) (hdf:d.params.defaults=[])
  (call:∀ (w:World) (s₀ s₁:Shared) (mg mb:Str->Option Value) (fa:Addr) (o:Obj) (pm cd doc:Value) (a:Addr) (vs:List Value) (ns:List Int),
   Ground q loose [] XP w s₀ mg mb s₁.heap->YP w s₁.heap ->
   s₁.heap.get? fa=some o->o.data=.func (docDef d.name d.params d.body d.scope pm cd doc)->s₁.heap.CodeRec cd d.name->mg d.name=some (.ref fa) ->
   s₁.heap.get? a=some { cls:=.type "list",data:=.seq vs.toArray }->IntsAre vs ns->ns.length<=n->s₁.gens=#[] ->
   codeAny (model l.prog w) callerA (.call (.ref fa) ⟨[.ref a],[]⟩) (fun r s'=>r=.ok (.ret (.bool true))/\OldK s₁.heap s'.heap/\s'.os=s₁.os/\AllBare s'.gens) s₁) :
  WalkO q loose XP YP l.row.toRowW d [] (fun f vs=>PySem.call f vs):=by
 intro w s₀ s₁ mg mb G Y fa o pm cd doc dV kV ho hd hcd hD hmg hg args vals as hpre hlay hrd hwl hlo;obtain rfl:dV=.none:=Dflts.none hD hdf;obtain rfl:kV=.none:=Dflts.noKw hD;obtain⟨a,vs,ns,rfl,rfl,hobj,hints,hlen⟩:=jbc hn hpre hwl;refine enter_call (codeAny_mono (call w s₀ s₁ mg mb fa o pm cd doc a vs ns G Y ho (fd_plain hd) hcd hmg hobj hints hlen hg) fun r s' hq=>?_);obtain⟨rfl,h2,h3,h4⟩:=hq;exact⟨.inl ⟨.bool true,.bool true,[],rfl,fun _=>rfl,.bool true,jbd l _,fun _=>⟨List.Pairwise.nil,fun _ hm=>(nomatch hm)⟩⟩,h2,h3,h4⟩
end Att
namespace L2
open PySem PySem.Spec PyProof.Rows
theorem WD:∀ {vs:List Value}{ns:List Int},IntsAre vs ns->Vals (ns.map V.int) vs
 | _,_,.nil=>.nil
 | _,_,.cons n t h=>.cons ⟨t,rfl⟩ (WD h)
def jh5 (H:Hp):Prop:=∀ b,H b=none \/ ∃ o xs,H b=some (.frz o (.lst xs))
theorem jdk {P:Program}{mb:Str->Option Value}{CX:CXT}{k:Nat}{fa:Addr}{s₁:Shared} 
  (KX:K.In s₁.heap) (hns:s₁.heap.Ns mainGlobals mg) (hb:s₁.heap.Ns builtinsNs mb) (hbb:∀ x:Str,x≠"__name__"->mb x=bootBuiltins x) (hlim:s₁.heap.NoLimit) (hg:s₁.gens=#[])
  (ha:s₁.heap.get? a=some { cls:=.type "list",data:=.seq vs.toArray }) (hi:IntsAre vs ns) (hl:ns.length<=sizeLine) (hr:Room k callerA)
  (F:∀ base:Heap,K.In base->base.Ns mainGlobals mg->FnOk P w K mg base CX k fa fd [x] sp) (hbind:∀ (s:Shared) (u:Value),BindsTo s fd ⟨[u],[]⟩ [(x,u)])
  (hsp:∀ H:Hp,jh5 H->SqL K H a (ns.map V.int)->sp [.ref a] H (fun v _=>v=.bl true) fun _ _ _=>False)
  (hCX:∀ H e s',CX [] H s₁ (fun _ _ _=>False) e s'->False) :
  codeAny (model P w) callerA (.call (.ref fa) ⟨[.ref a],[]⟩) (fun r s'=>r=.ok (.ret (.bool true))/\OldK s₁.heap s'.heap/\s'.os=s₁.os/\AllBare s'.gens) s₁:=by
 have rv:=WD hi;have lenV:=hi.length;have core:∀ H:Hp,jh5 H->SqL K H a (ns.map V.int)->HOk P w H s₁.heap->(∀ b,H b≠none->b=a)->(H a≠none->K.lookup a=none) ->
   codeAny (model P w) callerA (.call (.ref fa) ⟨[.ref a],[]⟩) (fun r s'=>r=.ok (.ret (.bool true))/\OldK s₁.heap s'.heap/\s'.os=s₁.os/\AllBare s'.gens) s₁:=by
  intro H hO hS hok hA hK;have base_of:∀ {b:Addr}{o:Obj},s₁.heap.get? b=some o->H b=none->(jc3 s₁.heap H).get? b=some o:=fun e n=>jc4 e n;have noA:∀ {b:Addr}{o:Obj}{es:Array DictEntry}{ep:Nat},s₁.heap.get? b=some o->o.data=.dict es ep->H b=none:=fun {b o es ep} e d=>by
   cases q:H b with
   | none=>rfl
   | some u=>
    have e':b=a:=hA b (by rw[q]; simp);subst e';rw[ha] at e; cases e;have d':Data.seq vs.toArray _=Data.dict es ep:=d;cases d'
  have nsK:∀ {b:Addr}{m:Str->Option Value},s₁.heap.Ns b m->(jc3 s₁.heap H).Ns b m:=fun {b m} ⟨o,es,ep,e,d,r⟩=>⟨o,es,ep,base_of e (noA e d),d,r⟩;have hKb:K.In (jc3 s₁.heap H):=fun b o e=>base_of (KX b o e) (by
   cases q:H b with
   | none=>rfl
   | some u=>
    have e':b=a:=hA b (by rw[q]; simp);subst e';rw[hK (by rw[q]; simp)] at e; cases e)
  have hM:Mod K mg (jc3 s₁.heap H):=⟨hKb,nsK hns,⟨mb,nsK hb,hbb⟩,let ⟨mc,h1,h2⟩:=hlim; ⟨mc,nsK h1,h2⟩⟩;have e0:Env0 P w K mg (jc3 s₁.heap H) callerA [] s₁ H:=⟨rfl,hM,fun b o e=>jeZ e,Nat.le_of_eq (jaM _ _),trivial,fun b hb=>absurd (show b∈([]:List Addr) from hb) (by simp),hok,.of_eq hg⟩;refine codeAny_mono ((F _ hKb (nsK hns)).run callerA [] s₁ H ⟨[.ref a],[]⟩ [.ref a] [.ref a] _ _ hr e0 (hbind s₁ (.ref a)) (.cons rfl .nil) (hsp H hO hS)) fun r s' h=>?_;cases r with
  | error e=>exact (hCX H e s' h).elim
  | ok fl=>
   cases fl with
   | next=>exact False.elim h
   | brk=>exact False.elim h
   | cont=>exact False.elim h
   | ret u=>
    obtain⟨v,H',os,bare,un,hok',r',q⟩:=h;have q':v=.bl true:=q;subst q';obtain rfl:u=Value.bool true:=r';refine⟨rfl,OldK.of_keep fun b o e=>?_,os,bare⟩;cases q:H b with
    | none=>exact un.keep b o e q (by intro z; exact absurd (show b∈([]:List Addr) from z) (by simp)) (by simp)
    | some u=>
     rcases hO b with z | ⟨ob,xs,z⟩
     ·rw[q] at z; cases z
     ·have z2:=un.frzs b ob _ z;obtain⟨e1,_⟩:=hok b _ z;obtain⟨e2,_⟩:=hok' b _ z2;rw[e] at e1; cases e1;exact e2
 cases hk:K.lookup a with
 | some o=>
  have e:=KX a o hk;rw[ha] at e;cases e;refine core (fun _=>none) (fun _=>.inl rfl) (.inr ⟨_,vs.toArray,_,hk,rfl,rfl,rfl,by rw[Xs,lenV]; exact hl,by simpa using rv⟩) (fun b u z=>by have z':(none:Option HO)=some u:=z; cases z') (fun b z=>absurd rfl z) fun z=>absurd rfl z
 | none=>
  refine core (fun b=>if b=a then some (.frz { cls:=.type "list",data:=.seq vs.toArray } (.lst (ns.map V.int))) else none) (fun b=>?_) (.inl (.inr ⟨{ cls:=.type "list",data:=.seq vs.toArray },if_pos rfl⟩)) (fun b u z=>?_) (fun b z=>?_) fun _=>hk
  ·by_cases hb:b=a
   ·exact .inr ⟨_,_,if_pos hb⟩
   ·exact .inl (if_neg hb)
  ·by_cases hb:b=a
   ·have z':=(if_pos hb).symm.trans z;cases z';subst hb;exact⟨ha,by rw[Xr]; exact hl,vs,_,rv,ha⟩
   ·have z':=(if_neg hb).symm.trans z;cases z'
  ·by_cases hb:b=a
   ·exact hb
   ·exact absurd (if_neg hb) z
abbrev KOf (_:K.In h):W.Frag:=K
theorem walk_of {l:W.OpenLaw}{k:Nat}{q:Program}{d:DefRec}{K:Params->W.Frag}{CX:World->CXT}{sp:World->Sp} 
  (hn:l.most=some n) (hn2:n<=sizeLine) (hdf:d.params.defaults=[]) (hr:Room k callerA)
  (hY:∀ (w:World) (h:Heap),YP w h->(K w.params).In h)
  (F:∀ (w:World) (mg:Str->Option Value) (fa:Addr) (h:Heap),(K w.params).In h->h.Ns mainGlobals mg->mg d.name=some (.ref fa) ->
   ∃ fd:FuncData,(∀ (s:Shared) (u:Value),BindsTo s fd ⟨[u],[]⟩ [(x,u)]) /\
    ∀ base:Heap,(K w.params).In base->base.Ns mainGlobals mg->FnOk l.prog w (K w.params) mg base (CX w) k fa fd [x] (sp w))
  (hsp:∀ (w:World) (H:Hp) (a:Addr) (ns:List Int),ns.length<=n->jh5 H->SqL (K w.params) H a (ns.map V.int)->sp w [.ref a] H (fun v _=>v=.bl true) fun _ _ _=>False)
  (hCX:∀ (w:World) (H:Hp) (s:Shared) (e:Value) (s':Shared),CX w [] H s (fun _ _ _=>False) e s'->False) :
  W.WalkO q loose XP YP l.row.toRowW d [] (fun f vs=>PySem.call f vs):=by
 refine Att.attach_call hn hdf fun w s₀ s₁ mg mb fa o pm cd doc a vs ns G Y ho hd hcd hmg hobj hints hlen hg=>?_;have KX:=hY w _ Y;obtain⟨fd,hb,hF⟩:=F w mg fa _ KX G.T.g hmg;exact jdk KX G.T.g G.T.b G.T.builtins G.T.nolimit hg hobj hints (we hlen hn2) hr hF hb (fun H hO hS=>hsp w H a ns hlen hO hS) fun H e s'=>hCX w H s₁ e s'
end L2
/- THE LAST THEOREM (shape; LID,My.* are yours):
   My.Adr: a structure of the addresses that your layer names (classes,functions); My.Txt K t: a structure (Prop) of the equations over K;
   My.txt_mk:{K}{implicit addresses ..} (e1:nsIn K mainGlobals "law"=some (some (.ref f))) (e2:K.lookup f=some ⟨oc,od,.func (fnOf "law" "law" params body scope dV kV doc pm an cdv ct),sl⟩) (e3:codeIn K cdv "law"=true) ..:∃ t,My.Txt K t
set_option maxRecDepth 100000 in
set_option maxHeartbeats 0 in
theorem PySem.Challenge.cw_LID_holds :PySem.Challenge.rw_LID.Holds:=by
 w_on; o_law; k_head; (case hw=>w_witness2)
 k_fill
 refine L2.walk_of (l:=PySem.Challenge.rw_LID) (n:=63) (k:=40) (x:="script") (CX:=fun w=>..) (sp:=fun _=>My.sp_law) rfl (by decide) rfl ⟨rfl,by decide,by decide⟩ (fun w h Y=>W.kIn_of Y) ?F ?S ?C
 case F=>
  intro w mg fa h KX G hmg;have T:∃ t,My.Txt (L2.KOf KX) t:=by
   dsimp only[L2.KOf]                          -- K must stand as «<heap const> w.params» for k_is;refine' My.txt_mk ?e1 ?e2 ?e3 ..
   (case e1=>W.k_is)                    -- in the order: a name->its address->its object->its parts
   (case e2=>W.k_is)
   ..
  obtain⟨t,T⟩:=T;have e0:=hmg.symm.trans (W.mg_of KX G T.law);cases e0                                       -- fa is the law's own address;exact⟨_,fun s u=>.of_eq rfl,fun base kb nb=>My.law_fn T kb nb⟩     -- if «.of_eq rfl» comes too early: refine' ⟨_,?b,fun base kb nb=>My.law_fn T kb nb⟩; exact fun s u=>.of_eq rfl
 case S=>exact fun w H a ns hl hO hS=>..
 case C=>exact ..
(the tactic k_is has no namespace: write k_is) -/
namespace L2
open PySem PySem.Spec PyProof.Rows
def jH (s:Stmt) (j:Nat):Stmt:=match s with
 | .ClassDef _ _ _ body _ _ _ _ _ _ _=>body.getD j (.Pass ⟨0,0,0,0⟩)
 | _=>.Pass ⟨0,0,0,0⟩
def jZ (s:Stmt):Arguments:=match s with
 | .FunctionDef _ a _ _ _ _ _ _ _ _=>a
 | _=>{ posonlyargs:=[],args:=[],vararg:=none,kwonlyargs:=[],kw_defaults:=[],kwarg:=none,defaults:=[] }
def jW (s:Stmt):List Stmt:=match s with
 | .FunctionDef _ _ b _ _ _ _ _ _ _=>b
 | _=>[]
def jn (s:Stmt):Scope:=match s with
 | .FunctionDef _ _ _ _ _ _ sc _ _ _=>sc
 | _=>{ kind:=.function,names:=[],isGenerator:=false,isCoroutine:=false }
abbrev CX0:CXT:=fun _ _ _ _ _ _=>False
abbrev E0:XK:=fun _ _ _=>False
theorem jdl:QQ CX0 X E0:=fun _ _ _ _ _ _ _ h=>h.elim
structure Fun (K:W.Frag) (x qual:Str) (st:Stmt) (f:Addr) (fd:FuncData):Prop where
 ex:∃ (oc:Value) (od:Option Addr) (kV doc pm:Value) (an:Option Addr) (cdv ct:Value) (osl:Array (Option Value)),
  fd=W.fnOf x qual (jZ st) (jW st) (jn st) .none kV doc pm an cdv ct/\K.lookup f=some ⟨oc,od,.func fd,osl⟩/\W.codeIn K cdv qual=true
 kp:W.keepIn K (.ref f)=true
section
variable {P:Program} 
theorem Fun.ok {f:Addr}{k:Nat} (F:Fun K x qual st f fd) (S:FnScope N ps (jn st)) (len:∀ vs H Q E,sp vs H Q E->vs.length=ps.length)
  (hbody:∀ (cdv:Value) (A:Around) (outer:List Env) (s:Shared) (H:Hp) (vs:List V) (Q:VK) (E:XK),Room k (A.deeper (envOfC qual (jn st) s.heap.objs.size f cdv))->sp vs H Q E ->
   ∃ t,PSs (jfb CX0 P w K mg base N qual (jn st) f cdv A outer s H E).nox (jW st) t/\t { nx:=fun _ H'=>Q .non H',rt:=Q } (J_ N vs) H):FnOk P w K mg base CX0 (k+1) f fd ps sp:=by
 obtain⟨oc,od,kV,doc,pm,an,cdv,ct,osl,rfl,lk,hcd⟩:=F.ex;refine jh2 lk hcd S len fun A outer s H vs Q E hr hsp=>?_;obtain⟨t,h,q⟩:=hbody cdv A outer s H vs Q E hr hsp;exact⟨t,h.nox,q⟩
theorem Fun.binds {f:Addr} (F:Fun K x qual st f fd)
  (h:∀ (kV doc pm:Value) (an:Option Addr) (cdv ct:Value) (us:List Value),us.length=ps.length->bindArgs (W.fnOf x qual (jZ st) (jW st) (jn st) .none kV doc pm an cdv ct) ⟨us,[]⟩=pure (ps.zip us)):Binds K fd ps []:=by
 obtain⟨oc,od,kV,doc,pm,an,cdv,ct,osl,rfl,lk,hcd⟩:=F.ex;exact .all (h kV doc pm an cdv ct)
theorem km {f:Addr}{oc:Value}{kV doc pm ct:Value} (l:K.lookup f=some ⟨oc,od,.func (W.fnOf x qual (jZ st) (jW st) (jn st) .none kV doc pm an cdv ct),osl⟩)
  (c:W.codeIn K cdv qual=true) (k:W.keepIn K (.ref f)=true):Fun K x qual st f (W.fnOf x qual (jZ st) (jW st) (jn st) .none kV doc pm an cdv ct):=⟨⟨oc,od,kV,doc,pm,an,cdv,ct,osl,rfl,l,c⟩,k⟩
end
section
theorem pv (i:Nat) (hN:X.N[i]?=some x:=by rfl) (hv:Vis X.env.scope x:=by first | exact Or.inl rfl | exact Or.inr (Or.inl rfl) | exact Or.inr (Or.inr rfl)) (hd:(x==("__debug__":Str))=false:=by decide)
  (hcd:(x==("__classdict__":Str))=false:=by decide):PE X (.Name x pos) (Uv i):=jgs hN hv hd hcd
end
theorem jbe {A B:Prop} (h:B):if false=true then A else B:=by
 rw[if_neg Xw];exact h
theorem jbf {A B:Prop} (h:A):if true=true then A else B:=by
 rw[if_pos rfl];exact h
def Same (H H':Hp):Prop:=∀ b o,H b=some o->H' b=some o
theorem Same.refl (H:Hp):Same H H:=fun _ _ h=>h
theorem Same.trans {H2:Hp} (a:Same H H1) (b:Same H1 H2):Same H H2:=fun c o h=>b c o (a c o h)
theorem Same.free (e:Same H H') {l:Addr} (h:H' l=Option.none):H l=Option.none:=by
 cases q:H l with
 | none=>rfl
 | some o=>
  rw[e l o q] at h;cases h
theorem Same.seq (e:Same H H') (h:SqL K H a xs):SqL K H' a xs:=by
 rcases h with (h | ⟨o,h⟩) | h
 ·exact .inl (.inl (e _ _ h))
 ·exact .inl (.inr ⟨o,e _ _ h⟩)
 ·exact .inr h
end L2
namespace MB
open PySem
theorem ZY (x:Int):Builtin.bitNot (Builtin.bitNot x)=x:=by unfold Builtin.bitNot; omega
theorem and_nat (a b:Nat):Builtin.bitAnd (a:Int) (b:Int)=((a &&& b:Nat):Int):=by
 unfold Builtin.bitAnd;have h1:decide (0<=(a:Int))=true:=by simp
 have h2:decide (0<=(b:Int))=true:=by simp
 rw[h1,h2];simp
theorem or_nat (a b:Nat):Builtin.bitOr (a:Int) (b:Int)=((a ||| b:Nat):Int):=by
 unfold Builtin.bitOr Builtin.bitAnd;have h1:decide (0<=Builtin.bitNot (a:Int))=false:=by unfold Builtin.bitNot; simp; omega
 have h2:decide (0<=Builtin.bitNot (b:Int))=false:=by unfold Builtin.bitNot; simp; omega
 rw[h1,h2];simp only[ZY];simp
def setN (l:List Nat):Nat:=l.foldl (fun a t=>a ||| 2 ^ t) 0
theorem jbg (l:List Nat) (a i:Nat):(l.foldl (fun a t=>a ||| 2 ^ t) a).testBit i=(a.testBit i||decide (i∈l)):=by
 induction l generalizing a with
 | nil=>simp
 | cons t r ih=>
  rw[List.foldl_cons,ih,Nat.testBit_or,Nat.testBit_two_pow];by_cases h:t=i
  ·subst h; simp
  ·have h':¬ i=t:=fun e=>h e.symm;simp[h,h']
theorem setN_bit (l:List Nat) (i:Nat):(setN l).testBit i=decide (i∈l):=by
 unfold setN;rw[jbg];simp
theorem setN_eq {l:List Nat}{b:Nat} (hb:b<2 ^ n) (hl:∀ t∈l,t<n) (h:∀ t,t<n->(t∈l ↔ b.testBit t=true)):setN l=b:=by
 refine Nat.eq_of_testBit_eq fun i=>?_;rw[setN_bit];by_cases hi:i<n
 ·rw[Bool.eq_iff_iff]; simp; exact h i hi
 ·rw[Nat.testBit_lt_two_pow (Nat.lt_of_lt_of_le hb (Nat.pow_le_pow_right (by decide) (by omega)))];simp;exact fun z=>hi (hl i z)
theorem ZZ {b m:Nat} (hm:b<2 ^ m) (hmn:m<=n):(List.range m).filter (fun t=>b.testBit t)=(List.range n).filter (fun t=>b.testBit t):=by
 obtain⟨k,rfl⟩:=Nat.exists_eq_add_of_le hmn
 induction k with
 | zero=>rfl
 | succ k ih=>
  rw[show m+(k+1)=(m+k)+1 from rfl,List.range_succ,List.filter_append,<- ih (by omega)];have:b.testBit (m+k)=false:=Nat.testBit_lt_two_pow (Nat.lt_of_lt_of_le hm (Nat.pow_le_pow_right (by decide) (by omega)));simp[this]
theorem sum_bits (p:Nat->Bool):∀ n,(((List.range n).filter p).map fun i=>2 ^ i).sum<2 ^ n/\∀ t,t<n->((((List.range n).filter p).map fun i=>2 ^ i).sum).testBit t=p t
 | 0=>by simp
 | n+1=>by
  obtain⟨h1,h2⟩:=sum_bits p n;have e:(((List.range (n+1)).filter p).map fun i=>2 ^ i).sum=(((List.range n).filter p).map fun i=>2 ^ i).sum+(if p n=true then 2 ^ n else 0):=by
   rw[List.range_succ,List.filter_append,List.map_append,List.sum_append];cases hp:p n <;> simp[hp]
  rw[e];generalize (((List.range n).filter p).map fun i=>2 ^ i).sum=S at h1 h2;cases hp:p n with
  | false=>
   simp only[Bool.false_eq_true,if_false,Nat.add_zero];refine⟨by rw[Nat.pow_succ]; omega,fun t ht=>?_⟩;by_cases e2:t=n
   ·subst e2;rw[hp];exact Nat.testBit_lt_two_pow h1
   ·exact h2 t (by omega)
  | true=>
   simp only[if_true];refine⟨by rw[Nat.pow_succ]; omega,fun t ht=>?_⟩;rw[Nat.add_comm];by_cases e2:t=n
   ·subst e2;rw[hp,Nat.testBit_two_pow_add_eq,Nat.testBit_lt_two_pow h1];rfl
   ·rw[Nat.testBit_two_pow_add_gt (by omega)];exact h2 t (by omega)
theorem jff (b:Nat):b<2 ^ Builtin.Int.intBits (b:Int):=by
 have:=(PySem.intBits_le_iff (m:=Builtin.Int.intBits (b:Int)) (x:=(b:Int))).mp (Nat.le_refl _);simpa using this
theorem bits_le {b m:Nat} (h:b<2 ^ m):Builtin.Int.intBits (b:Int)<=m:=PySem.intBits_le_iff.mpr (by simpa using h)
theorem things_eq {b:Nat} (h:b<2 ^ n):(List.range (Builtin.Int.intBits (b:Int))).filter (fun t=>b.testBit t)=(List.range n).filter (fun t=>b.testBit t):=ZZ (jff b) (bits_le h)
end MB
namespace L2
open PySem PySem.Spec PyProof.Rows
theorem ane {a b:Nat} (h:a<b \/ b<a):@Ne Addr a b:=fun e=>by
 have e':(a:Nat)=b:=e;omega
def clo (env:Env):List (Str×NameKind)->List (Str×Addr)->List (Str×Addr)
 | [],acc=>acc
 | (n,k)::r,acc=>if k==.free then clo env r ((n,(env.cells.lookup n).getD 0)::acc) else clo env r acc
theorem JK (h:∀ x∈scope.names,x.2=.free->∃ c,env.cells.lookup x.1=some c):closureFor scope env=pure (clo env scope.names []):=by
 unfold closureFor;have key:∀ (l:List (Str×NameKind)) (acc:List (Str×Addr)),(∀ x∈l,x.2=.free->∃ c,env.cells.lookup x.1=some c) ->
   ∀ (f:Str×NameKind->List (Str×Addr)->Sem (ForInStep (List (Str×Addr)))),(∀ n k cs,f (n,k) cs=if (k==NameKind.free)=true then (do let a <- cellOf env n; pure (ForInStep.yield ((n,a)::cs))) else pure (ForInStep.yield cs)) ->
   forIn l acc f=(pure (clo env l acc):Sem (List (Str×Addr))):=by
  intro l
  induction l with
  | nil=>intro acc _ f _; rfl
  | cons x r ih=>
   intro acc hl f hf;obtain⟨n,k⟩:=x;rw[List.forIn_cons,hf];have ih':=fun acc'=>ih acc' (fun y hy=>hl y (Xe _ hy)) f hf;show _=pure (if (k==NameKind.free)=true then _ else _);by_cases hk:(k==NameKind.free)=true
   ·obtain⟨c,hc⟩:=hl (n,k) Xg (by simpa using hk);have e:cellOf env n=pure c:=by unfold cellOf; rw[hc]
    rw[if_pos hk,if_pos hk,e,pure_bind,pure_bind,hc];exact ih' _
   ·rw[if_neg hk,if_neg hk,pure_bind];exact ih' _
 refine Eq.trans (congrArg (fun z=>z >>= fun cs=>pure cs) (key scope.names [] h _ fun n k cs=>?_)) (pure_bind _ _);by_cases hk:(k==NameKind.free)=true
 ·simp[hk]
 ·simp[hk]
theorem U_:∀ (l:List (Str×NameKind)) (acc:List (Str×Addr)),(∀ x∈l,x.2=.free->∃ c,env.cells.lookup x.1=some c)->(∀ y d,acc.lookup y=some d->env.cells.lookup y=some d) ->
  ∀ y d,(clo env l acc).lookup y=some d->env.cells.lookup y=some d
 | [],_,_,h,y,d,e=>h y d e
 | (n,k)::r,acc,hl,h,y,d,e=>by
  unfold clo at e;have hr:∀ x∈r,x.2=.free->∃ c,env.cells.lookup x.1=some c:=fun x hx=>hl x (Xe _ hx);by_cases hk:(k==NameKind.free)=true
  ·rw[if_pos hk] at e;obtain⟨c,hc⟩:=hl (n,k) Xg (by simpa using hk);refine U_ r _ hr (fun z b hz=>?_) y d e;rw[ww] at hz;cases hb:z==n with
   | true=>rw[hb] at hz; rw[beq_iff_eq.mp hb,hc] ; rw[hc] at hz; exact hz
   | false=>rw[hb] at hz; exact h z b hz
  ·rw[if_neg hk] at e;exact U_ r acc hr h y d e
theorem Va:∀ (l:List (Str×NameKind)) (acc:List (Str×Addr)),(l.lookup x=some .free \/ ∃ c,acc.lookup x=some c)->∃ c,(clo env l acc).lookup x=some c
 | [],_,h=>h.elim (fun e=>by cases e) id
 | (n,k)::r,acc,h=>by
  unfold clo;by_cases hk:(k==NameKind.free)=true
  ·rw[if_pos hk];refine Va r _ ?_;cases hb:x==n with
   | true=>exact .inr ⟨_,by rw[ww,hb]⟩
   | false=>
    rcases h with h | ⟨c,h⟩
    ·rw[ww,hb] at h; exact .inl h
    ·exact .inr ⟨c,by rw[ww,hb]; exact h⟩
  ·rw[if_neg hk];refine Va r _ ?_;rcases h with h | h
   ·cases hb:x==n with
    | true=>
     rw[ww,hb] at h;cases h;exact absurd rfl hk
    | false=>rw[ww,hb] at h; exact .inl h
   ·exact .inr h
theorem xS:∀ (l:List (Str×NameKind)) (n:Nat) (acc:List (Str×Addr)),cellsFrom n l acc=cellsFrom n l []++acc
 | [],_,_=>rfl
 | (x,k)::r,n,acc=>by
  unfold cellsFrom;by_cases hk:(k==NameKind.cell)=true
  ·rw[if_pos hk,if_pos hk,xS r (n+1) ((x,n)::acc),xS r (n+1) [(x,n)],List.append_assoc];rfl
  ·rw[if_neg hk,if_neg hk,xS r n acc]
theorem Gh {c:Addr}:∀ {l:List (Str×NameKind)}{n:Nat}{acc:List (Str×Addr)},(x,c)∈cellsFrom n l acc->(x,NameKind.cell)∈l \/ (x,c)∈acc
 | [],_,_,h=>.inr h
 | (y,k)::r,n,acc,h=>by
  unfold cellsFrom at h;by_cases hk:(k==NameKind.cell)=true
  ·rw[if_pos hk] at h;have hk':k=.cell:=by simpa using hk
   rcases Gh h with z | z
   ·exact .inl (Xe _ z)
   ·rcases List.mem_cons.mp z with e | z
    ·cases e;subst hk';exact .inl Xg
    ·exact .inr z
  ·rw[if_neg hk] at h;rcases Gh h with z | z
   ·exact .inl (Xe _ z)
   ·exact .inr z
theorem jbh {globals:Addr}{cl:List (Str×Addr)}{outer:Env}{Q:Env->Shared->Prop}
  (hQ:Q (newEnv scope s.heap.objs.size globals (cellsFrom (s.heap.objs.size+1) scope.names cl) qual none .none (some outer) builtinsNs)
   { s with heap:=pushCells (s.heap.push { cls:=.type "dict",data:=.dict #[] }) scope.names }) :
  wpAny M A (newFunctionEnv scope globals cl [] qual none .none (some outer)) Q E s:=by
 simp only[newFunctionEnv,Option.isSome_some,if_true];refine Xb (wpAny_alloc ?_);refine Xb (wpAny_layCells _ (fun name kind cells=>by cases hkc:kind==NameKind.cell <;> simp[hkc]) _ _ _ _ ?_);rw[show ({ s with heap:=s.heap.push { cls:=.type "dict",data:=.dict #[] } }:Shared).heap.objs.size=s.heap.objs.size+1 from Heap.size_push ..]
 exact Xb (Xd (Xd hQ))
theorem yD {env:Env}{x:Str}:∀ {names:List (Str×NameKind)}{q:NameKind},
  (names.map fun (n,k)=>if (k==NameKind.free&&env.scope.kind==.function&&env.kindOf n==some .cell) then (n,NameKind.cell) else (n,k)).lookup x=some q ->
  names.lookup x=some q \/ (names.lookup x=some .free/\q=.cell)
 | [],_,h=>by cases h
 | (n,k)::r,q,h=>by
  have ih:=@yD env x r q;have h':((if (k==NameKind.free&&env.scope.kind==.function&&env.kindOf n==some .cell)=true then (n,NameKind.cell) else (n,k))::(r.map fun (n,k)=>if (k==NameKind.free&&env.scope.kind==.function&&env.kindOf n==some .cell) then (n,NameKind.cell) else (n,k))).lookup x=some q:=h;rw[ww];by_cases hc:(k==NameKind.free&&env.scope.kind==.function&&env.kindOf n==some .cell)=true
  ·rw[if_pos hc,ww] at h';have hkf:k=.free:=by
    cases k <;> first | rfl | (simp at hc)
   subst hkf;cases hb:x==n with
   | true=>
    rw[hb] at h';cases h';exact .inr ⟨rfl,rfl⟩
   | false=>
    rw[hb] at h';exact ih h'
  ·rw[if_neg hc,ww] at h';cases hb:x==n with
   | true=>
    rw[hb] at h';exact .inl h'
   | false=>
    rw[hb] at h';exact ih h'
theorem WE {R:Result->Shared->Prop}{elt target:Expr}{ifs:List Expr}{it acc:Value} (I:Nat->Shared->Prop)
  (turn:∀ n s,I n s->wpAny (model prog w) A (pyNext it) (fun r s₁=>match r with
   | none=>R (.ok .next) s₁
   | some v=>wpAny (model prog w) A (letOwnedTupleGo target it v) (fun _ s₁'=>wpAny (model prog w) A (assign target env v) (fun _ s₂=>
     wpAny (model prog w) A (forIn ifs true fun c r=>if r=true then do let ok <- isTrue c env (eval c env); pure (ForInStep.yield ok) else pure (ForInStep.yield r)) (fun ok s₃=>
      if ok=true then wpAny (model prog w) A (eval elt env) (fun x s₄=>
       wpAny (model prog w) A (call (.builtin "list.append") [acc,x]) (fun _ s₅=>∃ m,m<n/\I m s₅) (fun _ _=>False) s₄) (fun _ _=>False) s₃
      else ∃ m,m<n/\I m s₃) (fun _ _=>False) s₂) (fun _ _=>False) s₁') (fun _ _=>False) s₁) (fun _ _=>False) s)
  (n:Nat) (h:I n s) :
  codeAny (model prog w) A (.compLoop (.ListComp elt [⟨target,iter,ifs,0⟩] scope pos) 0 it acc env) R s:=by
 refine codeAny_loop rfl I (fun n s hI=>?_) n h;show wpAny _ A ((compTurn (.ListComp elt [⟨target,iter,ifs,0⟩] scope pos) 0 it acc env).onRaise (fun x=>do noteFrame x env; theTreesLotGoes x)) _ _ s;refine wpAny_noted ?_;rw[compTurn_list];refine Xb (wpAny_standAt (Xb (wpAny_mono (turn n s hI) (fun r s₁ h₁=>?_) fun _ _ h'=>h'.elim)));cases r with
 | none=>exact Xd h₁
 | some v=>
  refine Xb (wpAny_mono h₁ (fun _ s₁' h₁'=>?_) fun _ _ h'=>h'.elim);refine Xb (wpAny_mono h₁' (fun _ s₂ h₂=>Xb (wpAny_mono h₂ (fun ok s₃ h₃=>?_) fun _ _ h'=>h'.elim)) fun _ _ h'=>h'.elim);cases ok with
  | false=>exact Xd ⟨rfl,h₃⟩
  | true=>
   exact Xb (Xb (wpAny_mono h₃ (fun x s₄ h₄=>Xb (wpAny_mono h₄ (fun _ s₅ h₅=>Xd (Xd ⟨rfl,h₅⟩)) fun _ _ h'=>h'.elim)) fun _ _ h'=>h'.elim))
structure Blk where
 C:Addr
 s:Shared
 H:Hp
 ex:List Addr
def blk (X:Cx) (sc:Scope) (N:List Str) (b:Blk):Cx:=
 { X with N:=N,s₀:=b.s,H₀:=b.H,env:=compEnvC sc (cellsFrom (b.C+1) sc.names (clo X.env sc.names [])) b.C X.env,outer:=X.stack,stack:=X.stack,ex:=b.ex,fn:=fun x=>sc.names.lookup x==some .cell,pn:=[],xe:=fun _ _=>False }
def WF (own:Nat) (ix:List Nat) (σ:St):St:=List.replicate own none++ix.map fun i=>(σ[i]?).join
structure BlkOk (X:Cx) (sc:Scope) (own:List Str) (ix:List Nat) (N:List Str):Prop where
 kind:sc.kind=.function
 nm:∀ x∈sc.names,sc.names.lookup x.1=some x.2
 fr:∀ x∈sc.names,x.2=.free->X.env.kindOf x.1=some .cell \/ X.env.kindOf x.1=some .free
 eq:N=own++ix.map fun i=>(X.N[i]?).getD Str.empty
 lt:∀ i∈ix,i<X.N.length
 isf:∀ i∈ix,sc.names.lookup ((X.N[i]?).getD Str.empty)=some .free
theorem jgF (B:BlkOk X sc own ix N) (I:Inv X pins σ H s) (hf:∀ b∈fp,jaT X pins H b)
  (hlt:∀ b:Nat,b∈fp->b<s.heap.objs.size) :
  Inv (blk X sc N ⟨s.heap.objs.size+1,s,H,fp⟩) [] (WF own.length ix σ) (upd H s.heap.objs.size (.lst []))
   { s with heap:=pushCells ((s.heap.push { cls:=.type "list",data:=.seq ([]:List Value).toArray }).push { cls:=.type "dict",data:=.dict #[] }) sc.names }:=by
 have hfr:∀ x∈sc.names,x.2=.free->∃ c,X.env.cells.lookup x.1=some c:=fun x hx e=>I.ok.has x.1 (B.fr x hx e);have h0:H s.heap.objs.size=none:=I.fresh;have k1:∀ b o,s.heap.get? b=some o->(pushCells ((s.heap.push { cls:=.type "list",data:=.seq ([]:List Value).toArray }).push { cls:=.type "dict",data:=.dict #[] }) sc.names).get? b=some o:=
  fun b o e=>pushCells_keeps _ _ b o (Xh _ (Xh _ e))
 have sz1:(s.heap.push { cls:=.type "list",data:=.seq ([]:List Value).toArray }).objs.size=s.heap.objs.size+1:=Heap.size_push ..;have sz2:((s.heap.push { cls:=.type "list",data:=.seq ([]:List Value).toArray }).push { cls:=.type "dict",data:=.dict #[] }).objs.size=s.heap.objs.size+2:=by rw[Heap.size_push,sz1]
 have hD:(pushCells ((s.heap.push { cls:=.type "list",data:=.seq ([]:List Value).toArray }).push { cls:=.type "dict",data:=.dict #[] }) sc.names).get? s.heap.objs.size=some { cls:=.type "list",data:=.seq ([]:List Value).toArray }:=
  pushCells_keeps _ _ _ _ (Xh _ (XD _ rfl))
 have okc:=cellsFrom_ok sc.names ((s.heap.push { cls:=.type "list",data:=.seq ([]:List Value).toArray }).push { cls:=.type "dict",data:=.dict #[] }) (s.heap.objs.size+2) [] ⟨fun _ _ hm=>(nomatch hm),List.Pairwise.nil⟩ (by rw[sz2]; exact Xm _);rw[sz2] at okc;have nsC:(pushCells ((s.heap.push { cls:=.type "list",data:=.seq ([]:List Value).toArray }).push { cls:=.type "dict",data:=.dict #[] }) sc.names).Ns (s.heap.objs.size+1) (fun _=>none):=by
  have q:=(Heap.Ns.new (s.heap.push { cls:=.type "list",data:=.seq ([]:List Value).toArray }) (.type "dict")).keeps (pushCells_keeps sc.names _);rw[sz1] at q;exact q
 have cells:∀ x c,(cellsFrom (s.heap.objs.size+1+1) sc.names (clo X.env sc.names [])).lookup x=some c ->
   ((x,c)∈cellsFrom (s.heap.objs.size+2) sc.names []) \/ X.env.cells.lookup x=some c:=fun x c e=>by
  rw[xS,List.lookup_append] at e;cases q:(cellsFrom (s.heap.objs.size+1+1) sc.names []).lookup x with
  | some d=>
   rw[q] at e;have e':d=c:=Option.some.inj e;subst e';exact .inl (wm q)
  | none=>
   rw[q] at e;exact .inr (U_ sc.names [] hfr (fun _ _ z=>nomatch z) x c e)
 have oldc:∀ (x:Str) (c:Nat),X.env.cells.lookup x=some c->c<s.heap.objs.size:=fun x c e=>(I.cell x c e).choose_spec.lt;have newc:∀ (x:Str) (c:Nat),(x,c)∈cellsFrom (s.heap.objs.size+2) sc.names []->s.heap.objs.size+2<=c:=fun x c e=>(okc.empty x c e).2;have ok:(blk X sc N ⟨s.heap.objs.size+1,s,H,fp⟩).Ok:=by
  refine⟨I.ok.mod,B.kind,I.ok.glob,I.ok.blt,Nat.le_succ _,fun x y c e1 e2=>?_,fun x hx=>?_,fun x c h1 e=>?_,I.ok.hd,I.ok.frames,.inl rfl,fun b hb=>⟨?_,fun x c e=>?_⟩,I.bs,we I.ok.bsz I.sz,fun b o e hb=>?_,fun b hb z=>?_,I.stack,I.stkFree⟩
  ·rcases cells x c e1 with a1 | a1
   ·rcases cells y c e2 with a2 | a2
    ·exact name_of_addr okc.apart a1 a2
    ·have:=newc x c a1; have:=oldc y c a2; omega
   ·rcases cells y c e2 with a2 | a2
    ·have:=newc y c a2; have:=oldc x c a1; omega
    ·exact I.ok.inj x y c a1 a2
  ·show ∃ c,(cellsFrom (s.heap.objs.size+1+1) sc.names (clo X.env sc.names [])).lookup x=some c;have hx':(relabel sc X.env).names.lookup x=some .cell \/ (relabel sc X.env).names.lookup x=some .free:=hx;have hk:sc.names.lookup x=some .cell \/ sc.names.lookup x=some .free:=by
    rcases hx' with z | z
    ·rcases yD z with q | q
     ·exact .inl q
     ·exact .inr q.1
    ·rcases yD z with q | q
     ·exact .inr q
     ·cases q.2
   refine Option.isSome_iff_exists.mp (W.cellsFrom_some sc.names _ _ ?_);rcases hk with z | z
   ·exact .inl z
   ·obtain⟨c,q⟩:=Va (env:=X.env) sc.names [] (.inl z);exact .inr (by rw[q]; rfl)
  ·have h1':sc.names.lookup x=some .cell:=by
    have:(sc.names.lookup x==some NameKind.cell)=true:=h1;simpa using this
   have e':(cellsFrom (s.heap.objs.size+1+1) sc.names (clo X.env sc.names [])).lookup x=some c:=e;rw[xS,List.lookup_append] at e';obtain⟨d,q⟩:=Option.isSome_iff_exists.mp (W.cellsFrom_some sc.names (s.heap.objs.size+1+1) [] (.inl h1'));rw[q] at e';have e2:d=c:=Option.some.inj e';subst e2;have:=newc x d (wm q);exact we (Nat.le_add_right _ 2) this
  ·exact ane (.inl (Nat.lt_succ_of_lt (hlt b hb)))
  ·rcases cells x c e with a | a
   ·exact ane (.inr (XE (hlt b hb) (we (Nat.le_add_right _ 2) (newc x c a))))
   ·exact(hf b hb).2.2.2.2.1 x c a
  ·have z:=(hf b hb).2.2.2.1;rcases z with z | z
   ·exact I.ok.noex b o e z
   ·exact absurd (XE (XE (XB e) I.ok.bsz) z) (Nat.lt_irrefl _)
  ·have z':b∈frs X.stack:=z;rcases List.mem_cons.mp (I.stkSub b z') with q | q
   ·exact(hf b hb).2.1 q
   ·exact(hf b hb).2.2.1 q
 have un1:Un (frs X.stack) fp H (upd H s.heap.objs.size (.lst [])) s.heap (pushCells ((s.heap.push { cls:=.type "list",data:=.seq ([]:List Value).toArray }).push { cls:=.type "dict",data:=.dict #[] }) sc.names):=Un.laid k1 (Xm _) h0;refine⟨ok,rfl,I.bare,un1,⟨_,nsC,fun i x v e1 e2 e3=>?_⟩,fun x c e=>?_,?_,fun x c e=>?_,fun p hp=>absurd (show p∈([]:List (Addr×Obj)) from hp) (by simp),?_,?_⟩
 ·-- the names
  have e1':N[i]?=some x:=e1;have e2':(WF own.length ix σ)[i]?=some (some v):=e2;unfold WF at e2';by_cases hi:i<own.length
  ·rw[List.getElem?_append_left (by simpa using hi),List.getElem?_replicate] at e2';split at e2' <;> cases e2'
  ·rw[List.getElem?_append_right (by simpa using hi),List.length_replicate,XG] at e2';rw[B.eq,List.getElem?_append_right (by omega),XG] at e1';cases q:ix[i-own.length]? with
   | none=>rw[q] at e2'; cases e2'
   | some j=>
    rw[q] at e1' e2';have hj:j∈ix:=X8 q;have hjl:=B.lt j hj;have e1'':(X.N[j]?).getD Str.empty=x:=Option.some.inj e1';have ej:X.N[j]?=some x:=by
     cases q2:X.N[j]? with
     | none=>exact absurd (List.getElem?_eq_none_iff.mp q2) (by omega)
     | some y=>rw[q2] at e1''; rw[<- e1'']; rfl
    have hfree:sc.names.lookup x=some .free:=by rw[<- e1'']; exact B.isf j hj
    have e2'':(σ[j]?).join=some v:=Option.some.inj e2';have es:σ[j]?=some (some v):=by
     cases q3:σ[j]? with
     | none=>rw[q3] at e2''; cases e2''
     | some o=>rw[q3] at e2''; exact congrArg some e2''
    have hk:=B.fr (x,.free) (wm hfree) rfl;obtain⟨m,hn,hl⟩:=I.loc;have vis:Vis X.env.scope x:=by
     rcases hk with z | z
     ·exact .inr (.inl z)
     ·exact .inr (.inr z)
    obtain⟨u,r,l⟩:=hl j x v ej es vis;refine⟨u,r,?_⟩;have lc:∃ c,X.env.cells.lookup x=some c/\s.heap.IsCell c (some u):=by
     rcases l with⟨z,_⟩ | ⟨_,c,e,z⟩
     ·have z':X.env.kindOf x=some .local:=z;rcases hk with y | y <;> (rw[z'] at y; cases y)
     ·exact⟨c,e,z⟩
    obtain⟨c,ec,hc⟩:=lc;obtain⟨d,ed⟩:=Va (env:=X.env) sc.names [] (.inl hfree);have edc:d=c:=by
     have:=U_ sc.names [] hfr (fun _ _ z=>nomatch z) x d ed;rw[ec] at this;exact(Option.some.inj this).symm
    subst edc;have lk:(cellsFrom (s.heap.objs.size+1+1) sc.names (clo X.env sc.names [])).lookup x=some d:=by
     rw[xS,List.lookup_append];cases q4:(cellsFrom (s.heap.objs.size+1+1) sc.names []).lookup x with
     | none=>exact ed
     | some d'=>
      rcases Gh (wm q4) with z | z
      ·have:=B.nm _ z;rw[hfree] at this;cases this
      ·cases z
    refine .inr ⟨?_,d,lk,hc.keeps k1⟩;have vis2:Vis (relabel sc X.env) x:=e3;rcases vis2 with z | z | z
    ·have z':(relabel sc X.env).names.lookup x=some .local:=z;rcases yD z' with q5 | q5
     ·rw[hfree] at q5; cases q5
     ·cases q5.2
    ·exact .inl z
    ·exact .inr z
 ·rcases cells x c e with a | a
  ·exact⟨none,(okc.empty x c a).1⟩
  ·obtain⟨v,z⟩:=I.cell x c a;exact⟨v,z.keeps k1⟩
 ·show upd H s.heap.objs.size (.lst []) (s.heap.objs.size+1)=none;rw[qp (ane (.inr (Nat.lt_succ_self _)))];exact I.hok.fresh (Nat.le_succ _)
 ·rcases cells x c e with a | a
  ·have h2:=newc x c a;rw[qp (ane (.inr (XE (Nat.lt_add_of_pos_right (by decide)) h2)))];exact I.hok.fresh (we (Nat.le_add_right _ 2) h2)
  ·have h2:=oldc x c a;rw[qp (ane (.inl h2))];exact I.freeC x c a
 ·exact I.hok.laid k1 (Xm _) ⟨wg _,[],0,.nil,hD⟩
 ·show (WF own.length ix σ).length=N.length;rw[B.eq];unfold WF;simp
def PIf (Y:Cx) (ifs:List Expr) (t:TT):Prop:=∀ (pins:List (Addr×Obj)) (s:Shared) (σ:St) (H:Hp) (Q:Bool->Hp->Prop),Inv Y pins σ H s->t σ H Q ->
 wpAny (model Y.prog Y.w) Y.A (forIn ifs true fun c r=>if r=true then do let ok <- isTrue c Y.env (eval c Y.env); pure (ForInStep.yield ok) else pure (ForInStep.yield r)) (TP Y pins σ Q) Y.xe s
def jiG:TT:=fun _ H Q=>Q true H
theorem xZ {Y:Cx}:PIf Y [] jiG:=fun _ _ σ H _ I h=>wpAny_tests_nil ⟨H,I,h⟩
theorem zS {Y:Cx}{c:Expr}{t:TT} (h:PT Y c t):PIf Y [c] t:=fun pins s σ H Q I q=>wpAny_tests_one (h pins s σ H Q I q)
def jep (D:Addr) (J:It) (g:TG) (tc:TT) (te:TE) (σ0:St) (H1:Hp) (Q:VK):Prop:=
 ∃ W:Nat->Nat->List V->St->Hp->Prop,(∃ m,W 0 m [] σ0 (upd H1 D (.lst [])))/\∀ i m ys σ H,W i m ys σ H ->
  (J.stop i H/\Q (.ref D) H) \/ (J.go i H/\∃ N:List V->St->Hp->Prop,(∀ ys' σ' H',N ys' σ' H'->∃ m',m'<m/\W (i+1) m' ys' σ' H')/\∀ x H',J.yld i H x H'->g x σ H' fun σ2 H2=>tc σ2 H2 fun b H3=>
   if b=true then te σ2 H3 fun y H4=>H4 D=some (.lst ys)/\ys.length<sizeLine/\N (ys++[y]) σ2 (upd H4 D (.lst (ys++[y]))) else N ys σ2 H3)
section
variable {elt:Expr}{ifs:List Expr}{g:Blk->TG}{tc:Blk->TT}{te:Blk->TE} 
theorem WG {Q:VK}{RR:Value->Addr->Result->Shared->Prop}{tn:Nat->Heap->Prop} (B:BlkOk X sc own ix N) (hc:X.calm=true)
  (I:Inv X pins σ H s) (T:Turn X.prog X.w X.K tg J fp it tn) (t0:tn 0 s.heap) (hf:∀ b∈fp,jaT X pins H b)
  (hg:∀ b:Blk,PG (blk X sc N b) tg (g b)) (hi:∀ b:Blk,PIf (blk X sc N b) ifs (tc b)) (he:∀ b:Blk,PE (blk X sc N b) elt (te b))
  (hr:∀ (b:Blk) (D:Addr),H D=none->jep D J (g b) (tc b) (te b) (WF own.length ix σ) H Q)
  (hRR:∀ D C s' H' m,Inv X pins σ H' s'->jaT X pins H' C->s'.heap.Ns C m->Q (.ref D) H'->RR (.ref D) C (.ok .next) s') :
  wpAny (model X.prog X.w) X.A (newList []) (fun acc s₃=>wpAny (model X.prog X.w) X.A (newFunctionEnv sc X.env.globals (clo X.env sc.names []) [] X.env.qual none .none (some X.env)) (fun cenv s₄=>
   codeAny (model X.prog X.w) X.A (.compStart (.ListComp elt [⟨tg,iter,ifs,0⟩] sc pos) 0 (.ref it) acc { cenv with scope:=relabel sc X.env }) (RR acc cenv.locals) s₄) E s₃) E s:=by
 refine wpAny_newObj_type (jbh ?_);have sz1:(s.heap.push { cls:=.type "list",data:=.seq ([]:List Value).toArray }).objs.size=s.heap.objs.size+1:=Heap.size_push ..;have hlt:∀ b:Nat,b∈fp->b<s.heap.objs.size:=fun b hb=>by
  obtain⟨o,e,_⟩:=T.obj 0 _ t0 b hb;exact XB e
 have IY:=jgF B I hf hlt;have k1:∀ b o,s.heap.get? b=some o->(pushCells ((s.heap.push { cls:=.type "list",data:=.seq ([]:List Value).toArray }).push { cls:=.type "dict",data:=.dict #[] }) sc.names).get? b=some o:=
  fun b o e=>pushCells_keeps _ _ b o (Xh _ (Xh _ e))
 dsimp only;rw[sz1];generalize hY:blk X sc N ⟨s.heap.objs.size+1,s,H,fp⟩=Y at IY;have hg':PG Y tg (g ⟨s.heap.objs.size+1,s,H,fp⟩):=hY ▸ hg _;have hi':PIf Y ifs (tc ⟨s.heap.objs.size+1,s,H,fp⟩):=hY ▸ hi _;have he':PE Y elt (te ⟨s.heap.objs.size+1,s,H,fp⟩):=hY ▸ he _;obtain⟨W,⟨m0,w0⟩,turn⟩:=hr ⟨s.heap.objs.size+1,s,H,fp⟩ s.heap.objs.size I.fresh;have eP:Y.prog=X.prog:=by rw[<- hY]; rfl
 have eW:Y.w=X.w:=by rw[<- hY]; rfl
 have eK:Y.K=X.K:=by rw[<- hY]; rfl
 have eA:Y.A=X.A:=by rw[<- hY]; rfl
 have eX:Y.xe=fun _ _=>False:=by rw[<- hY]; rfl
 have eC:Y.calm=true:=by rw[<- hY]; exact hc
 have eL:Y.env.locals=s.heap.objs.size+1:=by rw[<- hY]; rfl
 have eF:Y.fs=frs X.stack:=by rw[<- hY]; rfl
 have eE:Y.ex=fp:=by rw[<- hY]; rfl
 have eN:Y.pn=[]:=by rw[<- hY]; rfl
 have eS:Y.s₀=s:=by rw[<- hY]; rfl
 have eH:Y.H₀=H:=by rw[<- hY]; rfl
 have eEnv:compEnvC sc (cellsFrom (s.heap.objs.size+1+1) sc.names (clo X.env sc.names [])) (s.heap.objs.size+1) X.env=Y.env:=by rw[<- hY]; rfl
 have fpY:∀ {H':Hp},(∀ b∈fp,H' b=none)->∀ b∈fp,jaT Y [] H' b:=fun hn b hb=>by
  refine⟨hn b hb,?_,?_,.inl (by rw[eE]; exact hb),fun x c e=>?_,fun p hp=>?_⟩
  ·rw[eL];exact ane (.inl (Nat.lt_succ_of_lt (hlt b hb)))
  ·rw[eF];intro z;rcases List.mem_cons.mp (I.stkSub b z) with q | q
   ·exact(hf b hb).2.1 q
   ·exact(hf b hb).2.2.1 q
  ·exact(IY.ok.exf b (by rw[eE]; exact hb)).2 x c e
  ·rw[eN] at hp;exact absurd (show p∈([]:List (Addr×Obj)) from hp) (by simp)
 have fpC:∀ {σ':St}{H':Hp}{s':Shared},Inv Y [] σ' H' s'->jaT X pins H' (s.heap.objs.size+1):=fun {σ' H' s'} J'=>by
  refine⟨by have:=J'.free; rw[eL] at this; exact this,?_,I.nofs (Nat.le_succ _),.inr (we I.sz (Nat.le_succ _)),fun x c e z=>?_,fun p hp z=>?_⟩
  ·exact ane (.inr (Nat.lt_succ_of_lt I.lt))
  ·obtain⟨v,q⟩:=I.cell x c e;exact ane (.inl (Nat.lt_succ_of_lt q.lt)) z
  ·exact ane (.inl (Nat.lt_succ_of_lt (XB (I.pin p hp).1))) z
 have back:∀ {σ':St}{H':Hp}{s':Shared},Inv Y [] σ' H' s'->Inv X pins σ H' s':=fun {σ' H' s'} J'=>by
  refine I.call' (ch:=fp) ?_ ?_ ?_ J'.bare fun b hb=>?_
  ·have:=J'.os;rw[eS] at this;exact this
  ·have:=J'.base;rw[eS,eH,eF,eE] at this;exact this
  ·have:=J'.hok;rw[eP,eW] at this;exact this
  ·obtain⟨f0,f1,f2,f3,f4,f5⟩:=hf b hb;exact⟨f3,f1,f4,f5⟩
 have tests:=hi';have loop:codeAny (model X.prog X.w) X.A (.compLoop (.ListComp elt [⟨tg,iter,ifs,0⟩] sc pos) 0 (.ref it) (.ref s.heap.objs.size) Y.env) (RR (.ref s.heap.objs.size) (s.heap.objs.size+1))
   { s with heap:=pushCells ((s.heap.push { cls:=.type "list",data:=.seq ([]:List Value).toArray }).push { cls:=.type "dict",data:=.dict #[] }) sc.names }:=by
  refine WE (fun n s'=>∃ i ys σ' H',Inv Y [] σ' H' s'/\tn i s'.heap/\(∀ b∈fp,H' b=none)/\W i n ys σ' H') ?_ m0
   ⟨0,[],_,_,IY,T.keep _ _ _ t0 fun b _ o e=>k1 b o e,fun b hb=>?_,w0⟩
  ·rintro n s3 ⟨i,ys,σ3,H3,I3,st3,fr3,w3⟩;rcases turn i n ys σ3 H3 w3 with⟨stop,qn⟩ | ⟨go,NN,hN,step⟩
   ·have td:=T.done Y eP eW eK eC i [] s3 σ3 H3 (fun _ _=>False) I3 (fpY fr3) st3 stop;rw[eA] at td;refine thn td fun r s4 ⟨hr',I4⟩=>?_;subst hr';obtain⟨m,hn,_⟩:=I4.loc;rw[eL] at hn;exact hRR _ _ s4 H3 m (back I4) (fpC I4) hn qn
   ·have ti:=T.item Y eP eW eK eC i [] s3 σ3 H3 (fun _ _=>False) I3 (fpY fr3) st3 go;rw[eA] at ti;refine thn ti fun r s4 ⟨u,hr',h4⟩=>?_;subst hr';refine thn h4 fun _ s5 ⟨x,H5,I5,r5,y5,st5,fr5⟩=>?_;have I5':=I5.pinned (fpY fr5) (T.obj _ _ st5);have hgx:=hg' _ s5 σ3 H5 x u _ I5' r5 (step x H5 y5);rw[eP,eW,eA,eX] at hgx;refine thn hgx fun _ s6 ⟨σ6,H6,I6,q6⟩=>?_;have hix:=hi' _ s6 σ6 H6 _ I6 q6;rw[eP,eW,eA,eX] at hix;refine thn hix fun ok s7 ⟨H7,I7,q7⟩=>?_;have again:∀ {σ8:St}{H8:Hp}{s8:Shared}{ys':List V},Inv Y ([]++Wu fp s5.heap) σ8 H8 s8->NN ys' σ8 H8->∃ m,m<n/\∃ i ys σ' H',Inv Y [] σ' H' s8/\tn i s8.heap/\(∀ b∈fp,H' b=none)/\W i m ys σ' H':=fun {σ8 H8 s8 ys'} I8 n8=>by
     obtain⟨m',hm,w8⟩:=hN ys' σ8 H8 n8;refine⟨m',hm,i+1,ys',σ8,H8,I8.unpinned,T.keep _ _ _ st5 fun b hb o e=>(I8.pin (b,o) (XS _ (XS _ (Je hb e)))).1,fun b hb=>?_,w8⟩;obtain⟨o,e,d⟩:=T.obj _ _ st5 b hb;exact(I8.pin (b,o) (XS _ (XS _ (Je hb e)))).2.1
    cases ok with
    | false=>
     rw[if_neg Xw] at q7 ⊢;exact again I7 q7
    | true=>
     rw[if_pos rfl] at q7 ⊢;have hex:=he' _ s7 σ6 H7 _ I7 q7;rw[eP,eW,eA,eX] at hex;refine thn hex fun y s8 ⟨yv,H8,I8,r8,hD8,hz8,n8⟩=>?_;have ap:=kJ (X:=Y) _ s8 σ6 H8 (.ref s.heap.objs.size) [yv] (.ref s.heap.objs.size) [y] (fun v H9=>H9=upd H8 s.heap.objs.size (.lst (ys++[yv]))) I8 rfl (.cons r8 .nil) ⟨_,ys,yv,rfl,rfl,hD8,hz8,rfl⟩;rw[eP,eW,eA,eX] at ap;refine thn ap fun _ s9 ⟨_,H9,I9,_,e9⟩=>?_;subst e9;exact again I9 n8
  ·rw[qp (ane (.inl (hlt b hb)))];exact(hf b hb).1
 have st:tn 0 (pushCells ((s.heap.push { cls:=.type "list",data:=.seq ([]:List Value).toArray }).push { cls:=.type "dict",data:=.dict #[] }) sc.names):=T.keep _ _ _ t0 fun b _ o e=>k1 b o e;have fin:=codeAny_compStart_list (elt:=elt) (target:=tg) (iter:=iter) (ifs:=ifs) (rest:=[]) (scope:=sc) (pos:=pos) loop (T.self _ 0 _ _ _ st loop);rw[<- eEnv] at fin;exact fin
def JL (wi:TI) (n:Nat) (ix:List Nat) (g:Blk->TG) (tc:Blk->TT) (te:Blk->TE):TE:=fun σ H Q=>wi σ H fun J H1=>∀ (b:Blk) (D:Addr),H1 D=none->jep D J (g b) (tc b) (te b) (WF n ix σ) H1 Q
theorem qk (B:BlkOk X sc own ix N) (hc:X.calm=true) (hiter:PI X tg iter wi) (hg:∀ b:Blk,PG (blk X sc N b) tg (g b)) (hi:∀ b:Blk,PIf (blk X sc N b) ifs (tc b)) (he:∀ b:Blk,PE (blk X sc N b) elt (te b))
  (hs:∀ x,foldedSetIterable iter X.env x=pure x:=by intro _; rfl):PE X (.ListComp elt [⟨tg,iter,ifs,0⟩] sc pos) (JL wi own.length ix g tc te):=by
 intro pins s σ H Q I h;have hfr:∀ x∈sc.names,x.2=.free->∃ c,X.env.cells.lookup x.1=some c:=fun x hx e=>I.ok.has x.1 (B.fr x hx e);rw[eval_ListComp];refine wpAny_comprehension_free (use:=none) (g:=⟨tg,iter,ifs,0⟩) (gs:=[]) rfl hs (JK hfr) B.kind (fun x hx e=>by rw[B.nm x hx,e]) ?_;refine thn (hiter pins s σ H _ I h) fun v s1 h1=>thn h1 fun itv s2 h2=>?_;obtain⟨it,fp,tn,J,H2,e,I2,T,st2,f2,q⟩:=h2;subst e;refine WG (Q:=Q) B hc I2 T st2 f2 hg hi he q fun D C s' H' m I' fC hn qq=>?_;exact⟨m,hn,fun h' hs'=>⟨.ref D,H',(I'.turned (t':=s'.toks) (fun b o hb e=>(hs'.2 b hb).trans e) fC.1 fC.2.1 fC.2.2.2.1 fC.2.2.2.2.1 fC.2.2.2.2.2),rfl,qq⟩⟩
theorem UL {y:Str}{py spos:Pos} (B:BlkOk X sc own ix N) (hc:X.calm=true) (hiter:PI X tg iter wi) (hg:∀ b:Blk,PG (blk X sc N b) tg (g b)) (hi:∀ b:Blk,PIf (blk X sc N b) ifs (tc b)) (he:∀ b:Blk,PE (blk X sc N b) elt (te b))
  (hN:X.N.Nodup) (hy:X.N[i]?=some y) (hl:X.env.scope.names.lookup y=some .local)
  (hsw:swapsWith (.ListComp elt [⟨tg,iter,ifs,0⟩] sc pos) (some (.Name y py)) spos.line X.env=pure true:=by rfl)
  (hs:∀ x,foldedSetIterable iter X.env x=pure x:=by intro _; rfl):PS X (.Assign [.Name y py] (.ListComp elt [⟨tg,iter,ifs,0⟩] sc pos) spos) (U4 (JL wi own.length ix g tc te) (xq i)):=by
 intro pins s σ H D0 I h;have hfr:∀ x∈sc.names,x.2=.free->∃ c,X.env.cells.lookup x.1=some c:=fun x hx e=>I.ok.has x.1 (B.fr x hx e);rw[exec_Assign_Name_used _ _ _ _ hsw];refine Xb (wpAny_standAt (Xb ?_));show wpAny _ _ (do let _ <- comprehension (.ListComp elt [⟨tg,iter,ifs,0⟩] sc pos) sc X.env _ (newList []) false (eval iter X.env) (some (assign (.Name y py) X.env))) _ _ s;refine Xb (wpAny_mono (wpAny_comprehension_free (use:=some (assign (.Name y py) X.env)) (Q:=fun _ s'=>SP X pins D0 .next s') (g:=⟨tg,iter,ifs,0⟩) (gs:=[]) rfl hs (JK hfr) B.kind (fun x hx e=>by rw[B.nm x hx,e]) ?_)
  (fun _ s' hq=>Xd (Xd hq)) fun _ _ e=>e)
 refine thn (hiter pins s σ H _ I h) fun v s1 h1=>thn h1 fun itv s2 h2=>?_;obtain⟨it,fp,tn,J,H2,e,I2,T,st2,f2,q⟩:=h2;subst e;refine WG (Q:=fun x H1=>xq i x σ H1 D0.nx) B hc I2 T st2 f2 hg hi he q fun D C s' H' m I' fC hn qq=>?_;show wpAny _ _ (assign (.Name y py) X.env (.ref D)) _ _ _;refine wpAny_assign_Name (Wo (v:=.ref D) I' hN hy (.inl hl) rfl (fun s'' I'' sb=>?_) (.inr hl));obtain⟨a,sb,ha⟩:=sb;have hCa:C≠a:=by
  rcases ha with z | z
  ·rw[z]; exact fC.2.1
  ·exact fun q=>fC.2.2.2.2.1 y a z q.symm
 refine⟨m,hn.sameBut sb hCa,fun h' hs'=>⟨_,H',I''.turned (t':=s''.toks) (fun b o hb e=>(hs'.2 b hb).trans e) fC.1 fC.2.1 fC.2.2.2.1 fC.2.2.2.2.1 fC.2.2.2.2.2,qq⟩⟩
end
inductive EqR (K:W.Frag) (H:Hp):Nat->V->V->Bool->Prop where
 | flat {n:Nat}{x y:V}:WB x=true->WB y=true->EqR K H n x y (eqV x y)
 | lst {n:Nat}{a b:Addr}{xs ys:List V}{e:Nat->Bool}:SqL K H a xs->SqL K H b ys->xs.length=ys.length->(∀ (j:Nat) x y,xs[j]?=some x->ys[j]?=some y->EqR K H n x y (e j)) ->
   EqR K H (n+1) (.ref a) (.ref b) ((List.range xs.length).all e)
 | lstL {n:Nat}{a b:Addr}{xs ys:List V}:SqL K H a xs->SqL K H b ys->xs.length≠ys.length->EqR K H (n+1) (.ref a) (.ref b) false
 | tup {n:Nat}{a b:Addr}{xs ys:List V}{e:Nat->Bool}:SqT K H a xs->SqT K H b ys->(∀ (j:Nat) x y,xs[j]?=some x->ys[j]?=some y->EqR K H n x y (e j)) ->
   EqR K H (n+1) (.ref a) (.ref b) ((List.range (min xs.length ys.length)).all e&&xs.length==ys.length)
theorem jdm:∀ {x:V},WB x=true->eqV x x=true
 | .non,_=>rfl
 | .bl b,_=>by simp[eqV]
 | .int b,_=>by simp[eqV]
 | .str b,_=>by simp[eqV]
 | .byt _,h=>by cases h
 | .flt _,h=>by cases h
 | .ref _,h=>by cases h
 | .ty _,h=>by cases h
theorem EqR.refl_true (I:Inv X pins σ H s):∀ {n:Nat}{x y:V}{b:Bool},EqR X.K H n x y b->x=y->b=true:=by
 intro n x y b h
 induction h with
 | flat f1 f2=>intro e; subst e; exact jdm f1
 | lst h1 h2 hl h3 ih=>
  intro e;cases e;have:=I.list_inj h1 h2;subst this;rw[X6];intro j hj;have hj':=Xp.mp hj;exact ih j _ _ (Xc hj') (Xc hj') rfl
 | lstL h1 h2 hl=>
  intro e;cases e;exact absurd (by rw[I.list_inj h1 h2]) hl
 | tup h1 h2 h3 ih=>
  intro e;cases e;have:=I.tuple_inj h1 h2;subst this;rw[XF];refine⟨?_,by simp⟩;rw[X6];intro j hj;have hj':=Xp.mp hj;rw[Nat.min_self] at hj';exact ih j _ _ (Xc hj') (Xc hj') rfl
theorem QT (A:Around):A.in1.units=A.units+1:=rfl
theorem EqR.at (I:Inv X pins σ H s):∀ {n:Nat}{x y:V}{b:Bool},EqR X.K H n x y b->∀ {u v:Value}{A:Around},RelV x u->RelV y v->A.units+n<cLine ->
  SeqAt.EqAt A s u v b/\(WB x=false->SeqAt.RcAt A s u v b/\SeqAt.RcNeAt A s u v (!b)):=by
 intro n x y b h
 induction h with
 | flat f1 f2=>intro u v A r1 r2 hu; exact ⟨jgD r1 r2 f1 f2,fun z=>by rw[f1] at z; cases z⟩
 | @lst n a c xs ys e h1 h2 hl h3 ih=>
  intro u v A r1 r2 hu;cases r1;cases r2;obtain⟨its,q1,p1,_⟩:=I.list h1;obtain⟨its',q2,p2,_⟩:=I.list h2;have l1:=q1.length;have l2:=q2.length;have key:∀ j (g1:j<its.toArray.size) (g2:j<its'.toArray.size),SeqAt.EqAt A.in1 s its.toArray[j] its'.toArray[j] (e j):=fun j g1 g2=>by
   have g1':j<its.length:=by simpa using g1
   have g2':j<its'.length:=by simpa using g2
   obtain⟨x,hx,rx⟩:∃ x,xs[j]?=some x/\RelV x its[j]:=by
    obtain⟨u',hu',ru'⟩:=q1.get (Xc (by omega:j<xs.length));rw[Xc g1'] at hu';cases hu';exact⟨_,Xc (by omega),ru'⟩
   obtain⟨y,hy,ry⟩:∃ y,ys[j]?=some y/\RelV y its'[j]:=by
    obtain⟨u',hu',ru'⟩:=q2.get (Xc (by omega:j<ys.length));rw[Xc g2'] at hu';cases hu';exact⟨_,Xc (by omega),ru'⟩
   exact(ih j x y hx hy rx ry (by rw[QT]; omega)).1
  have hz:its.toArray.size=its'.toArray.size:=by simp; omega
  have hu':A.units<cLine:=by omega
  have e1:(List.range its.toArray.size).all e=(List.range xs.length).all e:=by rw[Xs,<- l1]
  have rc:SeqAt.RcAt A s (.ref a) (.ref c) ((List.range xs.length).all e):=by rw[<- e1]; exact SeqAt.RcAt.lists p1.isList p2.isList hz hu' key
  have rn:SeqAt.RcNeAt A s (.ref a) (.ref c) (!(List.range xs.length).all e):=by rw[<- e1]; exact SeqAt.RcNeAt.lists p1.isList p2.isList hz hu' key
  refine⟨?_,fun _=>⟨rc,rn⟩⟩;by_cases hac:a=c
  ·subst hac;have:(List.range xs.length).all e=true:=EqR.refl_true I (EqR.lst h1 h2 hl h3) rfl;rw[this];exact SeqAt.EqAt.same _
  ·exact SeqAt.EqAt.of_refs hac rc
 | @lstL n a c xs ys h1 h2 hl=>
  intro u v A r1 r2 hu;cases r1;cases r2;obtain⟨its,q1,p1,_⟩:=I.list h1;obtain⟨its',q2,p2,_⟩:=I.list h2;have l1:=q1.length;have l2:=q2.length;have hz:(its.toArray.size != its'.toArray.size)=true:=by simp; omega
  have hu':A.units<cLine:=by omega
  have rc:SeqAt.RcAt A s (.ref a) (.ref c) false:=SeqAt.RcAt.lists_lengths p1.isList p2.isList hz hu';refine⟨SeqAt.EqAt.of_refs (fun z=>?_) rc,fun _=>⟨rc,SeqAt.RcNeAt.lists_lengths p1.isList p2.isList hz hu'⟩⟩;subst z;exact hl (by rw[I.list_inj h1 h2])
 | @tup n a c xs ys e h1 h2 h3 ih=>
  intro u v A r1 r2 hu;cases r1;cases r2;obtain⟨its,q1,p1,_⟩:=I.tuple h1;obtain⟨its',q2,p2,_⟩:=I.tuple h2;have l1:=q1.length;have l2:=q2.length;have key:∀ j (g1:j<its.toArray.size) (g2:j<its'.toArray.size),SeqAt.EqAt A.in1 s its.toArray[j] its'.toArray[j] (e j):=fun j g1 g2=>by
   have g1':j<its.length:=by simpa using g1
   have g2':j<its'.length:=by simpa using g2
   obtain⟨x,hx,rx⟩:∃ x,xs[j]?=some x/\RelV x its[j]:=by
    obtain⟨u',hu',ru'⟩:=q1.get (Xc (by omega:j<xs.length));rw[Xc g1'] at hu';cases hu';exact⟨_,Xc (by omega),ru'⟩
   obtain⟨y,hy,ry⟩:∃ y,ys[j]?=some y/\RelV y its'[j]:=by
    obtain⟨u',hu',ru'⟩:=q2.get (Xc (by omega:j<ys.length));rw[Xc g2'] at hu';cases hu';exact⟨_,Xc (by omega),ru'⟩
   exact(ih j x y hx hy rx ry (by rw[QT]; omega)).1
  have hu':A.units<cLine:=by omega
  have e1:((List.range (min its.toArray.size its'.toArray.size)).all e&&its.toArray.size==its'.toArray.size)=((List.range (min xs.length ys.length)).all e&&xs.length==ys.length):=by rw[Xs,Xs,<- l1,<- l2]
  have rc:SeqAt.RcAt A s (.ref a) (.ref c) ((List.range (min xs.length ys.length)).all e&&xs.length==ys.length):=by rw[<- e1]; exact SeqAt.RcAt.tuples p1 p2 hu' key
  have rn:SeqAt.RcNeAt A s (.ref a) (.ref c) (!((List.range (min xs.length ys.length)).all e&&xs.length==ys.length)):=by rw[<- e1]; exact SeqAt.RcNeAt.tuples p1 p2 hu' key
  refine⟨?_,fun _=>⟨rc,rn⟩⟩;by_cases hac:a=c
  ·subst hac;have:((List.range (min xs.length ys.length)).all e&&xs.length==ys.length)=true:=EqR.refl_true I (EqR.tup h1 h2 h3) rfl;rw[this];exact SeqAt.EqAt.same _
  ·exact SeqAt.EqAt.of_refs hac rc
noncomputable def bq {α:Type} (a b:α):Bool:=@decide (a=b) (Classical.propDecidable (a=b))
theorem bq_iff {a b:α}:bq a b=true ↔ a=b:=by unfold bq; simp
theorem Y_ {a b:α} (h:¬ a=b):bq a b=false:=by
 cases e:bq a b with
 | false=>rfl
 | true=>exact absurd (bq_iff.mp e) h
theorem jeq [DecidableEq α] {a b:α}:bq a b=decide (a=b):=by
 rw[XN,bq_iff,Xu]
structure Cod (α:Type) where
 dp:Nat
 rep:W.Frag->Hp->α->V->Prop
 mono:∀ {K H H' a x},Same H H'->rep K H a x->rep K H' a x
 eqr:∀ {K H a b x y},rep K H a x->rep K H b y->EqR K H dp x y (bq a b)
theorem Same.tupq (e:Same H H') (h:SqT K H a xs):SqT K H' a xs:=by
 rcases h with (h | ⟨o,h⟩) | h
 ·exact .inl (.inl (e _ _ h))
 ·exact .inl (.inr ⟨o,e _ _ h⟩)
 ·exact .inr h
def cInt:Cod Int where
 dp:=0
 rep:=fun _ _ i x=>x=.int i
 mono:=fun _ h=>h
 eqr:=fun {K H a b x y} h1 h2=>by
  subst h1; subst h2;have:bq a b=eqV (.int a) (.int b):=by rw[jeq,eqV,Bool.beq_eq_decide_eq]
  rw[this];exact EqR.flat rfl rfl
theorem Paired.getP {F:α->β->Prop}:∀ {l:List α}{m:List β}{j:Nat}{x:α}{y:β},Paired F l m->l[j]?=some x->m[j]?=some y->F x y
 | _,_,_,_,_,.nil,h,_=>by simp at h
 | _,_,0,_,_,.cons r _,h,h'=>by simp at h h'; subst h; subst h'; exact r
 | _,_,j+1,_,_,.cons _ t,h,h'=>Paired.getP (j:=j) t (by simpa using h) (by simpa using h')
theorem jer (l m:List α) (hl:l.length=m.length):(List.range l.length).all (fun j=>bq (l[j]?) (m[j]?))=bq l m:=by
 rw[XN,X6,bq_iff];simp only[bq_iff,Xp];constructor
 ·intro h;refine List.ext_getElem? fun j=>?_;by_cases hj:j<l.length
  ·exact h j hj
  ·rw[List.getElem?_eq_none (by omega),List.getElem?_eq_none (by omega)]
 ·intro h j _;rw[h]
theorem WH (c:Cod α) {m:List α} (p:Paired (c.rep K H) l xs) (q:Paired (c.rep K H) m ys) (j:Nat) (x y:V) (hx:xs[j]?=some x) (hy:ys[j]?=some y) :
  EqR K H c.dp x y (bq (l[j]?) (m[j]?)):=by
 have h1:j<l.length:=by rw[p.length]; exact (List.getElem?_eq_some_iff.mp hx).1
 have h2:j<m.length:=by rw[q.length]; exact (List.getElem?_eq_some_iff.mp hy).1
 have e1:l[j]?=some l[j]:=Xc h1;have e2:m[j]?=some m[j]:=Xc h2;have r:=c.eqr (Paired.getP p e1 hx) (Paired.getP q e2 hy);have:bq (l[j]?) (m[j]?)=bq l[j] m[j]:=by
  rw[XN,bq_iff,bq_iff,e1,e2,Option.some.injEq]
 rw[this];exact r
def jiQ (c:Cod α):Cod (List α) where
 dp:=c.dp+1
 rep:=fun K H l x=>∃ a xs,x=.ref a/\SqL K H a xs/\Paired (c.rep K H) l xs
 mono:=fun e ⟨a,xs,e1,h,p⟩=>⟨a,xs,e1,e.seq h,Paired.mapP p fun _ _=>c.mono e⟩
 eqr:=fun {K H l m x y} ⟨a,xs,e1,h1,p1⟩ ⟨b,ys,e2,h2,p2⟩=>by
  subst e1; subst e2;have g1:=p1.length;have g2:=p2.length;by_cases hl:l.length=m.length
  ·have r:=EqR.lst (n:=c.dp) h1 h2 (by omega) (WH c p1 p2);rw[<- g1,jer l m hl] at r;exact r
  ·rw[Y_ (fun e=>hl (by rw[e]))];exact EqR.lstL h1 h2 (by omega)
def jiR (c:Cod α):Cod (List α) where
 dp:=c.dp+1
 rep:=fun K H l x=>∃ a xs,x=.ref a/\SqT K H a xs/\Paired (c.rep K H) l xs
 mono:=fun e ⟨a,xs,e1,h,p⟩=>⟨a,xs,e1,e.tupq h,Paired.mapP p fun _ _=>c.mono e⟩
 eqr:=fun {K H l m x y} ⟨a,xs,e1,h1,p1⟩ ⟨b,ys,e2,h2,p2⟩=>by
  subst e1; subst e2;have r:=EqR.tup (n:=c.dp) h1 h2 (WH c p1 p2);rw[<- p1.length,<- p2.length] at r;by_cases hl:l.length=m.length
  ·have e:((List.range (min l.length m.length)).all (fun j=>bq (l[j]?) (m[j]?))&&l.length==m.length)=bq l m:=by
    rw[<- hl,Nat.min_self,jer l m hl];simp
   rw[<- e];exact r
  ·have e:((List.range (min l.length m.length)).all (fun j=>bq (l[j]?) (m[j]?))&&l.length==m.length)=false:=by
    have:(l.length==m.length)=false:=by simpa using hl
    rw[this,Bool.and_false]
   rw[Y_ (fun e=>hl (by rw[e])),<- e];exact r
def jiH (K:W.Frag) (neg:Bool):R2:=fun x y H Q=>∃ n b,EqR K H n x y b/\n<=100/\WB x=false/\Q (.bl (if neg then !b else b)) H
section
theorem QU (hu:X.A.units+200<cLine):OpR X (compareOp .NotEq) (jiH X.K true):=by
 intro pins s σ H x y v u Q I rx ry h;obtain⟨n,b,e,hn,hf,q⟩:=h;obtain⟨_,h2⟩:=EqR.at I e (A:=X.A) rx ry (by omega);exact(h2 hf).2 X.prog X.w X.xe _ ⟨.bl (!b),H,I,rfl,q⟩
theorem Cod.inj (c:Cod α) (I:Inv X pins σ H s) {a b:α}{x:V} (h1:c.rep X.K H a x) (h2:c.rep X.K H b x):a=b:=
 bq_iff.mp (EqR.refl_true I (c.eqr h1 h2) rfl)
theorem Vb {F:α->V->Prop}:∀ {l:List α}{xs:List V}{us:List Value},Paired F l xs->Vals xs us->∀ u∈us,∃ a∈l,∃ x,F a x/\RelV x u
 | _,_,_,.nil,.nil,u,hu=>by cases hu
 | _,_,_,.cons r t,.cons r' t',u,hu=>by
  rcases List.mem_cons.mp hu with rfl | hu
  ·exact⟨_,Xg,_,r,r'⟩
  ·obtain⟨a,ha,x,h⟩:=Vb t t' u hu;exact⟨a,Xe _ ha,x,h⟩
theorem Za {F:α->V->Prop}:∀ {l:List α}{xs:List V}{us:List Value},Paired F l xs->Vals xs us->∀ a∈l,∃ u∈us,∃ x,F a x/\RelV x u
 | _,_,_,.nil,.nil,u,hu=>by cases hu
 | _,_,_,.cons r t,.cons r' t',a,ha=>by
  rcases List.mem_cons.mp ha with rfl | ha
  ·exact⟨_,Xg,_,r,r'⟩
  ·obtain⟨u,hu,x,h⟩:=Za t t' a ha;exact⟨u,Xe _ hu,x,h⟩
def jgk (K:W.Frag) (neg:Bool):R2:=fun x y H Q=>∃ (α:Type) (c:Cod α) (a:α) (l:List α) (p:Addr) (xs:List V) (k:Bool),c.dp<=100/\c.rep K H a x/\y=.ref p/\(SqL K H p xs \/ SqT K H p xs)/\Paired (c.rep K H) l xs /\
 (k=true ↔ a∈l)/\Q (.bl (if neg then !k else k)) H
open Classical in
theorem Vc {c:Cod α}{x:V}{v:Value}{a:α}{k:Bool} (hu:X.A.units+200<cLine) (I:Inv X pins σ H s) (hn:c.dp<=100) (ra:c.rep X.K H a x) (rx:RelV x v)
  (p:Paired (c.rep X.K H) l xs) (r:Vals xs us) (hk:k=true ↔ a∈l) :
  (∀ y,y∈us.toArray->SeqAt.EqAt X.A.in1 s y v (decide (∃ z,RelV z y/\c.rep X.K H a z)))/\(us.toArray.any fun y=>decide (∃ z,RelV z y/\c.rep X.K H a z))=k:=by
 constructor
 ·intro y hy;obtain⟨b,hb,z,hz,rz⟩:=Vb p r y (by simpa using hy);have q:=(EqR.at I (c.eqr hz ra) (A:=X.A.in1) rz rx (by rw[QT]; omega)).1;have e:bq b a=decide (∃ z,RelV z y/\c.rep X.K H a z):=by
   rw[XN,bq_iff,Xu];constructor
   ·intro e; subst e; exact ⟨z,rz,hz⟩
   ·rintro⟨z',rz',hz'⟩;have:z'=z:=rz'.inj rz;subst this;exact c.inj I hz hz'
  rw[<- e];exact q
 ·rw[XN,hk,Array.any_eq_true'];simp only[Xu];constructor
  ·rintro⟨y,hy,z,rz,hz⟩;obtain⟨b,hb,z',hz',rz'⟩:=Vb p r y (by simpa using hy);have:z'=z:=rz'.inj rz;subst this;rw[c.inj I hz hz'];exact hb
  ·intro ha;obtain⟨u,hu',z,hz,rz⟩:=Za p r a ha;exact⟨u,by simpa using hu',z,rz,hz⟩
open Classical in
theorem Zb (hu:X.A.units+200<cLine):OpR X (compareOp .In) (jgk X.K false):=by
 intro pins s σ H x y v u Q I rx ry h;obtain⟨α,c,a,l,p,xs,k,hn,ra,e,hq,pr,hk,q⟩:=h;subst e;cases ry;rcases hq with hq | hq
 ·obtain⟨its,r,pl,hz⟩:=I.list hq;obtain⟨h1,h2⟩:=Vc hu I hn ra rx pr r hk;exact SeqAt.in_listAt _ pl.isList h1 ⟨.bl k,H,I,by rw[h2]; rfl,q⟩
 ·obtain⟨its,r,pl,hz⟩:=I.tuple hq;obtain⟨h1,h2⟩:=Vc hu I hn ra rx pr r hk;exact SeqAt.in_tupleAt _ pl h1 ⟨.bl k,H,I,by rw[h2]; rfl,q⟩
open Classical in
theorem WI (hu:X.A.units+200<cLine):OpR X (compareOp .NotIn) (jgk X.K true):=by
 intro pins s σ H x y v u Q I rx ry h;obtain⟨α,c,a,l,p,xs,k,hn,ra,e,hq,pr,hk,q⟩:=h;subst e;cases ry;rcases hq with hq | hq
 ·obtain⟨its,r,pl,hz⟩:=I.list hq;obtain⟨h1,h2⟩:=Vc hu I hn ra rx pr r hk;exact SeqAt.notIn_listAt _ pl.isList h1 ⟨.bl (!k),H,I,by rw[h2]; rfl,q⟩
 ·obtain⟨its,r,pl,hz⟩:=I.tuple hq;obtain⟨h1,h2⟩:=Vc hu I hn ra rx pr r hk;exact SeqAt.notIn_tupleAt _ pl h1 ⟨.bl (!k),H,I,by rw[h2]; rfl,q⟩
theorem Yo {d:α} (h:i<l.length):l.getD i d=l[i]:=by
 rw[XV,Xc h];rfl
theorem Vd (bs:List Bool):(List.range bs.length).all (fun i=>bs.getD i false)=bs.all id:=by
 rw[XN,X6,X6];constructor
 ·intro h b hb;obtain⟨j,hj,e⟩:=List.mem_iff_getElem.mp hb;have:=h j (Xp.mpr hj);rw[Yo hj,e] at this;exact this
 ·intro h j hj;have hj':=Xp.mp hj;rw[Yo hj'];exact h _ (List.getElem_mem hj')
theorem Ve (bs:List Bool):(List.range bs.length).any (fun i=>bs.getD i false)=bs.any id:=by
 rw[XN,List.any_eq_true,List.any_eq_true];constructor
 ·rintro⟨j,hj,h⟩;have hj':=Xp.mp hj;rw[Yo hj'] at h;exact⟨_,List.getElem_mem hj',h⟩
 ·rintro⟨b,hb,h⟩;obtain⟨j,hj,e⟩:=List.mem_iff_getElem.mp hb;exact⟨j,Xp.mpr hj,by rw[Yo hj,e]; exact h⟩
theorem QV {P:Program}{bs:List Bool} (r:Vals (bs.map V.bl) us):TruthOf P w A (fun i v=>us.toArray[i]?=some v) (fun i=>bs.getD i false):=by
 intro i v s Q E hv hq;have hi:i<us.length:=by
  have:=(Array.getElem?_eq_some_iff.mp hv).1;simpa using this
 have hl:=r.length;rw[Xr] at hl;have hb:i<bs.length:=by omega
 obtain⟨u,hu,ru⟩:=r.get (i:=i) (x:=.bl bs[i]) (by rw[XG,Xc hb]; rfl);have:u=v:=by
  have hv':us[i]?=some v:=by simpa using hv
  rw[hu] at hv';exact Option.some.inj hv'
 subst this;cases ru;refine XX ?_;have e:bs.getD i false=bs[i]:=Yo hb;rw[<- e];exact hq
theorem zC (hc:X.calm=true):Jq X (.builtin "all") (fun xs H Q=>∃ (p:Addr) (bs:List Bool),xs=[.ref p]/\SqL X.K H p (bs.map V.bl)/\Q (.bl (bs.all id)) H):=by
 intro pins s σ H xs us Q I r h;obtain⟨p,bs,e,hq,q⟩:=h;subst e;obtain⟨u,rfl,rx⟩:=r.one;cases rx;obtain⟨its,rv,pl,hz⟩:=I.list hq;have hl:=rv.length;rw[Xr] at hl;have hp:p<s.heap.objs.size:=by
  obtain⟨o,e,_⟩:=pl.isList;exact XB e
 refine call_all_walk (wpAny_pyIter_list pl.isList ?_);refine⟨_,_,_,_,_,_,_,rfl,Walks.list (A:=X.A.in1) (I.ok.hd hc) s.heap.objs.size p (X2 hp) its.toArray,⟨⟨_,XD _ rfl,rfl,rfl⟩,pl.isList.at fun o e=>Xh _ e⟩,QV rv,fun h' tk hk=>?_⟩;refine⟨.bl (bs.all id),H,I.kept (t':=tk) fun b o e=>hk b o ?_ (Xh _ e),?_,q⟩
 ·intro z;rcases List.mem_cons.mp z with z | z
  ·exact absurd (z ▸ XB e) (Nat.lt_irrefl _)
  ·cases z
 ·show Value.bool _=Value.bool _;rw[Xs,<- hl,Vd]
theorem Vf (hc:X.calm=true):Jq X (.builtin "any") (fun xs H Q=>∃ (p:Addr) (bs:List Bool),xs=[.ref p]/\SqL X.K H p (bs.map V.bl)/\Q (.bl (bs.any id)) H):=by
 intro pins s σ H xs us Q I r h;obtain⟨p,bs,e,hq,q⟩:=h;subst e;obtain⟨u,rfl,rx⟩:=r.one;cases rx;obtain⟨its,rv,pl,hz⟩:=I.list hq;have hl:=rv.length;rw[Xr] at hl;have hp:p<s.heap.objs.size:=by
  obtain⟨o,e,_⟩:=pl.isList;exact XB e
 refine call_any_walk (wpAny_pyIter_list pl.isList ?_);refine⟨_,_,_,_,_,_,_,rfl,Walks.list (A:=X.A.in1) (I.ok.hd hc) s.heap.objs.size p (X2 hp) its.toArray,⟨⟨_,XD _ rfl,rfl,rfl⟩,pl.isList.at fun o e=>Xh _ e⟩,QV rv,fun h' tk hk=>?_⟩;refine⟨.bl (bs.any id),H,I.kept (t':=tk) fun b o e=>hk b o ?_ (Xh _ e),?_,q⟩
 ·intro z;rcases List.mem_cons.mp z with z | z
  ·exact absurd (z ▸ XB e) (Nat.lt_irrefl _)
  ·cases z
 ·show Value.bool _=Value.bool _;rw[Xs,<- hl,Ve]
theorem QW (ns:List Int):∀ k,k<=ns.length->preSum (fun i=>ns.getD i 0) k=(ns.take k).sum
 | 0,_=>by simp[preSum]
 | k+1,h=>by
  rw[preSum,QW ns k (by omega),List.take_succ_eq_append_getElem (by omega),List.sum_append,Yo (by omega)];simp
theorem jdn (hc:X.calm=true):Jq X (.builtin "sum") (fun xs H Q=>∃ (p:Addr) (ns:List Int),xs=[.ref p]/\SqL X.K H p (ns.map V.int)/\Q (.int ns.sum) H):=by
 intro pins s σ H xs us Q I r h;obtain⟨p,ns,e,hq,q⟩:=h;subst e;obtain⟨u,rfl,rx⟩:=r.one;cases rx;obtain⟨its,rv,pl,hz⟩:=I.list hq;have hl:=rv.length;rw[Xr] at hl;have hp:p<s.heap.objs.size:=by
  obtain⟨o,e,_⟩:=pl.isList;exact XB e
 refine call_sum_walkAnyS (wpAny_pyIter_list pl.isList ?_);refine⟨_,_,_,_,_,_,_,fun i=>ns.getD i 0,rfl,(Walks.list (A:=X.A.in1) (I.ok.hd hc) s.heap.objs.size p (X2 hp) its.toArray).toS,⟨⟨_,XD _ rfl,rfl,rfl⟩,pl.isList.at fun o e=>Xh _ e⟩,fun b hb=>?_,fun i v hv=>?_,fun s' t' hm=>?_⟩
 ·show b<(s.heap.push _).objs.size;rw[Heap.size_push];rcases List.mem_cons.mp hb with z | z
  ·exact z ▸ Nat.lt_succ_self _
  ·have z':b=p:=by simpa using z
   exact z' ▸ Nat.lt_succ_of_lt hp
 ·have hi:i<its.length:=by
   have:=(Array.getElem?_eq_some_iff.mp hv).1;simpa using this
  have hb:i<ns.length:=by omega
  obtain⟨u,hu,t,ru⟩:=rv.get (i:=i) (x:=.int ns[i]) (by rw[XG,Xc hb]; rfl);have:u=v:=by
   have hv':its[i]?=some v:=by simpa using hv
   rw[hu] at hv';exact Option.some.inj hv'
  subst this;have e:ns.getD i 0=ns[i]:=Yo hb;exact⟨t,by rw[ru,<- e]⟩
 ·obtain⟨hh,hg,hd,ho,_⟩:=hm;refine⟨.int ns.sum,H,?_,⟨t',?_⟩,q⟩
  ·obtain⟨h',g',d',tk',o'⟩:=s';have hg':g'=s.gens:=by first | exact hg | exact hg.symm
   have hd':d'=s.drawn:=by first | exact hd | exact hd.symm
   have ho':o'=s.os:=by first | exact ho | exact ho.symm
   subst hg'; subst hd'; subst ho';refine I.kept (t':=tk') fun b o e=>hh b o ?_ (Xh _ e);intro z;rcases List.mem_cons.mp z with z | z
   ·exact absurd (z ▸ XB e) (Nat.lt_irrefl _)
   ·cases z
  ·rw[Xs,<- hl,QW ns _ (Xm _),List.take_length]
theorem yY:Jq X (.builtin "isinstance") (fun xs H Q=>∃ x c cv t b,xs=[x,c]/\(∀ u,RelV c u->u=cv)/\TyOf X.K H x t/\W.kitOne X.K t cv=some b/\Q (.bl b) H):=by
 intro pins s σ H xs us Q I r h;obtain⟨x,c,cv,t,b,e,hc,ty,hk,q⟩:=h;subst e;obtain⟨u,v,rfl,rx,rc⟩:=r.two;have:=hc v rc;subst this;exact ja6 I rx ty hk fun tk=>⟨.bl b,H,I.tok tk,rfl,q⟩
theorem jbi:MtR X "int.bit_length" (fun x vs H Q=>∃ i,x=.int i/\vs=[]/\Q (.int (Builtin.Int.intBits i)) H):=by
 intro pins s σ H x xs v us Q I rx rv h;obtain⟨i,e1,e2,q⟩:=h;subst e1; subst e2;obtain⟨t,rfl⟩:=rx;have:=rv.zero;subst this;exact call_gives F.slot_int_bit_length (typeIs_int s i t) F.entry_int_bit_length (F.args_int_bit_length_1 _) (AutoIntG2.int_bit_length_int_0 i t) ⟨.int _,H,I.tok _,⟨_,rfl⟩,q⟩
def Z0 (i j:Int):Prop:=0<j/\j<2 ^ 1000
theorem yZ:OpR X (binaryOp .FloorDiv) (rI Z0 fun i j=>.int (i / j)):=opI fun i j t u s Q E hc q=>by
 refine floordiv_int (by have:=hc.1; omega) ?_ (.inl (PyProof.noPylong_of_log2 ?_))
 ·rw[Int.fdiv_eq_ediv_of_nonneg _ (by have:=hc.1; omega)];exact q
 ·have h1:=hc.1;have h2:=hc.2;have:j.natAbs<2 ^ 1000:=by omega
  have h3:j.natAbs≠0:=by omega
  have:=(Nat.log2_lt h3).mpr this;omega
end
def jiI (X:Cx) (sc:Scope) (ix:List Nat):Bool:=
 (sc.kind==.function)&&sc.names.all (fun x=>sc.names.lookup x.1==some x.2)&&sc.names.all (fun x=>x.2 != .free||(X.env.kindOf x.1==some .cell||X.env.kindOf x.1==some .free)) &&
  ix.all (fun i=>decide (i<X.N.length))&&ix.all (fun i=>sc.names.lookup ((X.N[i]?).getD Str.empty)==some .free)
theorem qY (h:jiI X sc ix=true):BlkOk X sc own ix (own++ix.map fun i=>(X.N[i]?).getD Str.empty):=by
 unfold jiI at h;simp only[XF,X6,beq_iff_eq,Xu,wp,bne_iff_ne] at h;obtain⟨⟨⟨⟨h1,h2⟩,h3⟩,h4⟩,h5⟩:=h;exact⟨h1,h2,fun x hx e=>(h3 x hx).resolve_left (fun z=>z e),rfl,h4,h5⟩
structure Def (P:Program) (w:World) (K:W.Frag) (mg:Str->Option Value) (base:Heap) (x:Str) (k:Nat) (ps:List Str) (sp:Sp):Prop where
 ex:∃ f fd,FnOk P w K mg base CX0 k f fd ps sp/\mg x=some (.ref f)/\W.keepIn K (.ref f)=true/\Binds K fd ps []
structure Mth (P:Program) (w:World) (K:W.Frag) (mg:Str->Option Value) (base:Heap) (C:Addr) (m:Str) (k:Nat) (ps:List Str) (sp:Sp):Prop where
 ex:∃ f fd,FnOk P w K mg base CX0 k f fd ps sp/\Meth K C m f/\Binds K fd ps []
 cl:Cls K C
structure Kls (P:Program) (w:World) (K:W.Frag) (mg:Str->Option Value) (base:Heap) (x:Str) (C:Addr) (k:Nat) (ps:List Str) (sp:Sp):Prop where
 ex:∃ f fd,Mk K C f/\FnOk P w K mg base CX0 k f fd ps sp/\mg x=some (.ref C)/\Binds K fd ps []
section
variable {k:Nat}{m:Str}{p:Pos}{o:Expr}{t:TA}
theorem jU (D:Def X.prog X.w X.K X.mg X.base x k ps sp) (hr:Room k X.A) (hg:Gl X x) (ha:PA X (e::es) t) (hdb:(x==("__debug__":Str))=false:=by decide) (he:starEach (e::es) X.env=(false,eval e X.env)::starEach es X.env:=by rfl)
  (hpl:(backTo pos (starEach es X.env)).any (·.1)=false:=by rfl):PE X (.Call (.Name x p) (e::es) [] pos) (JJ sp [] E0 t):=by
 obtain⟨f,fd,F,hm,hk,hb⟩:=D.ex;exact je9 F hr hg hm hk hb .nil jdl ha hdb he hpl
theorem zD (D:Mth X.prog X.w X.K X.mg X.base C m k ps sp) (hr:Room k X.A) (ho:PE X o ta) (ha:PA X (e::es) t)
  (hst:starEach (e::es) X.env=(false,eval e X.env)::starEach es X.env:=by rfl) (hpl:(backTo pos (starEach es X.env)).any (·.1)=false:=by rfl)
  (ht:eval (.Call (.Attribute o m apos) (e::es) [] pos) X.env=(do
   let ov <- eval o X.env
   standAt apos.atName
   let (f,first) <- holding [ov] (getMethod ov m pl)
   callWith pos f first (backTo pos (starEach (e::es) X.env)) (backToKw pos (keywordEach [] X.env))):=by rfl) :
  PE X (.Call (.Attribute o m apos) (e::es) [] pos) (Uy C m sp [] E0 ta t):=by
 obtain⟨f,fd,F,hm,hb⟩:=D.ex;exact je_ (pl:=pl) ho D.cl hm F hr hb .nil jdl ha hst hpl ht
theorem Yp (D:Mth X.prog X.w X.K X.mg X.base C m k ps sp) (hr:Room k X.A) (ho:PE X o ta)
  (ht:eval (.Call (.Attribute o m apos) [] [] pos) X.env=(do
   let ov <- eval o X.env
   standAt apos.atName
   let (f,first) <- holding [ov] (getMethod ov m pl)
   callWith pos f first (backTo pos (starEach [] X.env)) (backToKw pos (keywordEach [] X.env))):=by rfl) :
  PE X (.Call (.Attribute o m apos) [] [] pos) (Uy C m sp [] E0 ta yi):=by
 obtain⟨f,fd,F,hm,hb⟩:=D.ex;exact jdd (pl:=pl) ho D.cl hm F hr hb .nil jdl ht
theorem UM (D:Kls X.prog X.w X.K X.mg X.base x C k ps sp) (hr:Room (k+1) X.A) (hg:Gl X x) (ha:PA X (e::es) t) (hdb:(x==("__debug__":Str))=false:=by decide) (he:starEach (e::es) X.env=(false,eval e X.env)::starEach es X.env:=by rfl)
  (hpl:(backTo pos (starEach es X.env)).any (·.1)=false:=by rfl):PE X (.Call (.Name x p) (e::es) [] pos) (jdc C sp [] E0 t):=by
 obtain⟨f,fd,M,F,hm,hb⟩:=D.ex;exact jfa M F hr hg hm hb .nil jdl ha hdb he hpl
end
def Yq (r r' r'':R2) (ta tb tc td:TE):TE:=fun σ H Q=>ta σ H fun x H1=>tb σ H1 fun y H2=>r x y H2 fun z H3=>∃ k,z=.bl k /\
 (if k=true then tc σ H3 fun w' H4=>r' y w' H4 fun z' H5=>∃ k',z'=.bl k'/\(if k'=true then td σ H5 fun v' H6=>r'' w' v' H6 Q else Q (.bl false) H5) else Q (.bl false) H3)
section
variable {a b c d:Expr} 
theorem jbj {op op' op'':CmpOp}{r r' r'':R2} (ho:OpR X (compareOp op) r) (ho':OpR X (compareOp op') r') (ho'':OpR X (compareOp op'') r'') (ha:PE X a ta) (hb:PE X b tb) (hc:PE X c tc) (hd:PE X d td)
  (hm:lastMarks [op,op',op''] [b,c,d]=false:=by with_unfolding_all rfl):PT X (.Compare a [op,op',op''] [b,c,d] pos) (jc_ (Yq r r' r'' ta tb tc td)):=by
 intro pins s σ H Q I h;refine isTrue_chain (thn (ha pins s σ H _ I h) fun v s1 ⟨x,H1,I1,r1,q1⟩=>test_link (thn (hb pins s1 σ H1 _ I1 q1) fun u s2 ⟨y,H2,I2,r2,q2⟩=>
  thn (ho pins s2 σ H2 x y v u _ I2 r1 r2 q2) fun d s3 ⟨z,H3,I3,r3,k,e,q3⟩=>?_)) hm
 subst e;cases r3;refine XX ?_;cases k with
 | false=>
  obtain⟨k',e',q'⟩:=q3;cases e';exact ite_ff ⟨H3,I3,q'⟩
 | true=>
  refine ite_tt (test_link (thn (hc pins s3 σ H3 _ I3 q3) fun w' s4 ⟨z',H4,I4,r4,q4⟩=>thn (ho' pins s4 σ H4 y z' u w' _ I4 r2 r4 q4) fun d' s5 ⟨z2,H5,I5,r5,k2,e2,q5⟩=>?_));subst e2;cases r5;refine XX ?_;cases k2 with
  | false=>
   obtain⟨k',e',q'⟩:=q5;cases e';exact ite_ff ⟨H5,I5,q'⟩
  | true=>
   refine ite_tt (test_last (thn (hd pins s5 σ H5 _ I5 q5) fun w2 s6 ⟨z3,H6,I6,r6,q6⟩=>thn (ho'' pins s6 σ H6 z' z3 w' w2 _ I6 r4 r6 q6) fun d2 s7 ⟨z4,H7,I7,r7,k3,e3,q7⟩=>?_));subst e3;cases r7;exact XX ⟨H7,I7,q7⟩
end
structure Bi (mg:Str->Option Value):Prop where
 len_:mg "len"=none
 range_:mg "range"=none
 isinstance_:mg "isinstance"=none
 any_:mg "any"=none
 all_:mg "all"=none
 sum_:mg "sum"=none
 list_:mg "list"=none
 tuple_:mg "tuple"=none
 int_:mg "int"=none
 bool_:mg "bool"=none
 str_:mg "str"=none
 enumerate_:mg "enumerate"=none
 reversed_:mg "reversed"=none
 sorted_:mg "sorted"=none
 set_:mg "set"=none
 max_:mg "max"=none
 min_:mg "min"=none
 abs_:mg "abs"=none
 zip_:mg "zip"=none
theorem paired_ints:∀ l:List Int,Paired (cInt.rep K H) l (l.map V.int)
 | []=>.nil
 | _::r=>.cons rfl (paired_ints r)
def jgG (t:TS):TS:=fun D σ H=>∃ J:St->Hp->Prop,t { D with nx:=J } σ H/\∀ σ' H',J σ' H'->D.nx σ' H'
theorem Gy {t:TS} (h:PS X st t):PS X st (jgG t):=by
 intro pins s σ H D I q;obtain⟨J,q,hJ⟩:=q;refine thn (h pins s σ H { D with nx:=J } I q) fun f s1 r=>?_
 cases f with
 | next=>obtain⟨σ',H',I',j⟩:=r; exact ⟨σ',H',I',hJ σ' H' j⟩
 | ret v=>exact r
 | brk=>exact r
 | cont=>exact r
end L2
variable {te:L2.Blk->L2.TE}
namespace L2
open PySem
theorem kG {k:Nat} (hr:Room k A):A.units+200<cLine:=by have:=hr.un; omega
end L2
namespace L2
open PySem PySem.Spec PyProof.Rows
section
theorem Zc:∀ {l:List α}{xs:List β},l.length=xs.length->(∀ (i:Nat) a x,l[i]?=some a->xs[i]?=some x->R a x)->Paired R l xs
 | [],[],_,_=>.nil
 | [],_::_,h,_=>by simp at h
 | _::_,[],h,_=>by simp at h
 | a::l,x::xs,h,k=>.cons (k 0 a x rfl rfl) (Zc (by simpa using h) fun i a' x' h1 h2=>k (i+1) a' x' (by simpa using h1) (by simpa using h2))
theorem jfg {a:Expr}{ta:TA}{p:Pos} (hg:Gl X "range") (hm:X.mg "range"=none) (ha:PA X [a] ta) (hs:starEach [a] X.env=[(false,eval a X.env)]:=by rfl) :
  PE X (.Call (.Name "range" p) [a] [] pos) (fun σ H Q=>ta σ H fun vs H1=>∃ j:Int,vs=[.int j]/\∀ x,H1 x=none->Q (.ref x) (upd H1 x (.rng 0 j))):=by
 intro pins s σ H Q I h;refine Call_ (QK I hg hm boot_range (PyProof.Rows.callWith_type1 (thn (ha pos pins s σ H _ I h) fun us s1 ⟨vs,H1,I1,r1,q1⟩=>?_) hs rfl));obtain⟨j,e,q⟩:=q1;subst e;cases r1 with
 | cons r rr=>
  cases rr;obtain⟨t,rfl⟩:=r;refine call_range_1 ?_;exact⟨.ref s1.heap.objs.size,_,I1.laid (o:=.rng 0 j) (fun b ob q=>Xh _ q) (Xm _) ⟨_,_,_,XD _ rfl⟩,rfl,q _ (I1.hok.fresh (Xm _))⟩
def UN (lo hi:Int):List Int:=(List.range (hi-lo).toNat).map fun k=>lo+((k:Nat):Int)
theorem Vg (hc:X.calm=true):Jq X (.type "list") (fun xs H Q=>∃ p lo hi,xs=[.ref p]/\H p=some (.rng lo hi)/\(-(2 ^ 62)<=lo/\lo<2 ^ 62/\-(2 ^ 62)<=hi/\hi<2 ^ 62)/\(hi-lo).toNat<=2 ^ 24/\∀ l,H l=none->Q (.ref l) (upd H l (.lst ((UN lo hi).map V.int)))):=by
 intro pins s σ H xs us Q I r h;obtain⟨p,lo,hi,rfl,hp,⟨b1,b2,b3,b4⟩,hn,q⟩:=h;obtain⟨u,rfl,rx⟩:=Ux r;cases rx;obtain⟨t,u,v,e⟩:=I.hok p _ hp;refine call_list_range (n:=(hi-lo).toNat) (I.ok.hd hc) e ?_ ?_ hn fun h' tk acc' c' kp e' hacc=>?_
 ·exact small_one b1 b2 b3 b4
 ·unfold Builtin.Range.rangeSize;simp;split <;> omega
 ·refine⟨.ref s.heap.objs.size,_,I.laid (o:=.lst ((UN lo hi).map V.int)) (t':=tk) kp (Xm _) ⟨?_,acc'.toList,c',?_,by simpa using e'⟩,rfl,q _ (I.hok.fresh (Xm _))⟩
  ·rw[Xr,UN,Xr,XL,XY];exact hn
  ·refine Zc (by rw[Xr,UN,Xr,XL,wc,hacc.1]) fun i x v hx hv=>?_;rw[XG] at hx;unfold UN at hx;rw[XG] at hx;cases hr:(List.range (hi-lo).toNat)[i]? with
   | none=>rw[hr] at hx; cases hx
   | some k=>
    rw[hr] at hx;have hk:k=i:=by
     obtain⟨h1,h2⟩:=List.getElem?_eq_some_iff.mp hr;simpa using h2.symm
    subst hk;cases hx;obtain⟨tk',e2⟩:=hacc.2 k v (by simpa using hv);exact⟨tk',by rw[e2,Int.mul_one]⟩
end
end L2
namespace M01
inductive Lt (P:List (Nat×Nat)):Nat->Nat->Prop
 | one {a b:Nat}:(a,b)∈P->Lt P a b
 | step {a b c:Nat}:Lt P a b->(b,c)∈P->Lt P a c
theorem Lt.trans {a b c:Nat} (h:Lt P a b) (h':Lt P b c):Lt P a c:=by
 induction h' with
 | one m=>exact .step h m
 | step _ m ih=>exact .step ih m
def Ok (P:List (Nat×Nat)) (n:Nat):Prop:=∀ p∈P,p.1<p.2/\p.2<n
theorem Lt.lt {a b:Nat} (o:Ok P n) (h:Lt P a b):a<b/\b<n:=by
 induction h with
 | one m=>exact o _ m
 | step _ m ih=>have:=o _ m; exact ⟨by have:=ih.1; omega,this.2⟩
theorem Lt.last {a c:Nat}:Lt P a c ↔ ∃ p∈P,p.2=c/\(Lt P a p.1 \/ p.1=a):=by
 constructor
 ·intro h;cases h with
  | one m=>exact ⟨_,m,rfl,.inr rfl⟩
  | step h m=>exact ⟨_,m,rfl,.inl h⟩
 ·rintro⟨⟨x,y⟩,m,e,h⟩;simp at e;subst e;rcases h with h | h
  ·exact .step h m
  ·simp at h; subst h; exact .one m
def QX (P:List (Nat×Nat)) (found:List Nat) (t:Nat):Nat:=P.foldl (fun acc p=>if p.2=t then acc ||| found.getD p.1 0 ||| 2 ^ p.1 else acc) 0
def bel (P:List (Nat×Nat)):Nat->List Nat
 | 0=>[]
 | t+1=>bel P t++[QX P (bel P t) t]
theorem GE (P:List (Nat×Nat)):∀ n,(bel P n).length=n
 | 0=>rfl
 | t+1=>by rw[bel,List.length_append,GE P t]; rfl
theorem jdo (P:List (Nat×Nat)) (found:List Nat) (t s acc:Nat) :
  (P.foldl (fun acc p=>if p.2=t then acc ||| found.getD p.1 0 ||| 2 ^ p.1 else acc) acc).testBit s=true ↔ acc.testBit s=true \/ ∃ p∈P,p.2=t/\((found.getD p.1 0).testBit s=true \/ p.1=s):=by
 induction P generalizing acc with
 | nil=>simp
 | cons q r ih=>
  rw[List.foldl_cons,ih];by_cases h:q.2=t
  ·rw[if_pos h];simp only[Nat.testBit_or,Nat.testBit_two_pow,Bool.or_eq_true,decide_eq_true_eq,List.mem_cons];constructor
   ·rintro ((h1 | h1) | h1)
    ·rcases h1 with h1 | h1
     ·exact .inl h1
     ·exact .inr ⟨q,.inl rfl,h,.inl h1⟩
    ·exact .inr ⟨q,.inl rfl,h,.inr h1⟩
    ·obtain⟨p,hp,e⟩:=h1;exact .inr ⟨p,.inr hp,e⟩
   ·rintro (h1 | ⟨p,hp | hp,e,e'⟩)
    ·exact .inl (.inl (.inl h1))
    ·subst hp;rcases e' with e' | e'
     ·exact .inl (.inl (.inr e'))
     ·exact .inl (.inr e')
    ·exact .inr ⟨p,hp,e,e'⟩
  ·rw[if_neg h];simp only[List.mem_cons];constructor
   ·rintro (h1 | ⟨p,hp,e⟩)
    ·exact .inl h1
    ·exact .inr ⟨p,.inr hp,e⟩
   ·rintro (h1 | ⟨p,hp | hp,e,e'⟩)
    ·exact .inl h1
    ·subst hp; exact absurd e h
    ·exact .inr ⟨p,hp,e,e'⟩
theorem jbk (P:List (Nat×Nat)):∀ n t,t<n->(bel P n).getD t 0=QX P (bel P t) t
 | 0,t,h=>by omega
 | n+1,t,h=>by
  rw[bel];by_cases e:t<n
  ·rw[List.getD_eq_getElem?_getD,List.getElem?_append_left (by rw[GE]; exact e),<- List.getD_eq_getElem?_getD];exact jbk P n t e
  ·have:t=n:=by omega
   subst this;rw[List.getD_eq_getElem?_getD,List.getElem?_append_right (by rw[GE]; exact Nat.le_refl _),GE];simp
theorem jbl (o:Ok P n):∀ t,∀ m,t<m->∀ s,((bel P m).getD t 0).testBit s=true ↔ Lt P s t:=by
 intro t
 induction t using Nat.strongRecOn with
 | _ t ih=>
  intro m hm s;rw[jbk P m t hm,QX,jdo,Lt.last];simp only[Nat.zero_testBit,Bool.false_eq_true,false_or];constructor
  ·rintro⟨p,hp,e,h⟩;have ho:=o p hp;refine⟨p,hp,e,?_⟩;rcases h with h | h
   ·exact .inl ((ih p.1 (by omega) t (by omega) s).mp h)
   ·exact .inr h
  ·rintro⟨p,hp,e,h⟩;have ho:=o p hp;refine⟨p,hp,e,?_⟩;rcases h with h | h
   ·exact .inl ((ih p.1 (by omega) t (by omega) s).mpr h)
   ·exact .inr h
end M01
namespace L3
open PySem PySem.Spec L2
section
theorem bind_some {m:Option α}{f:α->Option β}{b:β} (h:m.bind f=some b):∃ a,m=some a/\f a=some b:=by
 cases m with
 | none=>cases h
 | some a=>exact ⟨a,rfl,h⟩
structure Cd (α:Type) where
 rep:W.Frag->Hp->α->V->Prop
 mono:∀ {K:W.Frag}{H H':Hp}{a:α}{x:V},Same H H'->rep K H a x->rep K H' a x
def cI:Cd Int:=⟨fun _ _ i v=>v=.int i,fun _ h=>h⟩
def cB:Cd Bool:=⟨fun _ _ i v=>v=.bl i,fun _ h=>h⟩
def cS:Cd Str:=⟨fun _ _ i v=>v=.str i,fun _ h=>h⟩
def cU:Cd Unit:=⟨fun _ _ _ v=>v=.non,fun _ h=>h⟩
def cL (c:Cd α):Cd (List α):=⟨fun K H l v=>∃ a xs,v=.ref a/\H a=some (.lst xs)/\Paired (c.rep K H) l xs,
 fun e ⟨a,xs,h1,h2,h3⟩=>⟨a,xs,h1,e _ _ h2,Paired.mapP h3 fun _ _=>c.mono e⟩⟩
def cT (c:Cd α):Cd (List α):=⟨fun K H l v=>∃ a xs,v=.ref a/\H a=some (.tup xs)/\Paired (c.rep K H) l xs,
 fun e ⟨a,xs,h1,h2,h3⟩=>⟨a,xs,h1,e _ _ h2,Paired.mapP h3 fun _ _=>c.mono e⟩⟩
def cP (c:Cd α) (d:Cd β):Cd (α×β):=⟨fun K H l w=>∃ a u v,w=.ref a/\H a=some (.tup [u,v])/\c.rep K H l.1 u/\d.rep K H l.2 v,
 fun e ⟨a,u,v,h1,h2,h3,h4⟩=>⟨a,u,v,h1,e _ _ h2,c.mono e h3,d.mono e h4⟩⟩
def cScr:Cd (List Int):=⟨fun K H l v=>∃ a,v=.ref a/\SqL K H a (l.map V.int),fun e ⟨a,h1,h2⟩=>⟨a,h1,e.seq h2⟩⟩
def EqC (n:Nat) (c:Cd α):Prop:=∀ {K:W.Frag}{H:Hp}{a b:α}{x y:V},c.rep K H a x->c.rep K H b y->EqR K H n x y (bq a b)
def Cd.cod (c:Cd α) (h:EqC n c):Cod α:=⟨n,c.rep,c.mono,h⟩
theorem eqI:EqC 0 cI:=fun h1 h2=>cInt.eqr h1 h2
theorem eqL {c:Cd α} (h:EqC n c):EqC (n+1) (cL c):=fun {K H a b x y} ⟨p,xs,e1,e2,e3⟩ ⟨q,ys,f1,f2,f3⟩=>
 (jiQ (c.cod h)).eqr (K:=K) (H:=H) (a:=a) (b:=b) ⟨p,xs,e1,SqL.of e2,e3⟩ ⟨q,ys,f1,SqL.of f2,f3⟩
theorem eqT {c:Cd α} (h:EqC n c):EqC (n+1) (cT c):=fun {K H a b x y} ⟨p,xs,e1,e2,e3⟩ ⟨q,ys,f1,f2,f3⟩=>
 (jiR (c.cod h)).eqr (K:=K) (H:=H) (a:=a) (b:=b) ⟨p,xs,e1,SqT.of e2,e3⟩ ⟨q,ys,f1,SqT.of f2,f3⟩
def Fr:Option HO->Prop
 | none=>True
 | some (.tup _)=>True
 | _=>False
theorem jbm (h:H a=none):Fr (H a):=by rw[h]; trivial
theorem jfh (s:Same H H') (h:Fr (H' a)):Fr (H a):=by
 cases q:H a with
 | none=>trivial
 | some o=>rw[s a o q] at h; exact h
structure Ext (F H F' H':Hp):Prop where
 f:Same F F'
 h:Same H H'
 new:∀ a o,F' a=some o->F a=some o \/ Fr (H a)
 sub:Same F' H'
theorem Ext.refl {F:Hp} (s:Same F H):Ext F H F H:=⟨Same.refl _,Same.refl _,fun _ _ h=>.inl h,s⟩
theorem Ext.trans {F F2 H2:Hp} (e:Ext F H F1 H1) (e':Ext F1 H1 F2 H2):Ext F H F2 H2:=
 ⟨e.f.trans e'.f,e.h.trans e'.h,fun a o h=>(e'.new a o h).elim (fun z=>e.new a o z) (fun z=>.inr (jfh e.h z)),e'.sub⟩
theorem qU {o:HO} (h:H a=none):Same H (upd H a o):=fun b u hb=>by
 rw[qp (yg hb h)]; exact hb
theorem Same.upd2 {F:Hp}{o:HO} (s:Same F H) (h:F a=none):Same F (upd H a o):=fun b u hb=>by
 rw[qp (yg hb h)]; exact s b u hb
theorem Same.updB {F:Hp}{o:HO} (s:Same F H):Same (upd F a o) (upd H a o):=fun b u hb=>by
 unfold upd at hb ⊢;by_cases e:b=a
 ·rw[if_pos e] at hb ⊢; exact hb
 ·rw[if_neg e] at hb ⊢; exact s b u hb
theorem Ext.newF {F:Hp}{o:HO} (s:Same F H) (h:H a=none):Ext F H (upd F a o) (upd H a o):=
 ⟨qU (s.free h),qU h,fun b u hb=>by
  by_cases e:b=a
  ·subst e; exact .inr (jbm h)
  ·rw[qp e] at hb; exact .inl hb,Same.updB s⟩
theorem Ext.newO {F:Hp}{o:HO} (s:Same F H) (h:H a=none):Ext F H F (upd H a o):=
 ⟨Same.refl _,qU h,fun _ _ hb=>.inl hb,Same.upd2 s (s.free h)⟩
theorem Ext.upd {F:Hp}{o:HO} (X:Ext Fe He F H) (h:He a=none) (hf:F a=none):Ext Fe He F (L2.upd H a o):=
 ⟨X.f,Same.upd2 X.h h,X.new,Same.upd2 X.sub hf⟩
theorem Ext.frz {F:Hp}{o:HO} (X:Ext Fe He F H) (h:He a=none) (hf:F a=none) (ho:H a=some o):Ext Fe He (L2.upd F a o) H:=
 ⟨X.f.trans (qU hf),X.h,fun b u hb=>by
  by_cases e:b=a
  ·subst e; exact .inr (jbm h)
  ·rw[qp e] at hb; exact X.new b u hb,fun b u hb=>by
  by_cases e:b=a
  ·subst e; rw[kR] at hb; cases hb; exact ho
  ·rw[qp e] at hb; exact X.sub b u hb⟩
structure Pm (α:Type) where
 rel:W.Frag->Hp->Hp->α->V->Prop
 mono:∀ {K:W.Frag}{F H F' H':Hp}{a:α}{x:V},Ext F H F' H'->rel K F H a x->rel K F' H' a x
structure Rs (γ:Type) where
 rel:W.Frag->Hp->Hp->Hp->γ->V->Prop
 back:∀ {K:W.Frag}{H0 H F2 H2:Hp}{c:γ}{v:V},Same H0 H->rel K H F2 H2 c v->rel K H0 F2 H2 c v
def Pm.rs (p:Pm α):Rs α:=⟨fun K _ F H a v=>p.rel K F H a v,fun _ h=>h⟩
def pF (c:Cd α):Pm α:=⟨fun K F _ a v=>c.rep K F a v,fun e h=>c.mono e.f h⟩
def pB (c:Cd α):Pm (List α):=⟨fun K F H l v=>∃ a xs,v=.ref a/\H a=some (.lst xs)/\Paired (c.rep K F) l xs,
 fun e ⟨a,xs,h1,h2,h3⟩=>⟨a,xs,h1,e.h _ _ h2,Paired.mapP h3 fun _ _=>c.mono e.f⟩⟩
def pR (c:Cd α):Pm (List α):=⟨fun K F H l v=>∃ a xs,v=.ref a/\SqL K H a xs/\Paired (c.rep K F) l xs,
 fun e ⟨a,xs,h1,h2,h3⟩=>⟨a,xs,h1,e.h.seq h2,Paired.mapP h3 fun _ _=>c.mono e.f⟩⟩
def pT (c:Cd α):Pm α:=⟨fun K _ H a v=>c.rep K H a v,fun e h=>c.mono e.h h⟩
def rO (c:Cd α):Rs (List α):=⟨fun K H F2 H2 l v=>∃ a xs,v=.ref a/\H a=none/\F2 a=none/\H2 a=some (.lst xs)/\Paired (c.rep K F2) l xs,
 fun s ⟨a,xs,h1,h2,h⟩=>⟨a,xs,h1,s.free h2,h⟩⟩
abbrev rF (c:Cd α):Rs α:=(pF c).rs
def Ev (K:W.Frag) (σ:St) (F H:Hp) (t:TE) (r:Rs α) (m:Option α):Prop:=
 ∀ F1 H1,Ext F H F1 H1->∀ a,m=some a->∀ Q:VK,(∀ v F2 H2,Ext F1 H1 F2 H2->r.rel K H1 F2 H2 a v->Q v H2)->t σ H1 Q
def Et (K:W.Frag) (σ:St) (F H:Hp) (t:TT) (m:Option Bool):Prop:=
 ∀ F1 H1,Ext F H F1 H1->∀ b,m=some b->∀ Q:Bool->Hp->Prop,(∀ F2 H2,Ext F1 H1 F2 H2->Q b H2)->t σ H1 Q
def El (K:W.Frag) (σ:St) (F H:Hp) (t:TA) (c:Cd α) (n:Nat) (m:Option (List α)):Prop:=
 ∀ F1 H1,Ext F H F1 H1->∀ l,m=some l->∀ Q:List V->Hp->Prop,(∀ vs F2 H2,Ext F1 H1 F2 H2->Paired (c.rep K F2) l vs->vs.length=n->Q vs H2)->t σ H1 Q
variable {F:Hp}{t:TE}{c:Cd α}{d:Cd β}{p:Pm α}{q:Pm β}{q':Pm γ}{rs:Rs γ}{ma:Option α} 
theorem Ev.cast {r:Rs α}{m m':Option α} (h:Ev K σ F H t r m) (e:m'=m):Ev K σ F H t r m':=e ▸ h
theorem jh {a:α} (hi:σ[i]?=some (some v)) (h:p.rel K F H a v):Ev K σ F H (Uv i) p.rs (some a):=by
 intro F1 H1 E b e Q k;cases e;exact⟨v,hi,k v F1 H1 (Ext.refl E.sub) (p.mono E h)⟩
theorem jz (i:Int):Ev K σ F H (tC (.int i)) (rF cI) (some i):=fun F1 H1 E b e Q k=>by cases e; exact k _ F1 H1 (Ext.refl E.sub) rfl
theorem GB (i:Bool):Ev K σ F H (tC (.bl i)) (rF cB) (some i):=fun F1 H1 E b e Q k=>by cases e; exact k _ F1 H1 (Ext.refl E.sub) rfl
theorem jV {a:Int} (hi:σ[i]?=some (some (.int a))):Ev K σ F H (Uv i) (rF cI) (some a):=jh (p:=pF cI) hi rfl
theorem JM {r r':Rs α}{m:Option α} (h:Ev K σ F H t r m) (hi:∀ {H1 F2 H2 a v},Same F2 H2->r.rel K H1 F2 H2 a v->r'.rel K H1 F2 H2 a v):Ev K σ F H t r' m:=
 fun F1 H1 E a e Q k=>h F1 H1 E a e Q fun v F2 H2 E2 hr=>k v F2 H2 E2 (hi E2.sub hr)
theorem qZ (h:Ev K σ F H t (rO c) m):Ev K σ F H t (rF (cL c)) m:=by
 intro F1 H1 E l e Q k;refine h F1 H1 E l e Q ?_;rintro v F2 H2 E2 ⟨a,xs,rfl,h1,h2,h3,h4⟩;exact k _ (upd F2 a (.lst xs)) H2 (E2.frz h1 h2 h3) ⟨a,xs,rfl,kR,Paired.mapP h4 fun _ _=>c.mono (qU h2)⟩
theorem xj (h:Ev K σ F H t (rO c) m):Ev K σ F H t (pB c).rs m:=JM h (fun _ ⟨a,xs,h0,_,_,h3,h4⟩=>⟨a,xs,h0,h3,h4⟩)
theorem kW (h:Ev K σ F H t (rF (cL c)) m):Ev K σ F H t (pB c).rs m:=JM h (fun s ⟨a,xs,h0,h3,h4⟩=>⟨a,xs,h0,s _ _ h3,h4⟩)
theorem kl (h:Ev K σ F H t (pB c).rs m):Ev K σ F H t (pR c).rs m:=JM h (fun _ ⟨a,xs,h0,h3,h4⟩=>⟨a,xs,h0,SqL.of h3,h4⟩)
theorem zZ:∀ l:List Int,Paired (cI.rep K H) l (l.map V.int)
 | []=>.nil
 | _::r=>.cons rfl (zZ r)
theorem jfi {m:Option (List Int)} (h:Ev K σ F H t (rF cScr) m):Ev K σ F H t (pR cI).rs m:=JM h (fun s ⟨a,h0,h3⟩=>⟨a,_,h0,s.seq h3,zZ _⟩)
theorem yF {m:Option α} (h:Ev K σ F H t (rF c) m):Ev K σ F H t (pT c).rs m:=JM h (fun s h=>c.mono s h)
theorem jdp (h:Ev K σ F H t (pB c).rs m):Ev K σ F H t (pT (cL c)).rs m:=JM h (fun s ⟨a,xs,h0,h3,h4⟩=>⟨a,xs,h0,h3,Paired.mapP h4 fun _ _=>c.mono s⟩)
def Op2 (K:W.Frag) (r:R2) (p:Pm α) (q:Pm β) (rs:Rs γ) (op:α->β->Option γ):Prop:=
 ∀ F H a b x y,Same F H->p.rel K F H a x->q.rel K F H b y->∀ c,op a b=some c->∀ Q:VK,(∀ v F2 H2,Ext F H F2 H2->rs.rel K H F2 H2 c v->Q v H2)->r x y H Q
theorem Yr {r:R2}{op:α->β->Option γ} (ho:Op2 K r p q rs op) (ha:Ev K σ F H ta p.rs ma) (hb:Ev K σ F H tb q.rs mb):Ev K σ F H (tOp r ta tb) rs (ma.bind fun a=>mb.bind fun b=>op a b):=by
 intro F1 H1 E z hz Q k;obtain⟨a,ea,hz⟩:=bind_some hz;obtain⟨b,eb,hz⟩:=bind_some hz;refine ha F1 H1 E a ea _ fun x F2 H2 E2 hx=>hb F2 H2 (E.trans E2) b eb _ fun y F3 H3 E3 hy=>?_;exact ho F3 H3 a b x y E3.sub (p.mono E3 hx) hy z hz _ fun v F4 H4 E4 hv=>k v F4 H4 (E2.trans (E3.trans E4)) (rs.back (E2.h.trans E3.h) hv)
def Op1 (K:W.Frag) (r:V->Hp->VK->Prop) (p:Pm α) (rs:Rs γ) (op:α->Option γ):Prop:=
 ∀ F H a x,Same F H->p.rel K F H a x->∀ c,op a=some c->∀ Q:VK,(∀ v F2 H2,Ext F H F2 H2->rs.rel K H F2 H2 c v->Q v H2)->r x H Q
theorem jgH {r:V->Hp->VK->Prop} (ho:Op1 K r p rs op) (ha:Ev K σ F H ta p.rs ma):Ev K σ F H (tUn r ta) rs (ma.bind op):=by
 intro F1 H1 E z hz Q k;obtain⟨a,ea,hz⟩:=bind_some hz;refine ha F1 H1 E a ea _ fun x F2 H2 E2 hx=>?_;exact ho F2 H2 a x E2.sub hx z hz _ fun v F4 H4 E4 hv=>k v F4 H4 (E2.trans E4) (rs.back E2.h hv)
theorem jes {r:List V->Hp->VK->Prop} (ho:Op1 K (fun x=>r [x]) p rs op) (ha:Ev K σ F H ta p.rs ma):Ev K σ F H (tCB r (ki ta yi)) rs (ma.bind op):=jgH (r:=fun x=>r [x]) ho ha
@[irreducible] def jgl (i j:Int):Option Int:=if (-(2 ^ 64)<i/\i<2 ^ 64) \/ (-(2 ^ 64)<j/\j<2 ^ 64) then some (i * j) else none
@[irreducible] def jfj (i j:Int):Option Int:=if 0<j/\j<2 ^ 1000 then some (i / j) else none
@[irreducible] def WJ (i j:Int):Option Int:=if 0<j then some (i % j) else none
@[irreducible] def jgI (i j:Int):Option Int:=if 0<=j/\j<=1000000/\i.natAbs<2 ^ 64 then some (i ^ j.toNat) else none
@[irreducible] def jet (i j:Int):Option Int:=if 0<=j/\j<=1000000/\i.natAbs<2 ^ 64 then some (i * 2 ^ j.toNat) else none
@[irreducible] def jfk (i j:Int):Option Int:=if 0<=j then some (i / 2 ^ j.toNat) else none
theorem kX {c:Prop} [Decidable c] {a b:α} (h:(if c then some a else none)=some b):c/\a=b:=by
 by_cases hc:c
 ·rw[if_pos hc] at h; exact ⟨hc,Option.some.inj h⟩
 ·rw[if_neg hc] at h; cases h
theorem kI {g:Int->Int->Int}:Op2 K (rI0 fun i j=>.int (g i j)) (pF cI) (pF cI) (rF cI) (fun i j=>some (g i j)):=by
 intro F H a b x y s hx hy c hc Q k;cases hx; cases hy; cases hc;exact⟨a,b,rfl,rfl,k _ F H (Ext.refl s) rfl⟩
theorem Qr:Op2 K (rI0 fun i j=>.bl (g i j)) (pF cI) (pF cI) (rF cB) (fun i j=>some (g i j)):=by
 intro F H a b x y s hx hy c hc Q k;cases hx; cases hy; cases hc;exact⟨a,b,rfl,rfl,k _ F H (Ext.refl s) rfl⟩
theorem Z1 {C:Int->Int->Prop}{g:Int->Int->Int}{op:Int->Int->Option Int} (h:∀ i j k,op i j=some k->C i j/\g i j=k):Op2 K (rI C fun i j=>.int (g i j)) (pF cI) (pF cI) (rF cI) op:=by
 intro F H a b x y s hx hy c hc Q k;cases hx; cases hy;obtain⟨h1,h2⟩:=h a b c hc;subst h2;exact⟨a,b,rfl,rfl,h1,k _ F H (Ext.refl s) rfl⟩
theorem jgJ:Op2 K (rI CMul fun i j=>.int (i * j)) (pF cI) (pF cI) (rF cI) jgl:=Z1 fun _ _ _ h=>by unfold jgl at h; obtain⟨x,y⟩:=kX h; exact ⟨x,y⟩
theorem jfl:Op2 K (rI Z0 fun i j=>.int (i / j)) (pF cI) (pF cI) (rF cI) jfj:=Z1 fun _ _ _ h=>by unfold jfj at h; obtain⟨x,y⟩:=kX h; exact ⟨x,y⟩
theorem QY:Op2 K (rI (fun _ j=>0<j) fun i j=>.int (i % j)) (pF cI) (pF cI) (rF cI) WJ:=Z1 fun _ _ _ h=>by unfold WJ at h; exact kX h
theorem jh6:Op2 K (rI jgi fun i j=>.int (i ^ j.toNat)) (pF cI) (pF cI) (rF cI) jgI:=Z1 fun _ _ _ h=>by unfold jgI at h; obtain⟨x,y⟩:=kX h; exact ⟨x,y⟩
theorem jfm:Op2 K (rI jgi fun i j=>.int (i * 2 ^ j.toNat)) (pF cI) (pF cI) (rF cI) jet:=Z1 fun _ _ _ h=>by unfold jet at h; obtain⟨x,y⟩:=kX h; exact ⟨x,y⟩
theorem jgK:Op2 K (rI (fun _ j=>0<=j) fun i j=>.int (i / 2 ^ j.toNat)) (pF cI) (pF cI) (rF cI) jfk:=Z1 fun _ _ _ h=>by unfold jfk at h; exact kX h
theorem o_u {g:Int->Int}:Op1 K (rU fun i=>.int (g i)) (pF cI) (rF cI) (fun i=>some (g i)):=by
 intro F H a x s hx c hc Q k;cases hx; cases hc;exact⟨a,rfl,k _ F H (Ext.refl s) rfl⟩
theorem y0:Op2 K rEq (pF cI) (pF cI) (rF cB) (fun i j=>some (decide (i=j))):=by
 intro F H a b x y s hx hy c hc Q k;cases hx; cases hy; cases hc;refine⟨rfl,?_⟩;rw[U6,Bool.beq_eq_decide_eq];exact k _ F H (Ext.refl s) rfl
theorem jgL:Op2 K rNe (pF cI) (pF cI) (rF cB) (fun i j=>some (!decide (i=j))):=by
 intro F H a b x y s hx hy c hc Q k;cases hx; cases hy; cases hc;refine⟨rfl,?_⟩;rw[U6,Bool.beq_eq_decide_eq];exact k _ F H (Ext.refl s) rfl
def jbn (c:Cd α):Prop:=∀ {K:W.Frag}{H:Hp}{a:α}{x:V},c.rep K H a x->WB x=false
theorem nfL:jbn (cL c):=fun⟨_,_,h,_⟩=>by rw[h]; rfl
theorem nfT:jbn (cT c):=fun⟨_,_,h,_⟩=>by rw[h]; rfl
def Ys [DecidableEq α] (a b:α):Bool:=decide (a=b)
def QZ [DecidableEq α] (a:α) (l:List α):Bool:=decide (a∈l)
theorem Yt [DecidableEq α] (h:EqC n c) (hn:n<=100) (nf:jbn c):Op2 K (jiH K true) (pT c) (pT c) (rF cB) (fun a b=>some (!Ys a b)):=by
 intro F H a b x y s hx hy z hz Q k;cases hz;refine⟨n,bq a b,h hx hy,hn,nf hx,?_⟩;rw[jeq];exact k _ F H (Ext.refl s) rfl
theorem jgM [DecidableEq α] (h:EqC n c) (hn:n<=100):Op2 K (jgk K false) (pT c) (pT (cL c)) (rF cB) (fun a l=>some (QZ a l)):=by
 intro F H a l x y s hx hy z hz Q k;cases hz;obtain⟨p,xs,rfl,h1,h2⟩:=hy;exact⟨α,c.cod h,a,l,p,xs,decide (a∈l),hn,hx,rfl,.inl (SqL.of h1),h2,by simp,k _ F H (Ext.refl s) rfl⟩
theorem jh7 [DecidableEq α] (h:EqC n c) (hn:n<=100):Op2 K (jgk K true) (pT c) (pT (cL c)) (rF cB) (fun a l=>some (!QZ a l)):=by
 intro F H a l x y s hx hy z hz Q k;cases hz;obtain⟨p,xs,rfl,h1,h2⟩:=hy;exact⟨α,c.cod h,a,l,p,xs,decide (a∈l),hn,hx,rfl,.inl (SqL.of h1),h2,by simp,k _ F H (Ext.refl s) rfl⟩
theorem jgN [DecidableEq α] (h:EqC n c) (hn:n<=100):Op2 K (jgk K false) (pT c) (pT (cT c)) (rF cB) (fun a l=>some (QZ a l)):=by
 intro F H a l x y s hx hy z hz Q k;cases hz;obtain⟨p,xs,rfl,h1,h2⟩:=hy;exact⟨α,c.cod h,a,l,p,xs,decide (a∈l),hn,hx,rfl,.inr (SqT.of h1),h2,by simp,k _ F H (Ext.refl s) rfl⟩
theorem jh8 [DecidableEq α] (h:EqC n c) (hn:n<=100):Op2 K (jgk K true) (pT c) (pT (cT c)) (rF cB) (fun a l=>some (!QZ a l)):=by
 intro F H a l x y s hx hy z hz Q k;cases hz;obtain⟨p,xs,rfl,h1,h2⟩:=hy;exact⟨α,c.cod h,a,l,p,xs,decide (a∈l),hn,hx,rfl,.inr (SqT.of h1),h2,by simp,k _ F H (Ext.refl s) rfl⟩
theorem Paired.at:∀ {l:List α}{xs:List β}{i:Nat}{a:α},Paired R l xs->l[i]?=some a->∃ x,xs[i]?=some x/\R a x
 | _,_,_,_,.nil,h=>by simp at h
 | _,_,0,_,.cons r _,h=>by simp at h; subst h; exact ⟨_,rfl,r⟩
 | _,_,i+1,a,.cons _ t,h=>by
  obtain⟨x,h1,h2⟩:=Paired.at (i:=i) (a:=a) t (by simpa using h);exact⟨x,by simpa using h1,h2⟩
theorem Paired.atI {xs:List β}{i:Int}{a:α} (h:Paired R l xs) (e:atI l i=some a):∃ x,atI xs i=some x/\R a x:=by
 unfold L2.atI at e ⊢;rw[<- h.length];cases q:ixN l.length i with
 | none=>rw[q] at e; cases e
 | some j=>
  rw[q] at e;exact Paired.at h e
@[irreducible] def pAt (l:List α) (i:Int):Option α:=atI l i
theorem yM:Op2 K (jh4 K) (pR c) (pF cI) (rF c) (fun l i=>pAt l i):=by
 intro F H l i x y s hx hy z hz Q k;unfold pAt at hz;obtain⟨p,xs,rfl,h1,h2⟩:=hx;cases hy;obtain⟨v,e,r⟩:=Paired.atI h2 hz;exact⟨p,xs,i,v,rfl,rfl,h1,e,k _ F H (Ext.refl s) r⟩
theorem Js:Op2 K (jiE K) (pF (cT c)) (pF cI) (rF c) (fun l i=>pAt l i):=by
 intro F H l i x y s hx hy z hz Q k;unfold pAt at hz;obtain⟨p,xs,rfl,h1,h2⟩:=hx;cases hy;obtain⟨v,e,r⟩:=Paired.atI h2 hz;exact⟨p,xs,i,v,rfl,rfl,SqT.of (s _ _ h1),e,k _ F H (Ext.refl s) r⟩
theorem xY:Op1 K (fun x H Q=>∃ p ys,[x]=[V.ref p]/\(SqL K H p ys \/ SqT K H p ys)/\Q (.int ys.length) H) (pR c) (rF cI) (fun l=>some (l.length:Int)):=by
 intro F H l x s hx z hz Q k;obtain⟨p,xs,rfl,h1,h2⟩:=hx;cases hz;refine⟨p,xs,rfl,.inl h1,?_⟩;rw[<- h2.length];exact k _ F H (Ext.refl s) rfl
theorem UO:Op1 K (fun x H Q=>∃ p ys,[x]=[V.ref p]/\(SqL K H p ys \/ SqT K H p ys)/\Q (.int ys.length) H) (pF (cT c)) (rF cI) (fun l=>some (l.length:Int)):=by
 intro F H l x s hx z hz Q k;obtain⟨p,xs,rfl,h1,h2⟩:=hx;cases hz;refine⟨p,xs,rfl,.inr (SqT.of (s _ _ h1)),?_⟩;rw[<- h2.length];exact k _ F H (Ext.refl s) rfl
theorem zE {F:Hp}{Q:VK} (s:Same F H) (h2:Paired (c.rep K F) l xs) (k:∀ v F2 H2,Ext F H F2 H2->(rO c).rel K H F2 H2 l v->Q v H2) (p:Addr) (hp:H p=none):Q (.ref p) (upd H p (.lst xs)):=
 k _ F _ (Ext.newO s hp) ⟨p,xs,rfl,hp,s.free hp,kR,h2⟩
theorem Vh {F:Hp}{Q:VK} (s:Same F H) (h2:Paired (c.rep K F) l xs) (k:∀ v F2 H2,Ext F H F2 H2->(rF (cT c)).rel K H F2 H2 l v->Q v H2) (p:Addr) (hp:H p=none):Q (.ref p) (upd H p (.tup xs)):=
 k _ (upd F p (.tup xs)) _ (Ext.newF s hp) ⟨p,xs,rfl,kR,Paired.mapP h2 fun _ _=>c.mono (qU (s.free hp))⟩
theorem Qb:Op1 K (fun x H Q=>∃ p ys,[x]=[V.ref p]/\(SqL K H p ys \/ SqT K H p ys)/\∀ l,H l=none->Q (.ref l) (upd H l (.lst ys))) (pR c) (rO c) (fun l=>some l):=by
 intro F H l x s hx z hz Q k;obtain⟨p,xs,rfl,h1,h2⟩:=hx;cases hz;exact⟨p,xs,rfl,.inl h1,fun a ha=>zE s h2 k a ha⟩
theorem jbo:Op1 K (fun x H Q=>∃ p ys,[x]=[V.ref p]/\(SqL K H p ys \/ SqT K H p ys)/\∀ l,H l=none->Q (.ref l) (upd H l (.lst ys))) (pF (cT c)) (rO c) (fun l=>some l):=by
 intro F H l x s hx z hz Q k;obtain⟨p,xs,rfl,h1,h2⟩:=hx;cases hz;exact⟨p,xs,rfl,.inr (SqT.of (s _ _ h1)),fun a ha=>zE s h2 k a ha⟩
theorem Zd:Op1 K (fun x H Q=>∃ p ys,[x]=[V.ref p]/\((SqL K H p ys/\∀ l,H l=none->Q (.ref l) (upd H l (.tup ys))) \/ (SqT K H p ys/\Q (.ref p) H))) (pR c) (rF (cT c)) (fun l=>some l):=by
 intro F H l x s hx z hz Q k;obtain⟨p,xs,rfl,h1,h2⟩:=hx;cases hz;exact⟨p,xs,rfl,.inl ⟨h1,fun a ha=>Vh s h2 k a ha⟩⟩
def cut (xs:List α) (lo hi:Option Int):List α:=(xs.drop (HT.sIx xs.length 0 lo)).take (HT.sIx xs.length xs.length hi-HT.sIx xs.length 0 lo)
theorem Paired.drop:∀ {l:List α}{xs:List β} (n:Nat),Paired R l xs->Paired R (l.drop n) (xs.drop n)
 | _,_,0,r=>r
 | _,_,_+1,.nil=>.nil
 | _,_,n+1,.cons _ t=>Paired.drop n t
theorem Paired.take:∀ {l:List α}{xs:List β} (n:Nat),Paired R l xs->Paired R (l.take n) (xs.take n)
 | _,_,0,_=>.nil
 | _,_,_+1,.nil=>.nil
 | _,_,n+1,.cons r t=>.cons r (Paired.take n t)
theorem Paired.app:∀ {l m:List α}{xs ys:List β},Paired R l xs->Paired R m ys->Paired R (l++m) (xs++ys)
 | _,_,_,_,.nil,s=>s
 | _,_,_,_,.cons r t,s=>.cons r (Paired.app t s)
theorem Paired.cutP {R:α->V->Prop} (lo hi:Option Int) (h:Paired R l xs):Paired R (cut l lo hi) (jdh xs lo hi):=by
 unfold cut jdh;rw[h.length];exact Paired.take _ (Paired.drop _ h)
def Eo (K:W.Frag) (σ:St) (F H:Hp) (t:TO) (m:Option (Option Int)):Prop:=
 ∀ F1 H1,Ext F H F1 H1->∀ o,m=some o->∀ Q:Option Int->Hp->Prop,(∀ F2 H2,Ext F1 H1 F2 H2->Q o H2)->t σ H1 Q
theorem GF:Eo K σ F H ja_ (some none):=fun F1 H1 E o e Q k=>by cases e; exact k F1 H1 (Ext.refl E.sub)
theorem jfn {m:Option Int} (h:Ev K σ F H t (rF cI) m):Eo K σ F H (jdg t) (m.bind fun i=>some (some i)):=by
 intro F1 H1 E o e Q k;obtain⟨i,ei,e⟩:=bind_some e;cases e;exact h F1 H1 E i ei _ fun v F2 H2 E2 hv=>⟨i,hv,k F2 H2 E2⟩
theorem jgO {ml:Option (Option Int)} (h:Ev K σ F H t (pR c).rs m) (hl:Eo K σ F H tl ml) (hh:Eo K σ F H th mh) :
  Ev K σ F H (tSl (jhR K) t tl th) (rO c) (m.bind fun l=>ml.bind fun i=>mh.bind fun j=>some (cut l i j)):=by
 intro F1 H1 E z hz Q k;obtain⟨l,el,hz⟩:=bind_some hz;obtain⟨i,ei,hz⟩:=bind_some hz;obtain⟨j,ej,hz⟩:=bind_some hz;cases hz;refine h F1 H1 E l el _ ?_;intro v F2 H2 E2 hv;refine hl F2 H2 (E.trans E2) i ei _ fun F3 H3 E3=>hh F3 H3 ((E.trans E2).trans E3) j ej _ fun F4 H4 E4=>?_;obtain⟨a,xs,rfl,h1,h2⟩:=(pR c).mono (E3.trans E4) hv;refine⟨a,xs,rfl,h1,fun p hp=>?_⟩;exact zE (c:=c) E4.sub (Paired.cutP i j h2) (fun v F5 H5 E5 hr=>k v F5 H5 (E2.trans (E3.trans (E4.trans E5))) ((rO c).back (E2.h.trans (E3.h.trans E4.h)) hr)) p hp
@[irreducible] def Vi (l m:List α):Option (List α):=if l.length+m.length<=16777216 then some (l++m) else none
theorem jdq:Op2 K jiF (pB c) (pB c) (rO c) Vi:=by
 intro F H l m x y s hx hy z hz Q k;obtain⟨a,xs,rfl,h1,h2⟩:=hx;obtain⟨b,ys,rfl,h3,h4⟩:=hy;unfold Vi at hz;obtain⟨hc,rfl⟩:=kX hz;rw[h2.length,h4.length] at hc;exact⟨a,b,xs,ys,rfl,rfl,h1,h3,by rw[XY]; exact hc,fun p hp=>zE s (Paired.app h2 h4) k p hp⟩
end
section
variable {F:Hp}{t:TE}{c:Cd α}{d:Cd β}{p:Pm α}{q:Pm β}{rs:Rs γ}{ma:Option α} 
section
variable {u v:TT}{m m':Option Bool}{a b:Bool}
theorem qN (h:Ev K σ F H t (rF cB) m):Et K σ F H (jc_ t) m:=fun F1 H1 E b e Q k=>h F1 H1 E b e _ fun v F2 H2 E2 hv=>⟨b,hv,k F2 H2 E2⟩
theorem qR (h:Ev K σ F H t (rF cB) m):Et K σ F H (tB t) m:=fun F1 H1 E b e Q k=>h F1 H1 E b e _ fun v F2 H2 E2 hv=>⟨b,hv,k F2 H2 E2⟩
theorem jeu (h:Et K σ F H u m):Et K σ F H (jgu u) (m.bind fun b=>some (!b)):=by
 intro F1 H1 E b e Q k;obtain⟨c,ec,e⟩:=bind_some e;cases e;exact h F1 H1 E c ec _ fun F2 H2 E2=>k F2 H2 E2
theorem jev (h:Et K σ F H u m) (h':Et K σ F H v m'):Et K σ F H (jgt u v) (m.bind fun b=>bif b then m' else some false):=by
 intro F1 H1 E b e Q k;obtain⟨c,ec,e⟩:=bind_some e;refine h F1 H1 E c ec _ fun F2 H2 E2=>?_;cases c with
 | true=>exact jbf (h' F2 H2 (E.trans E2) b e _ fun F3 H3 E3=>k F3 H3 (E2.trans E3))
 | false=>cases e; exact jbe (k F2 H2 E2)
theorem jgP (h:Et K σ F H u m) (h':Et K σ F H v m'):Et K σ F H (tOr u v) (m.bind fun b=>bif b then some true else m'):=by
 intro F1 H1 E b e Q k;obtain⟨c,ec,e⟩:=bind_some e;refine h F1 H1 E c ec _ fun F2 H2 E2=>?_;cases c with
 | true=>cases e; exact jbf (k F2 H2 E2)
 | false=>exact jbe (h' F2 H2 (E.trans E2) b e _ fun F3 H3 E3=>k F3 H3 (E2.trans E3))
theorem jfo {m m':Option Bool} (h:Et K σ F H u m) (e:m'=m):Et K σ F H u m':=e ▸ h
theorem jgQ (h:Et K σ F H u (some a)) (h':Et K σ F H v (some b)):Et K σ F H (tOr u v) (some (a||b)):=jfo (jgP h h') (by cases a <;> rfl)
theorem jew (h:Ev K σ F H t (rF cB) m):Ev K σ F H (jaO t) (rF cB) (m.bind fun b=>some (!b)):=by
 intro F1 H1 E b e Q k;obtain⟨c,ec,e⟩:=bind_some e;cases e;exact h F1 H1 E c ec _ fun v F2 H2 E2 hv=>⟨c,hv,k _ F2 H2 E2 rfl⟩
theorem jbp (h:Ev K σ F H ta (rF cB) m) (h':Ev K σ F H tb (rF cB) m'):Ev K σ F H (Wq ta tb) (rF cB) (m.bind fun b=>bif b then m' else some false):=by
 intro F1 H1 E b e Q k;obtain⟨c,ec,e⟩:=bind_some e;refine h F1 H1 E c ec _ fun v F2 H2 E2 hv=>⟨c,hv,?_⟩;cases c with
 | true=>exact jbf (h' F2 H2 (E.trans E2) b e _ fun v F3 H3 E3 hv=>k v F3 H3 (E2.trans E3) hv)
 | false=>cases e; exact jbe (k _ F2 H2 E2 rfl)
theorem jgR (h:Ev K σ F H ta (rF cB) m) (h':Ev K σ F H tb (rF cB) m'):Ev K σ F H (jgv ta tb) (rF cB) (m.bind fun b=>bif b then some true else m'):=by
 intro F1 H1 E b e Q k;obtain⟨c,ec,e⟩:=bind_some e;refine h F1 H1 E c ec _ fun v F2 H2 E2 hv=>⟨c,hv,?_⟩;cases c with
 | true=>cases e; exact jbf (k _ F2 H2 E2 rfl)
 | false=>exact jbe (h' F2 H2 (E.trans E2) b e _ fun v F3 H3 E3 hv=>k v F3 H3 (E2.trans E3) hv)
theorem jfp (h:Ev K σ F H ta (rF cB) (some a)) (h':Ev K σ F H tb (rF cB) (some b)):Ev K σ F H (Wq ta tb) (rF cB) (some (a&&b)):=(jbp h h').cast (by cases a <;> rfl)
theorem jdr {ma mb mc:Option Int} (ha:Ev K σ F H ta (rF cI) ma) (hb:Ev K σ F H tb (rF cI) mb) (hc:Ev K σ F H tc (rF cI) mc) :
  Ev K σ F H (Y4 (rI0 fun i j=>.bl (g i j)) (rI0 fun i j=>.bl (g' i j)) ta tb tc) (rF cB) (ma.bind fun x=>mb.bind fun y=>bif g x y then mc.bind fun z=>some (g' y z) else some false):=by
 intro F1 H1 E b e Q k;obtain⟨x,ex,e⟩:=bind_some e;obtain⟨y,ey,e⟩:=bind_some e;refine ha F1 H1 E x ex _ fun v F2 H2 E2 hv=>hb F2 H2 (E.trans E2) y ey _ fun v' F3 H3 E3 hv'=>⟨x,y,hv,hv',_,rfl,?_⟩;cases hg:g x y with
 | true=>
  rw[hg] at e;obtain⟨z,ez,e⟩:=bind_some e;cases e;exact jbf (hc F3 H3 (E.trans (E2.trans E3)) z ez _ fun w F4 H4 E4 hw=>⟨y,z,hv',hw,k _ F4 H4 (E2.trans (E3.trans E4)) rfl⟩)
 | false=>
  rw[hg] at e;cases e;exact jbe (k _ F3 H3 (E2.trans E3) rfl)
theorem jbq {x y:Int} (ha:Ev K σ F H ta (rF cI) (some x)) (hb:Ev K σ F H tb (rF cI) (some y)) (hc:Ev K σ F H tc (rF cI) (some z)) :
  Ev K σ F H (Y4 (rI0 fun i j=>.bl (g i j)) (rI0 fun i j=>.bl (g' i j)) ta tb tc) (rF cB) (some (g x y&&g' y z)):=(jdr ha hb hc).cast (by
   show _=bif g x y then some (g' y z) else some false;cases g x y <;> rfl)
theorem Z2 {x y w:Int} (ha:Ev K σ F H ta (rF cI) (some x)) (hb:Ev K σ F H tb (rF cI) (some y)) (hc:Ev K σ F H tc (rF cI) (some z)) (hd:Ev K σ F H td (rF cI) (some w)) :
  Ev K σ F H (Yq (rI0 fun i j=>.bl (g i j)) (rI0 fun i j=>.bl (g' i j)) (rI0 fun i j=>.bl (g'' i j)) ta tb tc td) (rF cB) (some (g x y&&(g' y z&&g'' z w))):=by
 intro F1 H1 E b e Q k;cases e;refine ha F1 H1 E x rfl _ fun v F2 H2 E2 hv=>hb F2 H2 (E.trans E2) y rfl _ fun v' F3 H3 E3 hv'=>⟨x,y,hv,hv',_,rfl,?_⟩;cases hg:g x y with
 | true=>
  rw[hg] at k;refine jbf (hc F3 H3 (E.trans (E2.trans E3)) z rfl _ fun w' F4 H4 E4 hw=>⟨y,z,hv',hw,_,rfl,?_⟩);cases hg':g' y z with
  | true=>
   rw[hg'] at k;exact jbf (hd F4 H4 (E.trans (E2.trans (E3.trans E4))) w rfl _ fun w'' F5 H5 E5 hw'=>⟨z,w,hw,hw',k _ F5 H5 (E2.trans (E3.trans (E4.trans E5))) rfl⟩)
  | false=>
   rw[hg'] at k;exact jbe (k _ F4 H4 (E2.trans (E3.trans E4)) rfl)
 | false=>
  rw[hg] at k;exact jbe (k _ F3 H3 (E2.trans E3) rfl)
end
theorem qr:El K σ F H yi c 0 (some []):=fun F1 H1 E l e Q k=>by cases e; exact k [] F1 H1 (Ext.refl E.sub) .nil rfl
theorem jbr (ha:Ev K σ F H ta (rF c) ma) (hr:El K σ F H tr c n mr):El K σ F H (ki ta tr) c (n+1) (ma.bind fun a=>mr.bind fun l=>some (a::l)):=by
 intro F1 H1 E l e Q k;obtain⟨a,ea,e⟩:=bind_some e;obtain⟨r,er,e⟩:=bind_some e;cases e;refine ha F1 H1 E a ea _ fun v F2 H2 E2 hv=>hr F2 H2 (E.trans E2) r er _ fun vs F3 H3 E3 hvs hl=>?_;exact k _ F3 H3 (E2.trans E3) (.cons (c.mono E3.f hv) hvs) (by simp[hl])
theorem qE (h:El K σ F H tr c n m) (hn:n<=16777216):Ev K σ F H (jiD tr) (rO c) m:=by
 intro F1 H1 E l e Q k;refine h F1 H1 E l e _ fun vs F2 H2 E2 hv hl=>⟨by rw[hl,XY]; exact hn,fun a ha=>?_⟩;exact zE (c:=c) E2.sub hv (fun v F5 H5 E5 hr=>k v F5 H5 (E2.trans E5) ((rO c).back E2.h hr)) a ha
theorem Yu (h:El K σ F H tr c n m) (hn:n<=16777216):Ev K σ F H (jgj tr) (rF (cT c)) m:=by
 intro F1 H1 E l e Q k;refine h F1 H1 E l e _ fun vs F2 H2 E2 hv hl=>⟨by rw[hl,XY]; exact hn,fun a ha=>?_⟩;exact Vh (c:=c) E2.sub hv (fun v F5 H5 E5 hr=>k v F5 H5 (E2.trans E5) hr) a ha
theorem jbs (ha:Ev K σ F H ta (rF c) ma) (hb:Ev K σ F H tb (rF d) mb):Ev K σ F H (jgj (ki ta (ki tb yi))) (rF (cP c d)) (ma.bind fun a=>mb.bind fun b=>some (a,b)):=by
 intro F1 H1 E l e Q k;obtain⟨a,ea,e⟩:=bind_some e;obtain⟨b,eb,e⟩:=bind_some e;cases e;refine ha F1 H1 E a ea _ fun v F2 H2 E2 hv=>hb F2 H2 (E.trans E2) b eb _ fun w F3 H3 E3 hw=>⟨by show 2<=sizeLine; rw[XY]; decide,fun x hx=>?_⟩;have s:=E3.sub;exact k _ (upd F3 x (.tup [v,w])) _ (E2.trans (E3.trans (Ext.newF s hx))) ⟨x,v,w,rfl,kR,c.mono (E3.f.trans (qU (s.free hx))) hv,d.mono (qU (s.free hx)) hw⟩
def sp1 (K:W.Frag) (p1:Pm α1) (rs:Rs γ) (m:α1->Option γ):Sp:=fun vs H Q _=>∃ (x1:α1) (v1:V) (F:Hp) (r:γ),vs=[v1]/\Same F H/\p1.rel K F H x1 v1/\m x1=some r/\∀ u F' H',Ext F H F' H'->rs.rel K H F' H' r u->Q u H'
theorem Ze {p1:Pm α1}{m:α1->Option γ} (h1:Ev K σ F H t1 p1.rs m1):Ev K σ F H (JJ (sp1 K p1 rs m) [] E0 (ki t1 yi)) rs (m1.bind fun x1=>m x1):=by
 intro F0 H0 E0' z e Q k;obtain⟨x1,e1,e⟩:=bind_some e;refine h1 F0 H0 (E0') x1 e1 _ fun v1 F1 H1 E1 r1=>?_;exact⟨x1,v1,F1,z,rfl,E1.sub,r1,e,fun u F' H' E' hu=>k u F' H' ((E1).trans E') (rs.back (E1).h hu)⟩
def Zf (c:Cd α) (C:Addr) (m:Str):Prop:=∀ {K:W.Frag}{F:Hp}{o:α}{v:V},c.rep K F o v->∃ a dx fs,v=.ref a/\F a=some (.ins C dx fs)/\fs.lookup m=none
theorem jds {c1:Cd α1}{m:α1->Option γ} (ob:Zf c1 C nm) (h1:Ev K σ F H t1 (rF c1) m1):Ev K σ F H (Uy C nm (sp1 K (pF c1) rs m) [] E0 t1 yi) rs (m1.bind fun x1=>m x1):=by
 intro F0 H0 E0' z e Q k;obtain⟨x1,e1,e⟩:=bind_some e;refine h1 F0 H0 (E0') x1 e1 _ fun v1 F1 H1 E1 r1=>?_;obtain⟨a,dx,fs,ea,ha,hl⟩:=ob r1;refine⟨a,dx,fs,ea,E1.sub _ _ ha,hl,?_⟩;exact⟨x1,v1,F1,z,rfl,E1.sub,r1,e,fun u F' H' E' hu=>k u F' H' ((E1).trans E') (rs.back (E1).h hu)⟩
def sp2 (K:W.Frag) (p1:Pm α1) (p2:Pm α2) (rs:Rs γ) (m:α1->α2->Option γ):Sp:=fun vs H Q _=>∃ (x1:α1) (x2:α2) (v1 v2:V) (F:Hp) (r:γ),vs=[v1,v2]/\Same F H/\p1.rel K F H x1 v1/\p2.rel K F H x2 v2/\m x1 x2=some r/\∀ u F' H',Ext F H F' H'->rs.rel K H F' H' r u->Q u H'
theorem Zg {p1:Pm α1}{p2:Pm α2}{m:α1->α2->Option γ} (h1:Ev K σ F H t1 p1.rs m1) (h2:Ev K σ F H t2 p2.rs m2):Ev K σ F H (JJ (sp2 K p1 p2 rs m) [] E0 (ki t1 (ki t2 yi))) rs (m1.bind fun x1=>m2.bind fun x2=>m x1 x2):=by
 intro F0 H0 E0' z e Q k;obtain⟨x1,e1,e⟩:=bind_some e;obtain⟨x2,e2,e⟩:=bind_some e;refine h1 F0 H0 (E0') x1 e1 _ fun v1 F1 H1 E1 r1=>?_;refine h2 F1 H1 ((E0').trans E1) x2 e2 _ fun v2 F2 H2 E2 r2=>?_;exact⟨x1,x2,v1,v2,F2,z,rfl,E2.sub,p1.mono (E2) r1,r2,e,fun u F' H' E' hu=>k u F' H' ((E1.trans (E2)).trans E') (rs.back (E1.trans (E2)).h hu)⟩
theorem jdt {c1:Cd α1}{p2:Pm α2}{m:α1->α2->Option γ} (ob:Zf c1 C nm) (h1:Ev K σ F H t1 (rF c1) m1) (h2:Ev K σ F H t2 p2.rs m2):Ev K σ F H (Uy C nm (sp2 K (pF c1) p2 rs m) [] E0 t1 (ki t2 yi)) rs (m1.bind fun x1=>m2.bind fun x2=>m x1 x2):=by
 intro F0 H0 E0' z e Q k;obtain⟨x1,e1,e⟩:=bind_some e;obtain⟨x2,e2,e⟩:=bind_some e;refine h1 F0 H0 (E0') x1 e1 _ fun v1 F1 H1 E1 r1=>?_;obtain⟨a,dx,fs,ea,ha,hl⟩:=ob r1;refine⟨a,dx,fs,ea,E1.sub _ _ ha,hl,?_⟩;refine h2 F1 H1 ((E0').trans E1) x2 e2 _ fun v2 F2 H2 E2 r2=>?_;exact⟨x1,x2,v1,v2,F2,z,rfl,E2.sub,(pF c1).mono (E2) r1,r2,e,fun u F' H' E' hu=>k u F' H' ((E1.trans (E2)).trans E') (rs.back (E1.trans (E2)).h hu)⟩
def sp3 (K:W.Frag) (p1:Pm α1) (p2:Pm α2) (p3:Pm α3) (rs:Rs γ) (m:α1->α2->α3->Option γ):Sp:=fun vs H Q _=>∃ (x1:α1) (x2:α2) (x3:α3) (v1 v2 v3:V) (F:Hp) (r:γ),vs=[v1,v2,v3]/\Same F H/\p1.rel K F H x1 v1/\p2.rel K F H x2 v2/\p3.rel K F H x3 v3/\m x1 x2 x3=some r/\∀ u F' H',Ext F H F' H'->rs.rel K H F' H' r u->Q u H'
theorem Zh {p1:Pm α1}{p2:Pm α2}{p3:Pm α3}{m:α1->α2->α3->Option γ} (h1:Ev K σ F H t1 p1.rs m1) (h2:Ev K σ F H t2 p2.rs m2) (h3:Ev K σ F H t3 p3.rs m3):Ev K σ F H (JJ (sp3 K p1 p2 p3 rs m) [] E0 (ki t1 (ki t2 (ki t3 yi)))) rs (m1.bind fun x1=>m2.bind fun x2=>m3.bind fun x3=>m x1 x2 x3):=by
 intro F0 H0 E0' z e Q k;obtain⟨x1,e1,e⟩:=bind_some e;obtain⟨x2,e2,e⟩:=bind_some e;obtain⟨x3,e3,e⟩:=bind_some e;refine h1 F0 H0 (E0') x1 e1 _ fun v1 F1 H1 E1 r1=>?_;refine h2 F1 H1 ((E0').trans E1) x2 e2 _ fun v2 F2 H2 E2 r2=>?_;refine h3 F2 H2 (((E0').trans E1).trans E2) x3 e3 _ fun v3 F3 H3 E3 r3=>?_;exact⟨x1,x2,x3,v1,v2,v3,F3,z,rfl,E3.sub,p1.mono (E2.trans (E3)) r1,p2.mono (E3) r2,r3,e,fun u F' H' E' hu=>k u F' H' ((E1.trans (E2.trans (E3))).trans E') (rs.back (E1.trans (E2.trans (E3))).h hu)⟩
def Uz (K:W.Frag) (c:Cd α) (f:Str) (d:Cd β) (g:α->β):Prop:=∀ {F:Hp}{o:α}{v:V},c.rep K F o v->∃ a C dx fs u,v=.ref a/\F a=some (.ins C dx fs)/\Cls K C/\NoAttr K C f/\fs.lookup f=some u/\d.rep K F (g o) u
theorem jgS {f:Str}{g:α->β} (hf:Uz K c f d g) (h:Ev K σ F H t (rF c) ma):Ev K σ F H (jgA K t f) (rF d) (ma.bind fun o=>some (g o)):=by
 intro F1 H1 E z e Q k;obtain⟨o,eo,e⟩:=bind_some e;cases e;refine h F1 H1 E o eo _ fun v F2 H2 E2 hv=>?_;obtain⟨a,C,dx,fs,u,e1,e2,e3,e4,e5,e6⟩:=hf hv;exact⟨a,C,dx,fs,u,e1,E2.sub _ _ e2,e3,e4,e5,k u F2 H2 E2 e6⟩
end
section
variable {F:Hp}{t te:TE}{c:Cd α}{d:Cd β}{p:Pm α}{q:Pm β}{rs:Rs γ} 
structure Own (K:W.Frag) (He F H:Hp) (c:Cd α) (l:List α) (a:Addr):Prop where
 e:He a=none
 f:F a=none
 h:∃ xs,H a=some (.lst xs)/\Paired (c.rep K F) l xs
theorem Own.mono (o:Own K He F H c l a) (E:Ext F H F' H'):Own K He F' H' c l a:=by
 obtain⟨xs,h1,h2⟩:=o.h;refine⟨o.e,?_,xs,E.h _ _ h1,Paired.mapP h2 fun _ _=>c.mono E.f⟩;cases e:F' a with
 | none=>rfl
 | some u=>
  rcases E.new a u e with z | z
  ·rw[o.f] at z; cases z
  ·rw[h1] at z; cases z
theorem Own.b (o:Own K He F H c l a):(pB c).rel K F H l (.ref a):=let ⟨xs,h1,h2⟩:=o.h; ⟨a,xs,rfl,h1,h2⟩
structure Chg (a:Addr) (F H F' H':Hp):Prop where
 f:Same F F'
 h:∀ b o,b≠a->H b=some o->H' b=some o
 new:∀ b o,b≠a->F' b=some o->F b=some o \/ Fr (H b)
theorem Own.chg {b:Addr} (o:Own K He F H c l b) (C:Chg a F H F' H') (hne:b≠a):Own K He F' H' c l b:=by
 obtain⟨xs,h1,h2⟩:=o.h;refine⟨o.e,?_,xs,C.h _ _ hne h1,Paired.mapP h2 fun _ _=>c.mono C.f⟩;cases e:F' b with
 | none=>rfl
 | some u=>
  rcases C.new b u hne e with z | z
  ·rw[o.f] at z; cases z
  ·rw[h1] at z; cases z
theorem Own.ne {b:Addr}{F0 H0:Hp} (o:Own K He F0 H0 c l b) (h:H0 a=none):b≠a:=by
 obtain⟨xs,h1,_⟩:=o.h;exact yg h1 h
theorem Own.freeze (o:Own K He F H c l a) (X:Ext Fe He F H):∃ F',Ext Fe He F' H/\Chg a F H F' H/\(cL c).rep K F' l (.ref a):=by
 obtain⟨xs,h1,h2⟩:=o.h;exact⟨upd F a (.lst xs),X.frz o.e o.f h1,⟨qU o.f,fun _ _ _ h=>h,fun b u e hb=>by rw[qp e] at hb; exact .inl hb⟩,a,xs,rfl,kR,Paired.mapP h2 fun _ _=>c.mono (qU o.f)⟩
def Bor (K:W.Frag) (He F:Hp) (c:Cd α) (l:List α) (v:V):Prop:=(pB c).rel K F He l v
theorem Bor.mono (b:Bor K He F c l v) (s:Same F F'):Bor K He F' c l v:=let ⟨a,xs,h0,h1,h2⟩:=b; ⟨a,xs,h0,h1,Paired.mapP h2 fun _ _=>c.mono s⟩
theorem Bor.b (b:Bor K He F c l v) (X:Ext Fe He F H):(pB c).rel K F H l v:=let ⟨a,xs,h0,h1,h2⟩:=b; ⟨a,xs,h0,X.h _ _ h1,h2⟩
theorem jex {m:Option α}{f:α->Option δ} (he:Ev K σ F H te p.rs m) (X:Ext Fe He F H) (hm:m.bind f=some r) (k:∀ a v F' H',f a=some r->Ext F H F' H'->Ext Fe He F' H'->p.rel K F' H' a v->D.nx (σ.set i (some v)) H'):U4 te (xq i) D σ H:=by
 obtain⟨a,ea,hm⟩:=bind_some hm;exact he F H (Ext.refl X.sub) a ea _ fun v F2 H2 E hv=>k a v F2 H2 hm E (X.trans E) hv
theorem Gi {m:Option Int}{f:Int->Option δ} (he:Ev K σ F H te (rF cI) m) (X:Ext Fe He F H) (hm:m.bind f=some r) (k:∀ a F' H',f a=some r->Ext F H F' H'->Ext Fe He F' H'->D.nx (σ.set i (some (.int a))) H'):U4 te (xq i) D σ H:=
 jex (p:=pF cI) he X hm fun a v F' H' h1 h2 h3 h4=>by have e:v=.int a:=h4; subst e; exact k a F' H' h1 h2 h3
theorem jbt {f:List α->Option δ} (he:Ev K σ F H te (rO c) m) (X:Ext Fe He F H) (hm:m.bind f=some r) (k:∀ l a F' H',f l=some r->Ext F H F' H'->Ext Fe He F' H'->H a=none->Own K He F' H' c l a->D.nx (σ.set i (some (.ref a))) H'):U4 te (xq i) D σ H:=by
 obtain⟨a,ea,hm⟩:=bind_some hm;refine he F H (Ext.refl X.sub) a ea _ ?_;rintro v F2 H2 E ⟨b,xs,rfl,h1,h2,h3,h4⟩;exact k a b F2 H2 hm E (X.trans E) h1 ⟨X.h.free h1,h2,xs,h3,h4⟩
theorem kf {r:γ}{m:Option γ} (he:Ev K σ F H te rs m) (X:Ext Fe He F H) (hm:m=some r) (k:∀ v F' H',Ext Fe He F' H'->rs.rel K He F' H' r v->D.rt v H'):jgx te D σ H:=
 he F H (Ext.refl X.sub) r hm _ fun v F2 H2 E hv=>k v F2 H2 (X.trans E) (rs.back X.h hv)
theorem ze {r:List α} (hi:σ[i]?=some (some (.ref a))) (o:Own K He F H c l a) (X:Ext Fe He F H) (hm:some l=some r) (k:∀ v F' H',Ext Fe He F' H'->(rO c).rel K He F' H' r v->D.rt v H'):jgx (Uv i) D σ H:=by
 cases hm;obtain⟨xs,h1,h2⟩:=o.h;exact⟨_,hi,k _ F H X ⟨a,xs,rfl,o.e,o.f,h1,h2⟩⟩
theorem jfq {u:TT}{t t':TS}{m:Option Bool}{A:Option δ} (hc:Et K σ F H u m) (X:Ext Fe He F H) (hm:(m.bind fun b=>bif b then A else B)=some r) (h1:∀ F' H',A=some r->Ext F H F' H'->Ext Fe He F' H'->t D σ H')
  (h2:∀ F' H',B=some r->Ext F H F' H'->Ext Fe He F' H'->t' D σ H'):jc6 u t t' D σ H:=by
 obtain⟨b,eb,hm⟩:=bind_some hm;refine hc F H (Ext.refl X.sub) b eb _ fun F2 H2 E=>?_;cases b with
 | true=>exact jbf (h1 F2 H2 hm E (X.trans E))
 | false=>exact jbe (h2 F2 H2 hm E (X.trans E))
theorem jbu {u:TT}{t t':TS}{b:Bool}{A:Option δ} (hc:Et K σ F H u (some b)) (X:Ext Fe He F H) (hm:(bif b then A else B)=some r) (h1:∀ F' H',b=true->A=some r->Ext F H F' H'->Ext Fe He F' H'->t D σ H')
  (h2:∀ F' H',b=false->B=some r->Ext F H F' H'->Ext Fe He F' H'->t' D σ H'):jc6 u t t' D σ H:=by
 refine hc F H (Ext.refl X.sub) b rfl _ fun F2 H2 E=>?_;cases b with
 | true=>exact jbf (h1 F2 H2 rfl hm E (X.trans E))
 | false=>exact jbe (h2 F2 H2 rfl hm E (X.trans E))
theorem Qs {u:TT}{t t':TS}{m:Option Bool}{A B:Option β}{f:β->Option δ} (I:β->St->Hp->Prop) (hc:Et K σ F H u m) (X:Ext Fe He F H) (hm:(m.bind fun b=>bif b then A else B).bind f=some r)
  (h1:∀ b F' H',A=some b->Ext F H F' H'->Ext Fe He F' H'->t { D with nx:=I b } σ H') (h2:∀ b F' H',B=some b->Ext F H F' H'->Ext Fe He F' H'->t' { D with nx:=I b } σ H') (hk:∀ b σ' H',f b=some r->I b σ' H'->D.nx σ' H'):jgG (jc6 u t t') D σ H:=by
 obtain⟨b,eb,hm⟩:=bind_some hm;obtain⟨x,ex,eb⟩:=bind_some eb;refine⟨I b,?_,fun σ' H' h=>hk b σ' H' hm h⟩;refine hc F H (Ext.refl X.sub) x ex _ fun F2 H2 E=>?_;cases x with
 | true=>exact jbf (h1 b F2 H2 eb E (X.trans E))
 | false=>exact jbe (h2 b F2 H2 eb E (X.trans E))
theorem Q0 {u:TT}{t t':TS}{x:Bool}{A B:Option β}{f:β->Option δ} (I:β->St->Hp->Prop) (hc:Et K σ F H u (some x)) (X:Ext Fe He F H) (hm:(bif x then A else B).bind f=some r)
  (h1:∀ b F' H',A=some b->Ext F H F' H'->Ext Fe He F' H'->t { D with nx:=I b } σ H') (h2:∀ b F' H',B=some b->Ext F H F' H'->Ext Fe He F' H'->t' { D with nx:=I b } σ H') (hk:∀ b σ' H',f b=some r->I b σ' H'->D.nx σ' H'):jgG (jc6 u t t') D σ H:=
 Qs (m:=some x) I hc X hm h1 h2 hk
theorem jfr {m:Option γ}{f:γ->Option δ} (he:Ev K σ F H te rs m) (X:Ext Fe He F H) (hm:m.bind f=some r) (k:∀ a F' H',f a=some r->Ext F H F' H'->Ext Fe He F' H'->D.nx σ H'):Wr te D σ H:=by
 obtain⟨a,ea,hm⟩:=bind_some hm;exact he F H (Ext.refl X.sub) a ea _ fun v F2 H2 E hv=>k a F2 H2 hm E (X.trans E)
@[irreducible] def JN (l:List α) (y:α):Option (List α):=if l.length<16777216 then some (l++[y]) else none
theorem Vj (X:Ext Fe He F H) (he:He a=none) (hf:F a=none) (h:Paired (c.rep K F) l xs):Ext Fe He F (upd H a (.lst xs))/\Own K He F (upd H a (.lst xs)) c l a:=
 ⟨X.upd he hf,he,hf,xs,kR,h⟩
theorem GG {F:Hp}{o:HO} (E:Ext F H F' H'):Chg a F H F' (upd H' a o):=
 ⟨E.f,fun b u hb h=>by rw[qp hb]; exact E.h b u h,fun b u _ h=>E.new b u h⟩
theorem z_ {m:Option α}{f:List α->Option δ} (hi:σ[i]?=some (some (.ref a))) (o:Own K He F H c l a) (he:Ev K σ F H te (rF c) m) (X:Ext Fe He F H) (hm:(m.bind fun y=>JN l y).bind f=some r)
  (k:∀ l' F' H',f l'=some r->Chg a F H F' H'->Ext Fe He F' H'->Own K He F' H' c l' a->D.nx σ H'):Wr (tBM K "list" Qa (Uv i) (ki te yi)) D σ H:=by
 obtain⟨l',el,hm⟩:=bind_some hm;obtain⟨y,ey,el⟩:=bind_some el;unfold JN at el;obtain⟨hl,rfl⟩:=kX el;obtain⟨xs,h1,h2⟩:=o.h;refine⟨_,hi,.inl ⟨rfl,_,SqL.of h1⟩,he F H (Ext.refl X.sub) y ey _ fun v F2 H2 E hv=>?_⟩;have o2:=o.mono E;have h3:Paired (c.rep K F2) l xs:=Paired.mapP h2 fun _ _=>c.mono E.f;refine⟨a,xs,v,rfl,rfl,E.h _ _ h1,by rw[XY,<- h2.length]; exact hl,?_⟩;obtain⟨X',o'⟩:=Vj (K:=K) (c:=c) (X.trans E) o.e o2.f (Paired.app h3 (.cons hv .nil));exact k _ F2 _ hm (GG E) X' o'
structure ItOk (K:W.Frag) (J:It) (c:Cd α) (l:List α) (G:Hp->Hp->Prop):Prop where
 go:∀ i F H,G F H->i<l.length->J.go i H
 yld:∀ i F H x H',G F H->J.yld i H x H'->∀ a,l[i]?=some a->∃ F',Ext F H F' H'/\c.rep K F' a x
 stop:∀ F H,G F H->J.stop l.length H
theorem Yv (h:∀ F H,G F H->SqL K H a xs/\Same F1 F/\Same F H) (hp:Paired (c.rep K F1) l xs):ItOk K (Itl K a) c l G where
 go:=fun i F H g hi=>⟨xs,xs[i]'(by rw[<- hp.length]; exact hi),(h F H g).1,Xc _⟩
 yld:=fun i F H x H' g y b hb=>by
  obtain⟨e,y⟩:=y;subst e;obtain⟨s1,s2,s3⟩:=h F _ g;obtain⟨v,hv,r⟩:=Paired.at hp hb;have:=y xs s1;rw[hv] at this;cases this;exact⟨F,Ext.refl s3,c.mono s2 r⟩
 stop:=fun F H g=>⟨xs,(h F H g).1,by rw[hp.length]; exact Xm _⟩
theorem jey (h:∀ F H,G F H->SqT K H a xs/\Same F1 F/\Same F H) (hp:Paired (c.rep K F1) l xs):ItOk K (Itt K a) c l G where
 go:=fun i F H g hi=>⟨xs,xs[i]'(by rw[<- hp.length]; exact hi),(h F H g).1,Xc _⟩
 yld:=fun i F H x H' g y b hb=>by
  obtain⟨e,y⟩:=y;subst e;obtain⟨s1,s2,s3⟩:=h F _ g;obtain⟨v,hv,r⟩:=Paired.at hp hb;have:=y xs s1;rw[hv] at this;cases this;exact⟨F,Ext.refl s3,c.mono s2 r⟩
 stop:=fun F H g=>⟨xs,(h F H g).1,by rw[hp.length]; exact Xm _⟩
def Jm (lo hi:Int):List Int:=(List.range (hi-lo).toNat).map fun k=>lo+((k:Nat):Int)
theorem UP (lo hi:Int):(Jm lo hi).length=(hi-lo).toNat:=by simp[Jm]
@[irreducible] def yr (lo hi:Int):Option (List Int):=if -(2 ^ 62)<=lo/\lo<2 ^ 62/\-(2 ^ 62)<=hi/\hi<2 ^ 62 then some (Jm lo hi) else none
theorem Zi {lo hi:Int} (h:∀ F H,G F H->Same F H):ItOk K (Itr lo (hi-lo).toNat) cI (Jm lo hi) G where
 go:=fun i F H g hi'=>by rw[UP] at hi'; exact hi'
 yld:=fun i F H x H' g y b hb=>by
  obtain⟨e,y⟩:=y;subst e y;refine⟨F,Ext.refl (h F _ g),?_⟩;unfold Jm at hb;rw[XG] at hb;cases q:(List.range (hi-lo).toNat)[i]? with
  | none=>rw[q] at hb; cases hb
  | some j=>
   rw[q] at hb;have hij:j=i:=by
    obtain⟨h1,h2⟩:=List.getElem?_eq_some_iff.mp q;simpa using h2.symm
   subst hij;cases hb;rfl
 stop:=fun F H g=>by rw[UP]; exact Xm _
def Ei (K:W.Frag) (σ:St) (F H Fe He:Hp) (wi:TI) (c:Cd α) (m:Option (List α)):Prop:=
 Ext Fe He F H->∀ l,m=some l->∀ R:It->Hp->Prop,(∀ J F1 H1,Ext F H F1 H1->ItOk K J c l (fun F' H'=>Ext Fe He F' H'/\Same F1 F')->R J H1)->wi σ H R
theorem Q1 (h:Ev K σ F H t (rF (cL c)) m):Ei K σ F H Fe He (jc8 K t) c m:=by
 intro X l e R k;refine h F H (Ext.refl X.sub) l e _ ?_;rintro v F2 H2 E ⟨a,xs,rfl,h1,h2⟩;exact⟨a,rfl,⟨xs,SqL.of (E.sub _ _ h1)⟩,k _ F2 H2 E (Yv (F1:=F2) (fun F' H' g=>⟨SqL.of (g.1.sub _ _ (g.2 _ _ h1)),g.2,g.1.sub⟩) h2)⟩
theorem jgT (h:Ev K σ F H t (rF (cT c)) m):Ei K σ F H Fe He (jhY K t) c m:=by
 intro X l e R k;refine h F H (Ext.refl X.sub) l e _ ?_;rintro v F2 H2 E ⟨a,xs,rfl,h1,h2⟩;exact⟨a,rfl,⟨xs,SqT.of (E.sub _ _ h1)⟩,k _ F2 H2 E (jey (F1:=F2) (fun F' H' g=>⟨SqT.of (g.1.sub _ _ (g.2 _ _ h1)),g.2,g.1.sub⟩) h2)⟩
theorem Gz (hi:σ[i]?=some (some v)) (b:Bor K He F c l v):Ei K σ F H Fe He (jc8 K (Uv i)) c (some l):=by
 intro X l' e R k;cases e;obtain⟨a,xs,rfl,h1,h2⟩:=b;exact⟨_,hi,a,rfl,⟨xs,SqL.of (X.h _ _ h1)⟩,k _ F H (Ext.refl X.sub) (Yv (F1:=F) (fun F' H' g=>⟨SqL.of (g.1.h _ _ h1),g.2,g.1.sub⟩) h2)⟩
theorem jbv {m:Option Int} (h:Ev K σ F H t (rF cI) m):Ei K σ F H Fe He (U5 (ki t yi)) cI (m.bind fun j=>yr 0 j):=by
 intro X l e R k;obtain⟨j,ej,e⟩:=bind_some e;unfold yr at e;obtain⟨⟨h1,h2,h3,h4⟩,rfl⟩:=kX e;refine h F H (Ext.refl X.sub) j ej _ fun v F2 H2 E hv=>?_;have ev:v=.int j:=hv;subst ev;refine⟨j,rfl,h3,h4,?_⟩;have q:=k (Itr 0 (j-0).toNat) F2 H2 E (Zi fun F' H' g=>g.1.sub);rw[Int.sub_zero] at q;exact q
theorem jfs {m:Option Int} (h:Ev K σ F H t (rF cI) m) (h':Ev K σ F H ta (rF cI) m'):Ei K σ F H Fe He (Yl (ki t (ki ta yi))) cI (m.bind fun i=>m'.bind fun j=>yr i j):=by
 intro X l e R k;obtain⟨i,ei,e⟩:=bind_some e;obtain⟨j,ej,e⟩:=bind_some e;unfold yr at e;obtain⟨⟨h1,h2,h3,h4⟩,rfl⟩:=kX e;refine h F H (Ext.refl X.sub) i ei _ fun v F2 H2 E hv=>h' F2 H2 E j ej _ fun v' F3 H3 E3 hv'=>?_;have ev:v=.int i:=hv;have ev':v'=.int j:=hv';subst ev ev';exact⟨i,j,rfl,⟨h1,h2,h3,h4⟩,k (Itr i (j-i).toNat) F3 H3 (E.trans E3) (Zi fun F' H' g=>g.1.sub)⟩
def Ec (K:W.Frag) (σ:St) (F H:Hp) (wi:TI) (c:Cd α) (m:Option (List α)):Prop:=
 ∀ F1 H1,Ext F H F1 H1->∀ l,m=some l->∀ R:It->Hp->Prop,(∀ J F2 H2,Ext F1 H1 F2 H2->ItOk K J c l (fun F' H'=>Ext F2 H2 F' H')->R J H2)->wi σ H1 R
theorem yN (h:Ev K σ F H t (pR c).rs m):Ec K σ F H (jc8 K t) c m:=by
 intro F1 H1 X l e R k;refine h F1 H1 X l e _ ?_;rintro v F2 H2 E ⟨a,xs,rfl,h1,h2⟩;exact⟨a,rfl,⟨xs,h1⟩,k _ F2 H2 E (Yv (F1:=F2) (fun F' H' g=>⟨g.h.seq h1,g.f,g.sub⟩) h2)⟩
theorem jez (h:Ev K σ F H t (rF (cT c)) m):Ec K σ F H (jhY K t) c m:=by
 intro F1 H1 X l e R k;refine h F1 H1 X l e _ ?_;rintro v F2 H2 E ⟨a,xs,rfl,h1,h2⟩;exact⟨a,rfl,⟨xs,SqT.of (E.sub _ _ h1)⟩,k _ F2 H2 E (jey (F1:=F2) (fun F' H' g=>⟨SqT.of (g.sub _ _ (g.f _ _ h1)),g.f,g.sub⟩) h2)⟩
theorem jbw {m:Option Int} (h:Ev K σ F H t (rF cI) m):Ec K σ F H (U5 (ki t yi)) cI (m.bind fun j=>yr 0 j):=by
 intro F1 H1 X l e R k;obtain⟨j,ej,e⟩:=bind_some e;unfold yr at e;obtain⟨⟨h1,h2,h3,h4⟩,rfl⟩:=kX e;refine h F1 H1 X j ej _ fun v F2 H2 E hv=>?_;have ev:v=.int j:=hv;subst ev;refine⟨j,rfl,h3,h4,?_⟩;have q:=k (Itr 0 (j-0).toNat) F2 H2 E (Zi fun F' H' g=>g.sub);rw[Int.sub_zero] at q;exact q
theorem jft {m:Option Int} (h:Ev K σ F H t (rF cI) m) (h':Ev K σ F H ta (rF cI) m'):Ec K σ F H (Yl (ki t (ki ta yi))) cI (m.bind fun i=>m'.bind fun j=>yr i j):=by
 intro F1 H1 X l e R k;obtain⟨i,ei,e⟩:=bind_some e;obtain⟨j,ej,e⟩:=bind_some e;unfold yr at e;obtain⟨⟨h1,h2,h3,h4⟩,rfl⟩:=kX e;refine h F1 H1 X i ei _ fun v F2 H2 E hv=>h' F2 H2 (X.trans E) j ej _ fun v' F3 H3 E3 hv'=>?_;have ev:v=.int i:=hv;have ev':v'=.int j:=hv';subst ev ev';exact⟨i,j,rfl,⟨h1,h2,h3,h4⟩,k (Itr i (j-i).toNat) F3 H3 (E.trans E3) (Zi fun F' H' g=>g.sub)⟩
def forM:List α->β->(β->α->Option β)->Option β
 | [],b,_=>some b
 | x::r,b,f=>(f b x).bind fun b'=>forM r b' f
inductive Fl (β γ:Type) where
 | nx (b:β)
 | rt (c:γ)
def Fl.el (x:Fl β γ) (A:γ->δ) (B:β->δ):δ:=match x with
 | .nx b=>B b
 | .rt c=>A c
def Yw:List α->β->(β->α->Option (Fl β γ))->Option (Fl β γ)
 | [],b,_=>some (.nx b)
 | x::r,b,f=>(f b x).bind fun s=>match s with
  | .nx b'=>Yw r b' f
  | .rt c=>some (.rt c)
theorem jdu {g:TG}{tb:TS}{b1:β} (I:β->St->Hp->Hp->Prop) (hJ:ItOk K J c l (fun F' H'=>Ext Fe He F' H'/\Same F1 F')) (hrun:forM l b0 f=some b1)
  (h0:I b0 σ F1 H1) (hG:∀ b σ F H,I b σ F H->Ext Fe He F H/\Same F1 F)
  (hs:∀ b b' x v σ F H F' H',I b σ F H->Ext F H F' H'->c.rep K F' x v->f b x=some b'->g v σ H' fun σ2 H2=>tb { D with nx:=fun σ H=>∃ F,I b' σ F H,ct:=fun σ H=>∃ F,I b' σ F H,bk:=D.nx } σ2 H2)
  (hd:∀ σ F H,I b1 σ F H->D.nx σ H) :
  ∃ W:Nat->Nat->St->Hp->Prop,(∃ m,W 0 m σ H1)/\∀ i m σ H,W i m σ H ->
   (J.stop i H/\D.nx σ H) \/ (J.go i H/\∃ N:St->Hp->Prop,(∀ σ' H',N σ' H'->∃ m',m'<m/\W (i+1) m' σ' H')/\∀ x H',J.yld i H x H'->g x σ H' fun σ2 H2=>tb { D with nx:=N,ct:=N,bk:=D.nx } σ2 H2):=by
 refine⟨fun i m σ H=>m=l.length-i/\i<=l.length/\∃ b F,forM (l.drop i) b f=some b1/\I b σ F H,⟨l.length,by simp,wg _,b0,F1,by simpa using hrun,h0⟩,?_⟩;rintro i m σ H ⟨rfl,hi,b,F,hb,hI⟩;have g0:=hG b σ F H hI;by_cases hlt:i<l.length
 ·have e:l.drop i=l[i]::l.drop (i+1):=wA hlt;rw[e] at hb;obtain⟨b',hf,hb⟩:=bind_some hb;refine .inr ⟨hJ.go i F H g0 hlt,fun σ H=>∃ F,I b' σ F H,fun σ' H' ⟨F',h'⟩=>⟨l.length-(i+1),by omega,rfl,hlt,b',F',hb,h'⟩,fun x H' y=>?_⟩;obtain⟨F',E',r'⟩:=hJ.yld i F H x H' g0 y _ (Xc hlt);exact hs b b' l[i] x σ F H F' H' hI E' r' hf
 ·have e:i=l.length:=by omega
  subst e;rw[List.drop_length] at hb;cases hb;exact .inl ⟨hJ.stop F H g0,hd σ F H hI⟩
theorem jbx {g:TG}{tb:TS}{f:β->α->Option (Fl β γ)}{b1:Fl β γ} (I:β->St->Hp->Hp->Prop) (P:γ->Prop) (hJ:ItOk K J c l (fun F' H'=>Ext Fe He F' H'/\Same F1 F')) (hrun:Yw l b0 f=some b1)
  (hP:∀ c,b1=.rt c->P c) (h0:I b0 σ F1 H1) (hG:∀ b σ F H,I b σ F H->Ext Fe He F H/\Same F1 F)
  (hs:∀ b s x v σ F H F' H',I b σ F H->Ext F H F' H'->c.rep K F' x v->f b x=some s->(∀ c,s=.rt c->P c)->g v σ H' fun σ2 H2=>tb { D with nx:=fun σ H=>∃ b' F,s=.nx b'/\I b' σ F H,ct:=fun σ H=>∃ b' F,s=.nx b'/\I b' σ F H,bk:=D.nx } σ2 H2)
  (hd:∀ b σ F H,b1=.nx b->I b σ F H->D.nx σ H) :
  ∃ W:Nat->Nat->St->Hp->Prop,(∃ m,W 0 m σ H1)/\∀ i m σ H,W i m σ H ->
   (J.stop i H/\D.nx σ H) \/ (J.go i H/\∃ N:St->Hp->Prop,(∀ σ' H',N σ' H'->∃ m',m'<m/\W (i+1) m' σ' H')/\∀ x H',J.yld i H x H'->g x σ H' fun σ2 H2=>tb { D with nx:=N,ct:=N,bk:=D.nx } σ2 H2):=by
 refine⟨fun i m σ H=>m=l.length-i/\i<=l.length/\∃ b F,Yw (l.drop i) b f=some b1/\I b σ F H,⟨l.length,by simp,wg _,b0,F1,by simpa using hrun,h0⟩,?_⟩;rintro i m σ H ⟨rfl,hi,b,F,hb,hI⟩;have g0:=hG b σ F H hI;by_cases hlt:i<l.length
 ·have e:l.drop i=l[i]::l.drop (i+1):=wA hlt;rw[e] at hb;obtain⟨s,hf,hb⟩:=bind_some hb;refine .inr ⟨hJ.go i F H g0 hlt,fun σ H=>∃ b' F,s=.nx b'/\I b' σ F H,?_,fun x H' y=>?_⟩
  ·rintro σ' H' ⟨b',F',rfl,h'⟩;exact⟨l.length-(i+1),by omega,rfl,hlt,b',F',hb,h'⟩
  ·obtain⟨F',E',r'⟩:=hJ.yld i F H x H' g0 y _ (Xc hlt);refine hs b s l[i] x σ F H F' H' hI E' r' hf ?_;rintro c rfl;cases hb;exact hP c rfl
 ·have e:i=l.length:=by omega
  subst e;rw[List.drop_length] at hb;cases hb;exact .inl ⟨hJ.stop F H g0,hd b σ F H rfl hI⟩
theorem UQ {g:TG}{tb:TS} (hi:Ei K σ F H Fe He wi c m) (X:Ext Fe He F H) (hm:(m.bind fun l=>forM l b0 f).bind kk=some r) (I:Hp->β->St->Hp->Hp->Prop)
  (h0:∀ F1 H1,Ext F H F1 H1->Ext Fe He F1 H1->I F1 b0 σ F1 H1) (hG:∀ F1 b σ F H,I F1 b σ F H->Ext Fe He F H/\Same F1 F)
  (hs:∀ F1 (S0:Same F F1) b b' x v σ F H F' H',I F1 b σ F H->Ext F H F' H'->c.rep K F' x v->f b x=some b'->g v σ H' fun σ2 H2=>tb { D with nx:=fun σ H=>∃ F,I F1 b' σ F H,ct:=fun σ H=>∃ F,I F1 b' σ F H,bk:=D.nx } σ2 H2)
  (hd:∀ F1 (S0:Same F F1) b σ F H,kk b=some r->I F1 b σ F H->D.nx σ H):jej wi g tb D σ H:=by
 obtain⟨b1,hb,hk⟩:=bind_some hm;obtain⟨l,el,hrun⟩:=bind_some hb;exact hi X l el _ fun J F1 H1 E hJ=>jdu (I F1) hJ hrun (h0 F1 H1 E (X.trans E)) (hG F1) (hs F1 E.f) fun σ F H h=>hd F1 E.f b1 σ F H hk h
theorem jfu {g:TG}{tb:TS}{f:β->α->Option (Fl β γ)}{A:γ->Option δ} (P:γ->Prop) (hi:Ei K σ F H Fe He wi c m) (X:Ext Fe He F H) (hm:(m.bind fun l=>Yw l b0 f).bind (fun x=>x.el A kk)=some r) (hP:∀ c,A c=some r->P c) (I:Hp->β->St->Hp->Hp->Prop)
  (h0:∀ F1 H1,Ext F H F1 H1->Ext Fe He F1 H1->I F1 b0 σ F1 H1) (hG:∀ F1 b σ F H,I F1 b σ F H->Ext Fe He F H/\Same F1 F)
  (hs:∀ F1 (S0:Same F F1) b s x v σ F H F' H',I F1 b σ F H->Ext F H F' H'->c.rep K F' x v->f b x=some s->(∀ c,s=.rt c->P c)->g v σ H' fun σ2 H2=>tb { D with nx:=fun σ H=>∃ b' F,s=.nx b'/\I F1 b' σ F H,ct:=fun σ H=>∃ b' F,s=.nx b'/\I F1 b' σ F H,bk:=D.nx } σ2 H2)
  (hd:∀ F1 (S0:Same F F1) b σ F H,kk b=some r->I F1 b σ F H->D.nx σ H):jej wi g tb D σ H:=by
 obtain⟨b1,hb,hk⟩:=bind_some hm;obtain⟨l,el,hrun⟩:=bind_some hb;exact hi X l el _ fun J F1 H1 E hJ=>jbx (I F1) P hJ hrun (fun c e=>hP c (by subst e; exact hk)) (h0 F1 H1 E (X.trans E)) (hG F1) (hs F1 E.f) fun b σ F H e h=>hd F1 E.f b σ F H (by subst e; exact hk) h
def Yx:List α->(α->Option Bool)->(α->Option β)->Option (List β)
 | [],_,_=>some []
 | x::r,p,f=>(p x).bind fun b=>bif b then (f x).bind fun y=>(Yx r p f).bind fun ys=>some (y::ys) else Yx r p f
@[irreducible] def qa (l:List α) (p:α->Option Bool) (f:α->Option β):Option (List β):=if l.length<=16777216 then Yx l p f else none
def Bds (K:W.Frag) (c:Cd α) (g:TG) (n:Nat) (fr:St) (Bd:Hp->α->St->Prop):Prop:=
 ∀ F H x v own Q,own.length=n->c.rep K F x v->Same F H->(∀ own',own'.length=n->Bd F x own'->Q (own'++fr) H)->g v (own++fr) H Q
theorem jby {g:Blk->TG}{tc:Blk->TT}{te:Blk->TE}{mc:α->Option Bool}{me:α->Option β} (Bd:Hp->α->St->Prop) (hi:Ec K σ F H wi c m)
  (hfr:(ix.map fun i=>(σ[i]?).join)=fr) (hg:∀ b,Bds K c (g b) n fr Bd)
  (hc:∀ b x own F' H',Ext F H F' H'->Bd F' x own->Et K (own++fr) F' H' (tc b) (mc x)) (he:∀ b x own F' H',Ext F H F' H'->Bd F' x own->Ev K (own++fr) F' H' (te b) (rF d) (me x)) :
  Ev K σ F H (JL wi n ix g tc te) (rO d) (m.bind fun l=>qa l mc me):=by
 intro F1 H1 E z ez Q k;obtain⟨l,el,ez⟩:=bind_some ez;obtain⟨hlen,ez⟩:l.length<=16777216/\Yx l mc me=some z:=by
  unfold qa at ez;by_cases h:l.length<=16777216
  ·rw[if_pos h] at ez; exact ⟨h,ez⟩
  ·rw[if_neg h] at ez; cases ez
 refine hi F1 H1 E l el _ fun J F2 H2 E2 hJ b D hD=>?_;have hz:sizeLine=16777216:=XY;have E02:=E.trans E2;refine⟨fun i m ys σ' H'=>m=l.length-i/\i<=l.length/\ys.length<=i/\∃ zs rest F' own,own.length=n/\σ'=own++fr/\Ext F2 H2 F' H'/\F' D=none/\H' D=some (.lst ys)/\Paired (d.rep K F') zs ys/\Yx (l.drop i) mc me=some rest/\zs++rest=z,?_,?_⟩
 ·refine⟨l.length,by simp,wg _,Xm _,[],z,F2,List.replicate n none,by simp,by rw[WF,hfr],Ext.newO E2.sub hD,E2.sub.free hD,kR,.nil,by simpa using ez,rfl⟩
 rintro i m ys σ' H' ⟨rfl,hi',hys,zs,rest,F',own,hown,rfl,X,fD,hHD,hp,hrest,hzr⟩;by_cases hlt:i<l.length
 ·have ed:l.drop i=l[i]::l.drop (i+1):=wA hlt;rw[ed] at hrest;obtain⟨bb,hbb,hrest⟩:=bind_some hrest;refine .inr ⟨hJ.go i F' H' X hlt,fun ys' σ2 H2'=>ys'.length<=i+1/\∃ zs rest F' own,own.length=n/\σ2=own++fr/\Ext F2 H2 F' H2'/\F' D=none/\H2' D=some (.lst ys')/\Paired (d.rep K F') zs ys'/\Yx (l.drop (i+1)) mc me=some rest/\zs++rest=z,
   fun ys' σ2 H2' h=>⟨l.length-(i+1),by omega,rfl,hlt,h⟩,fun x H3 y=>?_⟩
  obtain⟨F3,E3,r3⟩:=hJ.yld i F' H' x H3 X y _ (Xc hlt);have X3:=X.trans E3;refine hg b F3 H3 l[i] x own _ hown r3 X3.sub fun own' hown' hbd=>?_;refine hc b l[i] own' F3 H3 (E02.trans X3) hbd F3 H3 (Ext.refl X3.sub) bb hbb _ fun F4 H4 E4=>?_;have X4:=X3.trans E4;have keepD:∀ {Fa Ha Fb Hb:Hp},Ext Fa Ha Fb Hb->Fa D=none->Ha D=some (.lst ys)->Fb D=none/\Hb D=some (.lst ys):=fun {Fa Ha Fb Hb} Eab f1 h1=>by
   refine⟨?_,Eab.h _ _ h1⟩;cases e:Fb D with
   | none=>rfl
   | some u=>
    rcases Eab.new D u e with w | w
    ·rw[f1] at w; cases w
    ·rw[h1] at w; cases w
  obtain⟨f3,g3⟩:=keepD E3 fD hHD;obtain⟨f4,g4⟩:=keepD E4 f3 g3;cases bb with
  | true=>
   obtain⟨y',hy,hrest⟩:=bind_some hrest;obtain⟨ys2,hys2,hrest⟩:=bind_some hrest;cases hrest;refine jbf (he b l[i] own' F3 H3 (E02.trans X3) hbd F4 H4 E4 y' hy _ fun w F5 H5 E5 hw=>?_);obtain⟨f5,g5⟩:=keepD E5 f4 g4;refine⟨g5,by omega,?_⟩;have X5:=X4.trans E5;refine⟨by simp; omega,zs++[y'],ys2,F5,own',hown',rfl,X5.upd hD f5,f5,kR,Paired.app (Paired.mapP hp fun _ _=>d.mono (E3.f.trans (E4.f.trans E5.f))) (.cons hw .nil),hys2,by rw[<- hzr]; simp⟩
  | false=>
   exact jbe ⟨by omega,zs,rest,F4,own',hown',rfl,X4,f4,g4,Paired.mapP hp fun _ _=>d.mono (E3.f.trans E4.f),hrest,hzr⟩
 ·have e:i=l.length:=by omega
  subst e;rw[List.drop_length] at hrest;cases hrest;rw[List.append_nil] at hzr;subst hzr;refine .inl ⟨hJ.stop F' H' X,k _ F' H' (E2.trans X) ⟨D,ys,rfl,E2.h.free hD,fD,hHD,hp⟩⟩
theorem jiS {own:St} (h:own.length=1):∃ v,own=[v]:=by
 match own,h with
 | [v],_=>exact ⟨v,rfl⟩
theorem jiT {own:St} (h:own.length=2):∃ u v,own=[u,v]:=by
 match own,h with
 | [u,v],_=>exact ⟨u,v,rfl⟩
def Bd1 (K:W.Frag) (c:Cd α):Hp->α->St->Prop:=fun F x own=>∃ v,own=[some v]/\c.rep K F x v
theorem jiU:Bds K c (xq 0) 1 fr (Bd1 K c):=by
 intro F H x v own Q h1 h2 h3 k;obtain⟨u,rfl⟩:=jiS h1;exact k [some v] rfl ⟨v,rfl,h2⟩
def Bd2 (K:W.Frag) (c:Cd α) (d:Cd β):Hp->α×β->St->Prop:=fun F x own=>∃ u v,own=[some u,some v]/\c.rep K F x.1 u/\d.rep K F x.2 v
theorem jiV:Bds K (cP c d) (je4 K 2 (J9 (xq 0) (J9 (xq 1) je3))) 2 fr (Bd2 K c d):=by
 intro F H x v own Q h1 h2 h3 k;obtain⟨a,u,w,rfl,e1,e2,e3⟩:=h2;obtain⟨u',v',rfl⟩:=jiT h1;exact⟨a,_,rfl,SqT.of (h3 _ _ e1),rfl,u,_,rfl,w,_,rfl,rfl,k [some u,some w] rfl ⟨u,w,rfl,e2,e3⟩⟩
theorem Zj {tc:Blk->TT}{te:Blk->TE}{mc:α->Option Bool}{me:α->Option β} (hi:Ec K σ F H wi c m) (fr:St) (hfr:(ix.map fun i=>(σ[i]?).join)=fr)
  (hc:∀ b x v F' H',Ext F H F' H'->c.rep K F' x v->Et K (some v::fr) F' H' (tc b) (mc x)) (he:∀ b x v F' H',Ext F H F' H'->c.rep K F' x v->Ev K (some v::fr) F' H' (te b) (rF d) (me x)) :
  Ev K σ F H (JL wi 1 ix (fun _=>xq 0) tc te) (rO d) (m.bind fun l=>qa l mc me):=
 jby (Bd1 K c) hi hfr (fun _=>jiU) (fun b x own F' H' E ⟨v,e,r⟩=>by subst e; exact hc b x v F' H' E r) fun b x own F' H' E ⟨v,e,r⟩=>by subst e; exact he b x v F' H' E r
theorem Zk {tc:Blk->TT}{te:Blk->TE}{m:Option (List Int)} (hi:Ec K σ F H wi cI m) (fr:St) (hfr:(ix.map fun i=>(σ[i]?).join)=fr)
  (hc:∀ b x F' H',Ext F H F' H'->Et K (some (.int x)::fr) F' H' (tc b) (mc x)) (he:∀ b x F' H',Ext F H F' H'->Ev K (some (.int x)::fr) F' H' (te b) (rF d) (me x)) :
  Ev K σ F H (JL wi 1 ix (fun _=>xq 0) tc te) (rO d) (m.bind fun l=>qa l mc me):=
 Zj hi fr hfr (fun b x v F' H' E r=>by have e:v=.int x:=r; subst e; exact hc b x F' H' E) fun b x v F' H' E r=>by have e:v=.int x:=r; subst e; exact he b x F' H' E
theorem jdv {tc:Blk->TT}{te:Blk->TE}{d1:Cd β}{e:Cd γ}{m:Option (List (α×β))}{mc:α×β->Option Bool}{me:α×β->Option γ} (hi:Ec K σ F H wi (cP c d1) m) (fr:St) (hfr:(ix.map fun i=>(σ[i]?).join)=fr)
  (hc:∀ b x y u v F' H',Ext F H F' H'->c.rep K F' x u->d1.rep K F' y v->Et K (some u::some v::fr) F' H' (tc b) (mc (x,y))) (he:∀ b x y u v F' H',Ext F H F' H'->c.rep K F' x u->d1.rep K F' y v->Ev K (some u::some v::fr) F' H' (te b) (rF e) (me (x,y))) :
  Ev K σ F H (JL wi 2 ix (fun _=>je4 K 2 (J9 (xq 0) (J9 (xq 1) je3))) tc te) (rO e) (m.bind fun l=>qa l mc me):=
 jby (Bd2 K c d1) hi hfr (fun _=>jiV) (fun b x own F' H' E ⟨u,v,e,r,r'⟩=>by subst e; exact hc b x.1 x.2 u v F' H' E r r') fun b x own F' H' E ⟨u,v,e,r,r'⟩=>by subst e; exact he b x.1 x.2 u v F' H' E r r'
theorem yS:Et K σ F H jiG (some true):=fun F1 H1 E b e Q k=>by cases e; exact k F1 H1 (Ext.refl E.sub)
end
section
variable {F:Hp}{t te:TE}{c:Cd α}{d:Cd β}{p:Pm α}{q:Pm β}{rs:Rs γ}{mb:Option Int}{i:Int}
theorem yj {m:Option α}{f:α->Option δ} (he:Ev K σ F H te (rF c) m) (X:Ext Fe He F H) (hm:m.bind f=some r) (k:∀ a v F' H',f a=some r->Ext F H F' H'->Ext Fe He F' H'->c.rep K F' a v->D.nx (σ.set k' (some v)) H'):U4 te (xq k') D σ H:=
 jex (p:=pF c) he X hm k
theorem qb {k:Nat}{Q:St->Hp->Prop} (h:Q (σ.set k (some v)) H):xq k v σ H Q:=h
theorem jbz {k l:Nat}{w:V}{x:α}{y:β}{Q:St->Hp->Prop} (r:(cP c d).rep K F (x,y) w) (s:Same F H) (h:∀ u v,c.rep K F x u->d.rep K F y v->Q ((σ.set k (some u)).set l (some v)) H):je4 K 2 (J9 (xq k) (J9 (xq l) je3)) w σ H Q:=by
 obtain⟨a,u,v,rfl,h1,h2,h3⟩:=r;exact⟨a,[u,v],rfl,SqT.of (s _ _ h1),rfl,u,[v],rfl,v,[],rfl,rfl,h u v h2 h3⟩
theorem jgU (h:-(2 ^ 64)<i/\i<2 ^ 64):jgl i j=some (i * j):=by unfold jgl; exact if_pos (.inl h)
theorem jgV (h:-(2 ^ 64)<j/\j<2 ^ 64):jgl i j=some (i * j):=by unfold jgl; exact if_pos (.inr h)
theorem Zl (h:0<j/\j<2 ^ 1000):jfj i j=some (i / j):=by unfold jfj; exact if_pos h
theorem Zm (h:0<j):WJ i j=some (i % j):=by unfold WJ; exact if_pos h
theorem jdw (h:0<=j/\j<=1000000/\i.natAbs<2 ^ 64):jgI i j=some (i ^ j.toNat):=by unfold jgI; exact if_pos h
theorem jdx (h:0<=j/\j<=1000000/\i.natAbs<2 ^ 64):jet i j=some (i * 2 ^ j.toNat):=by unfold jet; exact if_pos h
theorem jdy (h:0<=j):jfk i j=some (i / 2 ^ j.toNat):=by unfold jfk; exact if_pos h
theorem Vk {ma:Option α}{mb:Option β}{f g:α->β->Option γ}{r:TE} (h:Ev K σ F H r rs (ma.bind fun a=>mb.bind fun b=>f a b)) (e:∀ a b,ma=some a->mb=some b->g a b=f a b):Ev K σ F H r rs (ma.bind fun a=>mb.bind fun b=>g a b):=by
 refine h.cast ?_;cases ma with
 | none=>rfl
 | some a=>
  cases mb with
  | none=>rfl
  | some b=>exact e a b rfl rfl
theorem jfv (h:-(2 ^ 64)<j/\j<2 ^ 64) (ha:Ev K σ F H ta (rF cI) ma) (hb:Ev K σ F H tb (rF cI) (some j)):Ev K σ F H (tOp (rI CMul fun i j=>.int (i * j)) ta tb) (rF cI) (ma.bind fun a=>some (a * j)):=
 Vk (mb:=some j) (g:=fun a _=>some (a * j)) (Yr jgJ ha hb) fun a b _ e=>by cases e; exact (jgV h).symm
theorem jfw (h:-(2 ^ 64)<i/\i<2 ^ 64) (ha:Ev K σ F H ta (rF cI) (some i)) (hb:Ev K σ F H tb (rF cI) mb):Ev K σ F H (tOp (rI CMul fun i j=>.int (i * j)) ta tb) (rF cI) (mb.bind fun b=>some (i * b)):=
 (Vk (ma:=some i) (g:=fun a b=>some (i * b)) (Yr jgJ ha hb) fun a b e _=>by cases e; exact (jgU h).symm)
theorem jbA (h:0<j) (ha:Ev K σ F H ta (rF cI) ma) (hb:Ev K σ F H tb (rF cI) (some j)):Ev K σ F H (tOp (rI (fun _ j=>0<j) fun i j=>.int (i % j)) ta tb) (rF cI) (ma.bind fun a=>some (a % j)):=
 Vk (mb:=some j) (g:=fun a _=>some (a % j)) (Yr QY ha hb) fun a b _ e=>by cases e; exact (Zm h).symm
theorem jbB (h:0<j/\j<2 ^ 250) (ha:Ev K σ F H ta (rF cI) ma) (hb:Ev K σ F H tb (rF cI) (some j)):Ev K σ F H (tOp (rI Z0 fun i j=>.int (i / j)) ta tb) (rF cI) (ma.bind fun a=>some (a / j)):=
 Vk (mb:=some j) (g:=fun a _=>some (a / j)) (Yr jfl ha hb) fun a b _ e=>by cases e; exact (Zl ⟨h.1,Int.lt_trans h.2 (by have:(2:Nat) ^ 250<2 ^ 1000:=Nat.pow_lt_pow_right (by decide) (by decide); exact_mod_cast this)⟩).symm
theorem jfx {i:Int}{j:Nat} (h:(0:Int)<=(j:Int)/\(j:Int)<=1000000/\i.natAbs<2 ^ 64) (ha:Ev K σ F H ta (rF cI) (some i)) (hb:Ev K σ F H tb (rF cI) (some (j:Int))):Ev K σ F H (tOp (rI jgi fun i j=>.int (i ^ j.toNat)) ta tb) (rF cI) (some (i ^ j)):=
 (Yr jh6 ha hb).cast (by show _=jgI i j; rw[jdw h,X7])
theorem Vl:∀ {l:List Bool}{xs:List V},Paired (cB.rep K H) l xs->xs=l.map V.bl
 | _,_,.nil=>rfl
 | _,_,.cons r t=>by rw[XR,<- Vl t]; exact congrArg (·::_) r
theorem Vm:∀ {l:List Int}{xs:List V},Paired (cI.rep K H) l xs->xs=l.map V.int
 | _,_,.nil=>rfl
 | _,_,.cons r t=>by rw[XR,<- Vm t]; exact congrArg (·::_) r
theorem jfy:Op1 K (fun x H Q=>∃ (p:Addr) (bs:List Bool),[x]=[V.ref p]/\SqL K H p (bs.map V.bl)/\Q (.bl (bs.any id)) H) (pR cB) (rF cB) (fun l=>some (l.any id)):=by
 intro F H l x s hx z hz Q k;obtain⟨p,xs,rfl,h1,h2⟩:=hx;cases hz;exact⟨p,l,rfl,by rw[<- Vl h2]; exact h1,k _ F H (Ext.refl s) rfl⟩
theorem WK:Op1 K (fun x H Q=>∃ (p:Addr) (bs:List Bool),[x]=[V.ref p]/\SqL K H p (bs.map V.bl)/\Q (.bl (bs.all id)) H) (pR cB) (rF cB) (fun l=>some (l.all id)):=by
 intro F H l x s hx z hz Q k;obtain⟨p,xs,rfl,h1,h2⟩:=hx;cases hz;exact⟨p,l,rfl,by rw[<- Vl h2]; exact h1,k _ F H (Ext.refl s) rfl⟩
theorem jh9:Op1 K (fun x H Q=>∃ (p:Addr) (ns:List Int),[x]=[V.ref p]/\SqL K H p (ns.map V.int)/\Q (.int ns.sum) H) (pR cI) (rF cI) (fun l=>some l.sum):=by
 intro F H l x s hx z hz Q k;obtain⟨p,xs,rfl,h1,h2⟩:=hx;cases hz;exact⟨p,l,rfl,by rw[<- Vm h2]; exact h1,k _ F H (Ext.refl s) rfl⟩
theorem jbC (h:Ev K σ F H t (rF cI) ma):Ev K σ F H (jhS K "int" (fun x vs H Q=>∃ i,x=.int i/\vs=[]/\Q (.int (Builtin.Int.intBits i)) H) t) (rF cI) (ma.bind fun a=>some ((Builtin.Int.intBits a:Nat):Int)):=by
 intro F1 H1 E z e Q k;obtain⟨a,ea,e⟩:=bind_some e;cases e;refine h F1 H1 E a ea _ fun v F2 H2 E2 hv=>?_;have ev:v=.int a:=hv;subst ev;exact⟨rfl,a,rfl,rfl,k _ F2 H2 E2 rfl⟩
theorem jgW {n:String}{tv:Value}{b:Bool}{m:Option α} (hc:∀ u,RelV (.ty n) u->u=cv) (ht:∀ {F H a x},Same F H->p.rel K F H a x->TyOf K H x tv) (hk:W.kitOne K tv cv=some b) (ha:Ev K σ F H ta p.rs m) :
  Ev K σ F H (tCB (fun xs H Q=>∃ x c cv t b,xs=[x,c]/\(∀ u,RelV c u->u=cv)/\TyOf K H x t/\W.kitOne K t cv=some b/\Q (.bl b) H) (ki ta (ki (tC (.ty n)) yi))) (rF cB) (m.bind fun _=>some b):=by
 intro F1 H1 E z e Q k;obtain⟨a,ea,e⟩:=bind_some e;cases e;exact ha F1 H1 E a ea _ fun v F2 H2 E2 hv=>⟨v,.ty n,cv,tv,b,rfl,hc,ht E2.sub hv,hk,k _ F2 H2 E2 rfl⟩
theorem jeA {F:Hp}{a:Int}{x:V} (s:Same F H) (h:(pF cI).rel K F H a x):TyOf K H x (.type "int"):=by
 have e:x=.int a:=h;subst e; exact .int a
theorem Vn {F:Hp}{a:List α}{x:V} (s:Same F H) (h:(pT (cL c)).rel K F H a x):TyOf K H x (.type "list"):=by
 obtain⟨p,xs,rfl,h1,_⟩:=h;exact .lst h1
theorem jgX {F:Hp}{a:List α}{x:V} (s:Same F H) (h:(pF (cT c)).rel K F H a x):TyOf K H x (.type "tuple"):=by
 obtain⟨p,xs,rfl,h1,_⟩:=h;exact .tup (s _ _ h1)
theorem jbD {tc:Blk->TT}{te:Blk->TE}{e:Cd γ}{m:Option (List (Int×Int))}{mc:Int×Int->Option Bool}{me:Int×Int->Option γ} (hi:Ec K σ F H wi (cP cI cI) m) (fr:St) (hfr:(ix.map fun i=>(σ[i]?).join)=fr)
  (hc:∀ b x y F' H',Ext F H F' H'->Et K (some (.int x)::some (.int y)::fr) F' H' (tc b) (mc (x,y))) (he:∀ b x y F' H',Ext F H F' H'->Ev K (some (.int x)::some (.int y)::fr) F' H' (te b) (rF e) (me (x,y))) :
  Ev K σ F H (JL wi 2 ix (fun _=>je4 K 2 (J9 (xq 0) (J9 (xq 1) je3))) tc te) (rO e) (m.bind fun l=>qa l mc me):=
 jdv hi fr hfr (fun b x y u v F' H' E r r'=>by have e1:u=.int x:=r; have e2:v=.int y:=r'; subst e1 e2; exact hc b x y F' H' E) fun b x y u v F' H' E r r'=>by have e1:u=.int x:=r; have e2:v=.int y:=r'; subst e1 e2; exact he b x y F' H' E
@[irreducible] def Z3 (l:List α) (i:Int) (y:α):Option (List α):=(ixN l.length i).bind fun j=>some (l.set j y)
theorem Paired.setP {a:α}{b:β} (r:R a b):∀ {l:List α}{xs:List β} (i:Nat),Paired R l xs->Paired R (l.set i a) (xs.set i b)
 | _,_,_,.nil=>.nil
 | _,_,0,.cons _ t=>.cons r t
 | _,_,i+1,.cons q t=>.cons q (Paired.setP r i t)
theorem jfz {m:Option α}{f:List α->Option δ} (hi:σ[k']?=some (some (.ref a))) (o:Own K He F H c l a) (he:Ev K σ F H te (rF c) m) (hj:Ev K σ F H ta (rF cI) mi) (X:Ext Fe He F H) (hm:(m.bind fun y=>mi.bind fun j=>Z3 l j y).bind f=some r)
  (k:∀ l' F' H',f l'=some r->Chg a F H F' H'->Ext Fe He F' H'->Own K He F' H' c l' a->D.nx σ H'):U4 te (jhP (Uv k') ta jdj) D σ H:=by
 obtain⟨l',el,hm⟩:=bind_some hm;obtain⟨y,ey,el⟩:=bind_some el;obtain⟨j,ej,el⟩:=bind_some el;unfold Z3 at el;obtain⟨n,en,el⟩:=bind_some el;cases el;obtain⟨xs,h1,h2⟩:=o.h;refine he F H (Ext.refl X.sub) y ey _ fun v F2 H2 E hv=>⟨_,hi,?_⟩;refine hj F2 H2 E j ej _ fun w F3 H3 E3 hw=>?_;have ew:w=.int j:=hw;subst ew;have E13:=E.trans E3;have o2:=o.mono E13;have h3:Paired (c.rep K F3) l xs:=Paired.mapP h2 fun _ _=>c.mono E13.f;refine⟨a,xs,j,n,rfl,rfl,E13.h _ _ h1,by rw[<- h2.length]; exact en,?_⟩;obtain⟨X',o'⟩:=Vj (K:=K) (c:=c) (X.trans E13) o.e o2.f (Paired.setP (c.mono E3.f hv) n h3);exact k _ F3 _ hm (GG E13) X' o'
theorem zf {y:α}{f:List α->Option δ} (hi:σ[k']?=some (some (.ref a))) (o:Own K He F H c l a) (he:Ev K σ F H te (rF c) (some y)) (X:Ext Fe He F H) (hm:(JN l y).bind f=some r)
  (k:∀ l' F' H',f l'=some r->Chg a F H F' H'->Ext Fe He F' H'->Own K He F' H' c l' a->D.nx σ H'):Wr (tBM K "list" Qa (Uv k') (ki te yi)) D σ H:=z_ (m:=some y) hi o he X hm k
theorem jbE {y:α}{n:Int}{f:List α->Option δ} (hi:σ[k']?=some (some (.ref a))) (o:Own K He F H c l a) (he:Ev K σ F H te (rF c) (some y)) (hj:Ev K σ F H ta (rF cI) (some n)) (X:Ext Fe He F H) (hm:(Z3 l n y).bind f=some r)
  (k:∀ l' F' H',f l'=some r->Chg a F H F' H'->Ext Fe He F' H'->Own K He F' H' c l' a->D.nx σ H'):U4 te (jhP (Uv k') ta jdj) D σ H:=jfz (m:=some y) (mi:=some n) hi o he hj X hm k
end
section
variable {F:Hp}{t te:TE}{c:Cd α}{d:Cd β}{p:Pm α}{q:Pm β}{rs:Rs γ} 
theorem q9 {m:Option Int}{f:Int->Option δ} (he:Ev K σ F H te (rF cI) m) (X:Ext Fe He F H) (hm:m.bind f=some r) (k:∀ a F' H',f a=some r->Ext F H F' H'->Ext Fe He F' H'->u' D (σ.set i (some (.int a))) H'):Uw (U4 te (xq i)) u' D σ H:=
 Gi (D:={ D with nx:=u' D }) he X hm k
theorem x5 {f:List α->Option δ} (he:Ev K σ F H te (rO c) m) (X:Ext Fe He F H) (hm:m.bind f=some r) (k:∀ l a F' H',f l=some r->Ext F H F' H'->Ext Fe He F' H'->H a=none->Own K He F' H' c l a->u' D (σ.set i (some (.ref a))) H'):Uw (U4 te (xq i)) u' D σ H:=
 jbt (D:={ D with nx:=u' D }) he X hm k
theorem x6 {m:Option α}{f:α->Option δ} (he:Ev K σ F H te (rF c) m) (X:Ext Fe He F H) (hm:m.bind f=some r) (k:∀ a v F' H',f a=some r->Ext F H F' H'->Ext Fe He F' H'->c.rep K F' a v->u' D (σ.set k' (some v)) H'):Uw (U4 te (xq k')) u' D σ H:=
 yj (D:={ D with nx:=u' D }) he X hm k
theorem jdz {u:TT}{t t':TS}{m:Option Bool}{A:Option δ} (hc:Et K σ F H u m) (X:Ext Fe He F H) (hm:(m.bind fun b=>bif b then A else B)=some r) (h1:∀ F' H',A=some r->Ext F H F' H'->Ext Fe He F' H'->t { D with nx:=u' D } σ H')
  (h2:∀ F' H',B=some r->Ext F H F' H'->Ext Fe He F' H'->t' { D with nx:=u' D } σ H'):Uw (jc6 u t t') u' D σ H:=
 jfq (D:={ D with nx:=u' D }) hc X hm h1 h2
theorem Ga {u:TT}{t t':TS}{b:Bool}{A:Option δ} (hc:Et K σ F H u (some b)) (X:Ext Fe He F H) (hm:(bif b then A else B)=some r) (h1:∀ F' H',b=true->A=some r->Ext F H F' H'->Ext Fe He F' H'->t { D with nx:=u' D } σ H')
  (h2:∀ F' H',b=false->B=some r->Ext F H F' H'->Ext Fe He F' H'->t' { D with nx:=u' D } σ H'):Uw (jc6 u t t') u' D σ H:=
 jbu (D:={ D with nx:=u' D }) hc X hm h1 h2
theorem jh_ {u:TT}{t t':TS}{m:Option Bool}{A B:Option β}{f:β->Option δ} (I:β->St->Hp->Prop) (hc:Et K σ F H u m) (X:Ext Fe He F H) (hm:(m.bind fun b=>bif b then A else B).bind f=some r)
  (h1:∀ b F' H',A=some b->Ext F H F' H'->Ext Fe He F' H'->t { D with nx:=I b } σ H') (h2:∀ b F' H',B=some b->Ext F H F' H'->Ext Fe He F' H'->t' { D with nx:=I b } σ H') (hk:∀ b σ' H',f b=some r->I b σ' H'->u' D σ' H'):Uw (jgG (jc6 u t t')) u' D σ H:=
 Qs (D:={ D with nx:=u' D }) I hc X hm h1 h2 hk
theorem jgY {u:TT}{t t':TS}{x:Bool}{A B:Option β}{f:β->Option δ} (I:β->St->Hp->Prop) (hc:Et K σ F H u (some x)) (X:Ext Fe He F H) (hm:(bif x then A else B).bind f=some r)
  (h1:∀ b F' H',A=some b->Ext F H F' H'->Ext Fe He F' H'->t { D with nx:=I b } σ H') (h2:∀ b F' H',B=some b->Ext F H F' H'->Ext Fe He F' H'->t' { D with nx:=I b } σ H') (hk:∀ b σ' H',f b=some r->I b σ' H'->u' D σ' H'):Uw (jgG (jc6 u t t')) u' D σ H:=
 Q0 (D:={ D with nx:=u' D }) I hc X hm h1 h2 hk
theorem Q2 {m:Option γ}{f:γ->Option δ} (he:Ev K σ F H te rs m) (X:Ext Fe He F H) (hm:m.bind f=some r) (k:∀ a F' H',f a=some r->Ext F H F' H'->Ext Fe He F' H'->u' D σ H'):Uw (Wr te) u' D σ H:=
 jfr (D:={ D with nx:=u' D }) he X hm k
theorem y9 {y:α}{f:List α->Option δ} (hi:σ[k']?=some (some (.ref a))) (o:Own K He F H c l a) (he:Ev K σ F H te (rF c) (some y)) (X:Ext Fe He F H) (hm:(JN l y).bind f=some r)
  (k:∀ l' F' H',f l'=some r->Chg a F H F' H'->Ext Fe He F' H'->Own K He F' H' c l' a->u' D σ H'):Uw (Wr (tBM K "list" Qa (Uv k') (ki te yi))) u' D σ H:=
 zf (D:={ D with nx:=u' D }) hi o he X hm k
theorem Vo {y:α}{n:Int}{f:List α->Option δ} (hi:σ[k']?=some (some (.ref a))) (o:Own K He F H c l a) (he:Ev K σ F H te (rF c) (some y)) (hj:Ev K σ F H ta (rF cI) (some n)) (X:Ext Fe He F H) (hm:(Z3 l n y).bind f=some r)
  (k:∀ l' F' H',f l'=some r->Chg a F H F' H'->Ext Fe He F' H'->Own K He F' H' c l' a->u' D σ H'):Uw (U4 te (jhP (Uv k') ta jdj)) u' D σ H:=
 jbE (D:={ D with nx:=u' D }) hi o he hj X hm k
theorem Ji {g:TG}{tb:TS} (hi:Ei K σ F H Fe He wi c m) (X:Ext Fe He F H) (hm:(m.bind fun l=>forM l b0 f).bind kk=some r) (I:Hp->β->St->Hp->Hp->Prop)
  (h0:∀ F1 H1,Ext F H F1 H1->Ext Fe He F1 H1->I F1 b0 σ F1 H1) (hG:∀ F1 b σ F H,I F1 b σ F H->Ext Fe He F H/\Same F1 F)
  (hs:∀ F1 (S0:Same F F1) b b' x v σ F H F' H',I F1 b σ F H->Ext F H F' H'->c.rep K F' x v->f b x=some b'->g v σ H' fun σ2 H2=>tb { D with nx:=fun σ H=>∃ F,I F1 b' σ F H,ct:=fun σ H=>∃ F,I F1 b' σ F H,bk:=u' D } σ2 H2)
  (hd:∀ F1 (S0:Same F F1) b σ F H,kk b=some r->I F1 b σ F H->u' D σ H):Uw (jej wi g tb) u' D σ H:=
 UQ (D:={ D with nx:=u' D }) hi X hm I h0 hG hs hd
theorem jbF {g:TG}{tb:TS}{f:β->α->Option (Fl β γ)}{A:γ->Option δ} (P:γ->Prop) (hi:Ei K σ F H Fe He wi c m) (X:Ext Fe He F H) (hm:(m.bind fun l=>Yw l b0 f).bind (fun x=>x.el A kk)=some r) (hP:∀ c,A c=some r->P c) (I:Hp->β->St->Hp->Hp->Prop)
  (h0:∀ F1 H1,Ext F H F1 H1->Ext Fe He F1 H1->I F1 b0 σ F1 H1) (hG:∀ F1 b σ F H,I F1 b σ F H->Ext Fe He F H/\Same F1 F)
  (hs:∀ F1 (S0:Same F F1) b s x v σ F H F' H',I F1 b σ F H->Ext F H F' H'->c.rep K F' x v->f b x=some s->(∀ c,s=.rt c->P c)->g v σ H' fun σ2 H2=>tb { D with nx:=fun σ H=>∃ b' F,s=.nx b'/\I F1 b' σ F H,ct:=fun σ H=>∃ b' F,s=.nx b'/\I F1 b' σ F H,bk:=u' D } σ2 H2)
  (hd:∀ F1 (S0:Same F F1) b σ F H,kk b=some r->I F1 b σ F H->u' D σ H):Uw (jej wi g tb) u' D σ H:=
 jfu (D:={ D with nx:=u' D }) P hi X hm hP I h0 hG hs hd
theorem Gb {N:St->Hp->Prop}{r:VK}{b e:St->Hp->Prop} (h:N σ H):jgw ⟨N,r,b,e⟩ σ H:=h
theorem kH {CX:CXT}{P:Program}{f:Addr}{E:XK}:(jfb CX P w K mg base N qual scope f cdv A outer s H E).nox.K=K:=rfl
end
section
variable {F:Hp}{t te:TE}{c:Cd α}{d:Cd β}{p:Pm α}{q:Pm β}{rs:Rs γ}{i:Int}{a:α}{b:β}
theorem jfA {r:R2}{op:α->β->Option γ} (ho:Op2 K r p q rs op) (ha:Ev K σ F H ta p.rs (some a)) (hb:Ev K σ F H tb q.rs (some b)):Ev K σ F H (tOp r ta tb) rs (op a b):=Yr ho ha hb
theorem jfB {r:V->Hp->VK->Prop} (ho:Op1 K r p rs op) (ha:Ev K σ F H ta p.rs (some a)):Ev K σ F H (tUn r ta) rs (op a):=jgH ho ha
theorem jdA {r:List V->Hp->VK->Prop} (ho:Op1 K (fun x=>r [x]) p rs op) (ha:Ev K σ F H ta p.rs (some a)):Ev K σ F H (tCB r (ki ta yi)) rs (op a):=jes ho ha
theorem jdB {a:Bool} (h:Ev K σ F H t (rF cB) (some a)):Ev K σ F H (jaO t) (rF cB) (some (!a)):=jew h
theorem jdC {u:TT}{a:Bool} (h:Et K σ F H u (some a)):Et K σ F H (jgu u) (some (!a)):=jeu h
theorem jdD {a b:Bool} (h:Ev K σ F H ta (rF cB) (some a)) (h':Ev K σ F H tb (rF cB) (some b)):Ev K σ F H (Wq ta tb) (rF cB) (some (a&&b)):=jfp h h'
theorem jfC {u v:TT}{a b:Bool} (h:Et K σ F H u (some a)) (h':Et K σ F H v (some b)):Et K σ F H (tOr u v) (some (a||b)):=jgQ h h'
theorem jdE {a:Bool}{m:Option Bool} (h:Ev K σ F H ta (rF cB) (some a)) (h':Ev K σ F H tb (rF cB) m):Ev K σ F H (Wq ta tb) (rF cB) (bif a then m else some false):=jbp h h'
theorem jfD {a:Bool}{m:Option Bool} (h:Ev K σ F H ta (rF cB) (some a)) (h':Ev K σ F H tb (rF cB) m):Ev K σ F H (jgv ta tb) (rF cB) (bif a then some true else m):=jgR h h'
theorem jdF {u v:TT}{a:Bool}{m:Option Bool} (h:Et K σ F H u (some a)) (h':Et K σ F H v m):Et K σ F H (jgt u v) (bif a then m else some false):=jev h h'
theorem jfE {u v:TT}{a:Bool}{m:Option Bool} (h:Et K σ F H u (some a)) (h':Et K σ F H v m):Et K σ F H (tOr u v) (bif a then some true else m):=jgP h h'
theorem jbG (ha:Ev K σ F H ta (rF c) (some a)) (hr:El K σ F H tr c n (some l)):El K σ F H (ki ta tr) c (n+1) (some (a::l)):=jbr ha hr
theorem jbH (ha:Ev K σ F H ta (rF c) (some a)) (hb:Ev K σ F H tb (rF d) (some b)):Ev K σ F H (jgj (ki ta (ki tb yi))) (rF (cP c d)) (some (a,b)):=jbs ha hb
theorem jbI (h:Ev K σ F H t (rF cI) (some i)):Eo K σ F H (jdg t) (some (some i)):=jfn h
theorem jdG {x y:Option Int} (h:Ev K σ F H t (pR c).rs (some l)) (hl:Eo K σ F H tl (some x)) (hh:Eo K σ F H th (some y)):Ev K σ F H (tSl (jhR K) t tl th) (rO c) (some (cut l x y)):=jgO h hl hh
theorem jdH {f:Str}{g:α->β} (hf:Uz K c f d g) (h:Ev K σ F H t (rF c) (some a)):Ev K σ F H (jgA K t f) (rF d) (some (g a)):=jgS hf h
theorem jdI {n:String}{tv:Value}{b:Bool} (hc:∀ u,RelV (.ty n) u->u=cv) (ht:∀ {F H a x},Same F H->p.rel K F H a x->TyOf K H x tv) (hk:W.kitOne K tv cv=some b) (ha:Ev K σ F H ta p.rs (some a)) :
  Ev K σ F H (tCB (fun xs H Q=>∃ x c cv t b,xs=[x,c]/\(∀ u,RelV c u->u=cv)/\TyOf K H x t/\W.kitOne K t cv=some b/\Q (.bl b) H) (ki ta (ki (tC (.ty n)) yi))) (rF cB) (some b):=jgW hc ht hk ha
theorem jbJ (h:-(2 ^ 64)<j/\j<2 ^ 64) (ha:Ev K σ F H ta (rF cI) (some i)) (hb:Ev K σ F H tb (rF cI) (some j)):Ev K σ F H (tOp (rI CMul fun i j=>.int (i * j)) ta tb) (rF cI) (some (i * j)):=jfv h ha hb
theorem jbK (h:-(2 ^ 64)<i/\i<2 ^ 64) (ha:Ev K σ F H ta (rF cI) (some i)) (hb:Ev K σ F H tb (rF cI) (some j)):Ev K σ F H (tOp (rI CMul fun i j=>.int (i * j)) ta tb) (rF cI) (some (i * j)):=jfw h ha hb
theorem jbL (h:0<j) (ha:Ev K σ F H ta (rF cI) (some i)) (hb:Ev K σ F H tb (rF cI) (some j)):Ev K σ F H (tOp (rI (fun _ j=>0<j) fun i j=>.int (i % j)) ta tb) (rF cI) (some (i % j)):=jbA h ha hb
theorem jbM (h:0<j/\j<2 ^ 250) (ha:Ev K σ F H ta (rF cI) (some i)) (hb:Ev K σ F H tb (rF cI) (some j)):Ev K σ F H (tOp (rI Z0 fun i j=>.int (i / j)) ta tb) (rF cI) (some (i / j)):=jbB h ha hb
theorem Yy (h:Ev K σ F H t (rF cI) (some i)):Ev K σ F H (jhS K "int" (fun x vs H Q=>∃ i,x=.int i/\vs=[]/\Q (.int (Builtin.Int.intBits i)) H) t) (rF cI) (some ((Builtin.Int.intBits i:Nat):Int)):=jbC h
theorem jbN (h:Ev K σ F H t (rF cI) (some j)):Ei K σ F H Fe He (U5 (ki t yi)) cI (yr 0 j):=jbv h
theorem jbO (h:Ev K σ F H t (rF cI) (some i)) (h':Ev K σ F H ta (rF cI) (some j)):Ei K σ F H Fe He (Yl (ki t (ki ta yi))) cI (yr i j):=jfs h h'
theorem jbP (h:Ev K σ F H t (rF cI) (some j)):Ec K σ F H (U5 (ki t yi)) cI (yr 0 j):=jbw h
theorem jbQ (h:Ev K σ F H t (rF cI) (some i)) (h':Ev K σ F H ta (rF cI) (some j)):Ec K σ F H (Yl (ki t (ki ta yi))) cI (yr i j):=jft h h'
theorem Z4 {tc:Blk->TT}{te:Blk->TE}{mc:α->Option Bool}{me:α->Option β} (hi:Ec K σ F H wi c (some l)) (fr:St) (hfr:(ix.map fun i=>(σ[i]?).join)=fr)
  (hc:∀ b x v F' H',Ext F H F' H'->c.rep K F' x v->Et K (some v::fr) F' H' (tc b) (mc x)) (he:∀ b x v F' H',Ext F H F' H'->c.rep K F' x v->Ev K (some v::fr) F' H' (te b) (rF d) (me x)) :
  Ev K σ F H (JL wi 1 ix (fun _=>xq 0) tc te) (rO d) (qa l mc me):=Zj hi fr hfr hc he
theorem Z5 {tc:Blk->TT}{te:Blk->TE}{l:List Int} (hi:Ec K σ F H wi cI (some l)) (fr:St) (hfr:(ix.map fun i=>(σ[i]?).join)=fr)
  (hc:∀ b x F' H',Ext F H F' H'->Et K (some (.int x)::fr) F' H' (tc b) (mc x)) (he:∀ b x F' H',Ext F H F' H'->Ev K (some (.int x)::fr) F' H' (te b) (rF d) (me x)) :
  Ev K σ F H (JL wi 1 ix (fun _=>xq 0) tc te) (rO d) (qa l mc me):=Zk hi fr hfr hc he
theorem Yz {tc:Blk->TT}{te:Blk->TE}{e:Cd γ}{l:List (Int×Int)}{mc:Int×Int->Option Bool}{me:Int×Int->Option γ} (hi:Ec K σ F H wi (cP cI cI) (some l)) (fr:St) (hfr:(ix.map fun i=>(σ[i]?).join)=fr)
  (hc:∀ b x y F' H',Ext F H F' H'->Et K (some (.int x)::some (.int y)::fr) F' H' (tc b) (mc (x,y))) (he:∀ b x y F' H',Ext F H F' H'->Ev K (some (.int x)::some (.int y)::fr) F' H' (te b) (rF e) (me (x,y))) :
  Ev K σ F H (JL wi 2 ix (fun _=>je4 K 2 (J9 (xq 0) (J9 (xq 1) je3))) tc te) (rO e) (qa l mc me):=jbD hi fr hfr hc he
theorem Vp {g:TG}{tb:TS} (hi:Ei K σ F H Fe He wi c (some l)) (X:Ext Fe He F H) (hm:(forM l b0 f).bind kk=some r) (I:Hp->β->St->Hp->Hp->Prop)
  (h0:∀ F1 H1,Ext F H F1 H1->Ext Fe He F1 H1->I F1 b0 σ F1 H1) (hG:∀ F1 b σ F H,I F1 b σ F H->Ext Fe He F H/\Same F1 F)
  (hs:∀ F1 (S0:Same F F1) b b' x v σ F H F' H',I F1 b σ F H->Ext F H F' H'->c.rep K F' x v->f b x=some b'->g v σ H' fun σ2 H2=>tb { D with nx:=fun σ H=>∃ F,I F1 b' σ F H,ct:=fun σ H=>∃ F,I F1 b' σ F H,bk:=D.nx } σ2 H2)
  (hd:∀ F1 (S0:Same F F1) b σ F H,kk b=some r->I F1 b σ F H->D.nx σ H):jej wi g tb D σ H:=UQ (m:=some l) hi X hm I h0 hG hs hd
theorem yt {g:TG}{tb:TS} (hi:Ei K σ F H Fe He wi c (some l)) (X:Ext Fe He F H) (hm:(forM l b0 f).bind kk=some r) (I:Hp->β->St->Hp->Hp->Prop)
  (h0:∀ F1 H1,Ext F H F1 H1->Ext Fe He F1 H1->I F1 b0 σ F1 H1) (hG:∀ F1 b σ F H,I F1 b σ F H->Ext Fe He F H/\Same F1 F)
  (hs:∀ F1 (S0:Same F F1) b b' x v σ F H F' H',I F1 b σ F H->Ext F H F' H'->c.rep K F' x v->f b x=some b'->g v σ H' fun σ2 H2=>tb { D with nx:=fun σ H=>∃ F,I F1 b' σ F H,ct:=fun σ H=>∃ F,I F1 b' σ F H,bk:=u' D } σ2 H2)
  (hd:∀ F1 (S0:Same F F1) b σ F H,kk b=some r->I F1 b σ F H->u' D σ H):Uw (jej wi g tb) u' D σ H:=Ji (m:=some l) hi X hm I h0 hG hs hd
theorem jdJ {g:TG}{tb:TS}{f:β->α->Option (Fl β γ)}{A:γ->Option δ} (P:γ->Prop) (hi:Ei K σ F H Fe He wi c (some l)) (X:Ext Fe He F H) (hm:(Yw l b0 f).bind (fun x=>x.el A kk)=some r) (hP:∀ c,A c=some r->P c) (I:Hp->β->St->Hp->Hp->Prop)
  (h0:∀ F1 H1,Ext F H F1 H1->Ext Fe He F1 H1->I F1 b0 σ F1 H1) (hG:∀ F1 b σ F H,I F1 b σ F H->Ext Fe He F H/\Same F1 F)
  (hs:∀ F1 (S0:Same F F1) b s x v σ F H F' H',I F1 b σ F H->Ext F H F' H'->c.rep K F' x v->f b x=some s->(∀ c,s=.rt c->P c)->g v σ H' fun σ2 H2=>tb { D with nx:=fun σ H=>∃ b' F,s=.nx b'/\I F1 b' σ F H,ct:=fun σ H=>∃ b' F,s=.nx b'/\I F1 b' σ F H,bk:=u' D } σ2 H2)
  (hd:∀ F1 (S0:Same F F1) b σ F H,kk b=some r->I F1 b σ F H->u' D σ H):Uw (jej wi g tb) u' D σ H:=jbF (m:=some l) P hi X hm hP I h0 hG hs hd
theorem Z6 {p1:Pm α1}{m:α1->Option γ} (h1:Ev K σ F H t1 p1.rs (some x1)):Ev K σ F H (JJ (sp1 K p1 rs m) [] E0 (ki t1 yi)) rs (m x1):=Ze h1
theorem Z7 {c1:Cd α1}{m:α1->Option γ} (ob:Zf c1 C nm) (h1:Ev K σ F H t1 (rF c1) (some x1)):Ev K σ F H (Uy C nm (sp1 K (pF c1) rs m) [] E0 t1 yi) rs (m x1):=jds ob h1
theorem Z8 {p1:Pm α1}{p2:Pm α2}{m:α1->α2->Option γ} (h1:Ev K σ F H t1 p1.rs (some x1)) (h2:Ev K σ F H t2 p2.rs (some x2)):Ev K σ F H (JJ (sp2 K p1 p2 rs m) [] E0 (ki t1 (ki t2 yi))) rs (m x1 x2):=Zg h1 h2
theorem Z9 {c1:Cd α1}{p2:Pm α2}{m:α1->α2->Option γ} (ob:Zf c1 C nm) (h1:Ev K σ F H t1 (rF c1) (some x1)) (h2:Ev K σ F H t2 p2.rs (some x2)):Ev K σ F H (Uy C nm (sp2 K (pF c1) p2 rs m) [] E0 t1 (ki t2 yi)) rs (m x1 x2):=jdt ob h1 h2
theorem Z_ {p1:Pm α1}{p2:Pm α2}{p3:Pm α3}{m:α1->α2->α3->Option γ}{x3:α3} (h1:Ev K σ F H t1 p1.rs (some x1)) (h2:Ev K σ F H t2 p2.rs (some x2)) (h3:Ev K σ F H t3 p3.rs (some x3)):Ev K σ F H (JJ (sp3 K p1 p2 p3 rs m) [] E0 (ki t1 (ki t2 (ki t3 yi)))) rs (m x1 x2 x3):=Zh h1 h2 h3
end
section
variable {F:Hp}{t te:TE}{c:Cd α}{d:Cd β}{p:Pm α}{q:Pm β}{rs:Rs γ} 
variable {ma:Option α}{a:α}{b:β}
theorem kr {r:R2}{op:α->β->Option γ}  {mm_:_} (ho:Op2 K r p q rs op) (ha:Ev K σ F H ta p.rs ma) (hb:Ev K σ F H tb q.rs mb) (e':mm_=(ma.bind fun a=>mb.bind fun b=>op a b)):Ev K σ F H (tOp r ta tb) rs mm_:=by
 subst e';exact Yr ho ha hb
theorem jl {r:R2}{op:α->β->Option γ}  {mm_:_} (ho:Op2 K r p q rs op) (ha:Ev K σ F H ta p.rs (some a)) (hb:Ev K σ F H tb q.rs (some b)) (e':mm_=(op a b)):Ev K σ F H (tOp r ta tb) rs mm_:=by
 subst e';exact jfA ho ha hb
theorem Q3 {r:V->Hp->VK->Prop}  {mm_:_} (ho:Op1 K r p rs op) (ha:Ev K σ F H ta p.rs (some a)) (e':mm_=(op a)):Ev K σ F H (tUn r ta) rs mm_:=by
 subst e';exact jfB ho ha
theorem xy {r:List V->Hp->VK->Prop}  {mm_:_} (ho:Op1 K (fun x=>r [x]) p rs op) (ha:Ev K σ F H ta p.rs ma) (e':mm_=(ma.bind op)):Ev K σ F H (tCB r (ki ta yi)) rs mm_:=by
 subst e';exact jes ho ha
theorem jL {r:List V->Hp->VK->Prop}  {mm_:_} (ho:Op1 K (fun x=>r [x]) p rs op) (ha:Ev K σ F H ta p.rs (some a)) (e':mm_=(op a)):Ev K σ F H (tCB r (ki ta yi)) rs mm_:=by
 subst e';exact jdA ho ha
theorem Zn {m:Option Bool}  {mm_:_} (h:Ev K σ F H t (rF cB) m) (e':mm_=(m.bind fun b=>some (!b))):Ev K σ F H (jaO t) (rF cB) mm_:=by
 subst e';exact jew h
theorem jaa {a:Bool}  {mm_:_} (h:Ev K σ F H t (rF cB) (some a)) (e':mm_=(some (!a))):Ev K σ F H (jaO t) (rF cB) mm_:=by
 subst e';exact jdB h
theorem y3 {u:TT}{m:Option Bool}  {mm_:_} (h:Et K σ F H u m) (e':mm_=(m.bind fun b=>some (!b))):Et K σ F H (jgu u) mm_:=by
 subst e';exact jeu h
theorem xT {u:TT}{a:Bool}  {mm_:_} (h:Et K σ F H u (some a)) (e':mm_=(some (!a))):Et K σ F H (jgu u) mm_:=by
 subst e';exact jdC h
theorem Zo {m:Option Bool}  {mm_:_} (h:Ev K σ F H ta (rF cB) m) (h':Ev K σ F H tb (rF cB) n') (e':mm_=(m.bind fun b=>bif b then n' else some false)):Ev K σ F H (Wq ta tb) (rF cB) mm_:=by
 subst e';exact jbp h h'
theorem jab {a b:Bool}  {mm_:_} (h:Ev K σ F H ta (rF cB) (some a)) (h':Ev K σ F H tb (rF cB) (some b)) (e':mm_=(some (a&&b))):Ev K σ F H (Wq ta tb) (rF cB) mm_:=by
 subst e';exact jdD h h'
theorem jbR {m:Option Bool}  {mm_:_} (h:Ev K σ F H ta (rF cB) m) (h':Ev K σ F H tb (rF cB) n') (e':mm_=(m.bind fun b=>bif b then some true else n')):Ev K σ F H (jgv ta tb) (rF cB) mm_:=by
 subst e';exact jgR h h'
theorem jdK {u v:TT}{m:Option Bool}  {mm_:_} (h:Et K σ F H u m) (h':Et K σ F H v n') (e':mm_=(m.bind fun b=>bif b then n' else some false)):Et K σ F H (jgt u v) mm_:=by
 subst e';exact jev h h'
theorem GH {u v:TT}{a b:Bool}  {mm_:_} (h:Et K σ F H u (some a)) (h':Et K σ F H v (some b)) (e':mm_=(some (a||b))):Et K σ F H (tOr u v) mm_:=by
 subst e';exact jfC h h'
theorem WL  {mm_:_} (ha:Ev K σ F H ta (rF c) ma) (hr:El K σ F H tr c n mr) (e':mm_=(ma.bind fun a=>mr.bind fun l=>some (a::l))):El K σ F H (ki ta tr) c (n+1) mm_:=by
 subst e';exact jbr ha hr
theorem jJ  {mm_:_} (ha:Ev K σ F H ta (rF c) (some a)) (hr:El K σ F H tr c n (some l)) (e':mm_=(some (a::l))):El K σ F H (ki ta tr) c (n+1) mm_:=by
 subst e';exact jbG ha hr
theorem jbS  {mm_:_} (ha:Ev K σ F H ta (rF c) ma) (hb:Ev K σ F H tb (rF d) mb) (e':mm_=(ma.bind fun a=>mb.bind fun b=>some (a,b))):Ev K σ F H (jgj (ki ta (ki tb yi))) (rF (cP c d)) mm_:=by
 subst e';exact jbs ha hb
theorem Jt  {mm_:_} (ha:Ev K σ F H ta (rF c) (some a)) (hb:Ev K σ F H tb (rF d) (some b)) (e':mm_=(some (a,b))):Ev K σ F H (jgj (ki ta (ki tb yi))) (rF (cP c d)) mm_:=by
 subst e';exact jbH ha hb
theorem xE {i:Int}  {mm_:_} (h:Ev K σ F H t (rF cI) (some i)) (e':mm_=(some (some i))):Eo K σ F H (jdg t) mm_:=by
 subst e';exact jbI h
theorem UR {x y:Option Int}  {mm_:_} (h:Ev K σ F H t (pR c).rs (some l)) (hl:Eo K σ F H tl (some x)) (hh:Eo K σ F H th (some y)) (e':mm_=(some (cut l x y))):Ev K σ F H (tSl (jhR K) t tl th) (rO c) mm_:=by
 subst e';exact jdG h hl hh
theorem kT {f:Str}{g:α->β}  {mm_:_} (hf:Uz K c f d g) (h:Ev K σ F H t (rF c) (some a)) (e':mm_=(some (g a))):Ev K σ F H (jgA K t f) (rF d) mm_:=by
 subst e';exact jdH hf h
theorem xU {n:String}{tv:Value}{b:Bool}  {mm_:_} (hc:∀ u,RelV (.ty n) u->u=cv) (ht:∀ {F H a x},Same F H->p.rel K F H a x->TyOf K H x tv) (hk:W.kitOne K tv cv=some b) (ha:Ev K σ F H ta p.rs (some a)) (e':mm_=(some b)):Ev K σ F H (tCB (fun xs H Q=>∃ x c cv t b,xs=[x,c]/\(∀ u,RelV c u->u=cv)/\TyOf K H x t/\W.kitOne K t cv=some b/\Q (.bl b) H) (ki ta (ki (tC (.ty n)) yi))) (rF cB) mm_:=by
 subst e';exact jdI hc ht hk ha
theorem Gj {i:Int}  {mm_:_} (h:-(2 ^ 64)<j/\j<2 ^ 64) (ha:Ev K σ F H ta (rF cI) (some i)) (hb:Ev K σ F H tb (rF cI) (some j)) (e':mm_=(some (i * j))):Ev K σ F H (tOp (rI CMul fun i j=>.int (i * j)) ta tb) (rF cI) mm_:=by
 subst e';exact jbJ h ha hb
theorem YA {i:Int}  {mm_:_} (h:-(2 ^ 64)<i/\i<2 ^ 64) (ha:Ev K σ F H ta (rF cI) (some i)) (hb:Ev K σ F H tb (rF cI) (some j)) (e':mm_=(some (i * j))):Ev K σ F H (tOp (rI CMul fun i j=>.int (i * j)) ta tb) (rF cI) mm_:=by
 subst e';exact jbK h ha hb
theorem JO {ma:Option Int}  {mm_:_} (h:0<j) (ha:Ev K σ F H ta (rF cI) ma) (hb:Ev K σ F H tb (rF cI) (some j)) (e':mm_=(ma.bind fun a=>some (a % j))):Ev K σ F H (tOp (rI (fun _ j=>0<j) fun i j=>.int (i % j)) ta tb) (rF cI) mm_:=by
 subst e';exact jbA h ha hb
theorem xF {i:Int}  {mm_:_} (h:0<j) (ha:Ev K σ F H ta (rF cI) (some i)) (hb:Ev K σ F H tb (rF cI) (some j)) (e':mm_=(some (i % j))):Ev K σ F H (tOp (rI (fun _ j=>0<j) fun i j=>.int (i % j)) ta tb) (rF cI) mm_:=by
 subst e';exact jbL h ha hb
theorem WM {ma:Option Int}  {mm_:_} (h:0<j/\j<2 ^ 250) (ha:Ev K σ F H ta (rF cI) ma) (hb:Ev K σ F H tb (rF cI) (some j)) (e':mm_=(ma.bind fun a=>some (a / j))):Ev K σ F H (tOp (rI Z0 fun i j=>.int (i / j)) ta tb) (rF cI) mm_:=by
 subst e';exact jbB h ha hb
theorem zg {i:Int}  {mm_:_} (h:0<j/\j<2 ^ 250) (ha:Ev K σ F H ta (rF cI) (some i)) (hb:Ev K σ F H tb (rF cI) (some j)) (e':mm_=(some (i / j))):Ev K σ F H (tOp (rI Z0 fun i j=>.int (i / j)) ta tb) (rF cI) mm_:=by
 subst e';exact jbM h ha hb
theorem Vq {i:Int}  {mm_:_} (h:Ev K σ F H t (rF cI) (some i)) (e':mm_=(some ((Builtin.Int.intBits i:Nat):Int))):Ev K σ F H (jhS K "int" (fun x vs H Q=>∃ i,x=.int i/\vs=[]/\Q (.int (Builtin.Int.intBits i)) H) t) (rF cI) mm_:=by
 subst e';exact Yy h
theorem jbT {m:Option Int}  {mm_:_} (h:Ev K σ F H t (rF cI) m) (e':mm_=(m.bind fun j=>yr 0 j)):Ei K σ F H Fe He (U5 (ki t yi)) cI mm_:=by
 subst e';exact jbv h
theorem kA  {mm_:_} (h:Ev K σ F H t (rF cI) (some j)) (e':mm_=(yr 0 j)):Ei K σ F H Fe He (U5 (ki t yi)) cI mm_:=by
 subst e';exact jbN h
theorem YB {i:Int}  {mm_:_} (h:Ev K σ F H t (rF cI) (some i)) (h':Ev K σ F H ta (rF cI) (some j)) (e':mm_=(yr i j)):Ei K σ F H Fe He (Yl (ki t (ki ta yi))) cI mm_:=by
 subst e';exact jbO h h'
theorem jbU {m:Option Int}  {mm_:_} (h:Ev K σ F H t (rF cI) m) (e':mm_=(m.bind fun j=>yr 0 j)):Ec K σ F H (U5 (ki t yi)) cI mm_:=by
 subst e';exact jbw h
theorem qO  {mm_:_} (h:Ev K σ F H t (rF cI) (some j)) (e':mm_=(yr 0 j)):Ec K σ F H (U5 (ki t yi)) cI mm_:=by
 subst e';exact jbP h
theorem YC {i:Int}  {mm_:_} (h:Ev K σ F H t (rF cI) (some i)) (h':Ev K σ F H ta (rF cI) (some j)) (e':mm_=(yr i j)):Ec K σ F H (Yl (ki t (ki ta yi))) cI mm_:=by
 subst e';exact jbQ h h'
theorem yG {tc:Blk->TT}{te:Blk->TE}{mc:α->Option Bool}{me:α->Option β}  {mm_:_} (hi:Ec K σ F H wi c (some l)) (fr:St) (hfr:(ix.map fun i=>(σ[i]?).join)=fr)
  (hc:∀ b x v F' H',Ext F H F' H'->c.rep K F' x v->Et K (some v::fr) F' H' (tc b) (mc x)) (he:∀ b x v F' H',Ext F H F' H'->c.rep K F' x v->Ev K (some v::fr) F' H' (te b) (rF d) (me x)) (e':mm_=(qa l mc me)):Ev K σ F H (JL wi 1 ix (fun _=>xq 0) tc te) (rO d) mm_:=by
 subst e';exact Z4 hi fr hfr hc he
theorem qh {tc:Blk->TT}{te:Blk->TE}{m:Option (List Int)}  {mm_:_} (hi:Ec K σ F H wi cI m) (fr:St) (hfr:(ix.map fun i=>(σ[i]?).join)=fr)
  (hc:∀ b x F' H',Ext F H F' H'->Et K (some (.int x)::fr) F' H' (tc b) (mc x)) (he:∀ b x F' H',Ext F H F' H'->Ev K (some (.int x)::fr) F' H' (te b) (rF d) (me x)) (e':mm_=(m.bind fun l=>qa l mc me)):Ev K σ F H (JL wi 1 ix (fun _=>xq 0) tc te) (rO d) mm_:=by
 subst e';exact Zk hi fr hfr hc he
theorem yH {tc:Blk->TT}{te:Blk->TE}{l:List Int}  {mm_:_} (hi:Ec K σ F H wi cI (some l)) (fr:St) (hfr:(ix.map fun i=>(σ[i]?).join)=fr)
  (hc:∀ b x F' H',Ext F H F' H'->Et K (some (.int x)::fr) F' H' (tc b) (mc x)) (he:∀ b x F' H',Ext F H F' H'->Ev K (some (.int x)::fr) F' H' (te b) (rF d) (me x)) (e':mm_=(qa l mc me)):Ev K σ F H (JL wi 1 ix (fun _=>xq 0) tc te) (rO d) mm_:=by
 subst e';exact Z5 hi fr hfr hc he
theorem JP {tc:Blk->TT}{te:Blk->TE}{e:Cd γ}{l:List (Int×Int)}{mc:Int×Int->Option Bool}{me:Int×Int->Option γ}  {mm_:_} (hi:Ec K σ F H wi (cP cI cI) (some l)) (fr:St) (hfr:(ix.map fun i=>(σ[i]?).join)=fr)
  (hc:∀ b x y F' H',Ext F H F' H'->Et K (some (.int x)::some (.int y)::fr) F' H' (tc b) (mc (x,y))) (he:∀ b x y F' H',Ext F H F' H'->Ev K (some (.int x)::some (.int y)::fr) F' H' (te b) (rF e) (me (x,y))) (e':mm_=(qa l mc me)):Ev K σ F H (JL wi 2 ix (fun _=>je4 K 2 (J9 (xq 0) (J9 (xq 1) je3))) tc te) (rO e) mm_:=by
 subst e';exact Yz hi fr hfr hc he
theorem US {p1:Pm α1}{m:α1->Option γ}  {mm_:_} (h1:Ev K σ F H t1 p1.rs m1) (e':mm_=(m1.bind fun x1=>m x1)):Ev K σ F H (JJ (sp1 K p1 rs m) [] E0 (ki t1 yi)) rs mm_:=by
 subst e';exact Ze h1
theorem kK {p1:Pm α1}{m:α1->Option γ}  {mm_:_} (h1:Ev K σ F H t1 p1.rs (some x1)) (e':mm_=(m x1)):Ev K σ F H (JJ (sp1 K p1 rs m) [] E0 (ki t1 yi)) rs mm_:=by
 subst e';exact Z6 h1
theorem kL {p1:Pm α1}{p2:Pm α2}{m:α1->α2->Option γ}  {mm_:_} (h1:Ev K σ F H t1 p1.rs m1) (h2:Ev K σ F H t2 p2.rs m2) (e':mm_=(m1.bind fun x1=>m2.bind fun x2=>m x1 x2)):Ev K σ F H (JJ (sp2 K p1 p2 rs m) [] E0 (ki t1 (ki t2 yi))) rs mm_:=by
 subst e';exact Zg h1 h2
theorem jI {p1:Pm α1}{p2:Pm α2}{m:α1->α2->Option γ}  {mm_:_} (h1:Ev K σ F H t1 p1.rs (some x1)) (h2:Ev K σ F H t2 p2.rs (some x2)) (e':mm_=(m x1 x2)):Ev K σ F H (JJ (sp2 K p1 p2 rs m) [] E0 (ki t1 (ki t2 yi))) rs mm_:=by
 subst e';exact Z8 h1 h2
theorem Jf {p1:Pm α1}{p2:Pm α2}{p3:Pm α3}{m:α1->α2->α3->Option γ}  {mm_:_} (h1:Ev K σ F H t1 p1.rs m1) (h2:Ev K σ F H t2 p2.rs m2) (h3:Ev K σ F H t3 p3.rs m3) (e':mm_=(m1.bind fun x1=>m2.bind fun x2=>m3.bind fun x3=>m x1 x2 x3)):Ev K σ F H (JJ (sp3 K p1 p2 p3 rs m) [] E0 (ki t1 (ki t2 (ki t3 yi)))) rs mm_:=by
 subst e';exact Zh h1 h2 h3
theorem kQ {p1:Pm α1}{p2:Pm α2}{p3:Pm α3}{m:α1->α2->α3->Option γ}{x3:α3}  {mm_:_} (h1:Ev K σ F H t1 p1.rs (some x1)) (h2:Ev K σ F H t2 p2.rs (some x2)) (h3:Ev K σ F H t3 p3.rs (some x3)) (e':mm_=(m x1 x2 x3)):Ev K σ F H (JJ (sp3 K p1 p2 p3 rs m) [] E0 (ki t1 (ki t2 (ki t3 yi)))) rs mm_:=by
 subst e';exact Z_ h1 h2 h3
theorem GI {c1:Cd α1}{m:α1->Option γ}  {mm_:_} (ob:Zf c1 C nm) (h1:Ev K σ F H t1 (rF c1) (some x1)) (e':mm_=(m x1)):Ev K σ F H (Uy C nm (sp1 K (pF c1) rs m) [] E0 t1 yi) rs mm_:=by
 subst e';exact Z7 ob h1
theorem kE {c1:Cd α1}{p2:Pm α2}{m:α1->α2->Option γ}  {mm_:_} (ob:Zf c1 C nm) (h1:Ev K σ F H t1 (rF c1) (some x1)) (h2:Ev K σ F H t2 p2.rs (some x2)) (e':mm_=(m x1 x2)):Ev K σ F H (Uy C nm (sp2 K (pF c1) p2 rs m) [] E0 t1 (ki t2 yi)) rs mm_:=by
 subst e';exact Z9 ob h1 h2
theorem jac {a:Bool}{m:Option Bool}  {mm_:_} (h:Ev K σ F H ta (rF cB) (some a)) (h':Ev K σ F H tb (rF cB) m) (e':mm_=(bif a then m else some false)):Ev K σ F H (Wq ta tb) (rF cB) mm_:=by
 subst e';exact jdE h h'
theorem jbV {a:Bool}{m:Option Bool}  {mm_:_} (h:Ev K σ F H ta (rF cB) (some a)) (h':Ev K σ F H tb (rF cB) m) (e':mm_=(bif a then some true else m)):Ev K σ F H (jgv ta tb) (rF cB) mm_:=by
 subst e';exact jfD h h'
theorem jad {u v:TT}{a:Bool}{m:Option Bool}  {mm_:_} (h:Et K σ F H u (some a)) (h':Et K σ F H v m) (e':mm_=(bif a then m else some false)):Et K σ F H (jgt u v) mm_:=by
 subst e';exact jdF h h'
theorem Q4 {u v:TT}{a:Bool}{m:Option Bool}  {mm_:_} (h:Et K σ F H u (some a)) (h':Et K σ F H v m) (e':mm_=(bif a then some true else m)):Et K σ F H (tOr u v) mm_:=by
 subst e';exact jfE h h'
theorem Q5 {x y:Int}  {mm_:_} (ha:Ev K σ F H ta (rF cI) (some x)) (hb:Ev K σ F H tb (rF cI) (some y)) (hc:Ev K σ F H tc (rF cI) (some z)) (e':mm_=(some (g x y&&g' y z))):Ev K σ F H (Y4 (rI0 fun i j=>.bl (g i j)) (rI0 fun i j=>.bl (g' i j)) ta tb tc) (rF cB) mm_:=by
 subst e';exact jbq ha hb hc
theorem WN {x y w:Int}  {mm_:_} (ha:Ev K σ F H ta (rF cI) (some x)) (hb:Ev K σ F H tb (rF cI) (some y)) (hc:Ev K σ F H tc (rF cI) (some z)) (hd:Ev K σ F H td (rF cI) (some w)) (e':mm_=(some (g x y&&(g' y z&&g'' z w)))):Ev K σ F H (Yq (rI0 fun i j=>.bl (g i j)) (rI0 fun i j=>.bl (g' i j)) (rI0 fun i j=>.bl (g'' i j)) ta tb tc td) (rF cB) mm_:=by
 subst e';exact Z2 ha hb hc hd
theorem jbW {i:Int}{j:Nat}  {mm_:_} (h:(0:Int)<=(j:Int)/\(j:Int)<=1000000/\i.natAbs<2 ^ 64) (ha:Ev K σ F H ta (rF cI) (some i)) (hb:Ev K σ F H tb (rF cI) (some (j:Int))) (e':mm_=(some (i ^ j))):Ev K σ F H (tOp (rI jgi fun i j=>.int (i ^ j.toNat)) ta tb) (rF cI) mm_:=by
 subst e';exact jfx h ha hb
end
section
variable {F:Hp}{t te:TE}{c:Cd α}{d:Cd β}{p:Pm α}{q:Pm β}{rs:Rs γ}{i:Int}
theorem YD {f:Str}{fs:List (Str×V)} (h:fs.length<=n):(Qq f v fs).length<=n+1:=we (Jr f v fs) (Nat.succ_le_succ h)
structure OwnI (He F H:Hp) (C x dx:Addr) (fs:List (Str×V)):Prop where
 e:He x=none
 f:F x=none
 h:H x=some (.ins C dx fs)
theorem OwnI.mono {x:Addr}{fs:List (Str×V)} (o:OwnI He F H C x dx fs) (E:Ext F H F' H'):OwnI He F' H' C x dx fs:=by
 refine⟨o.e,?_,E.h _ _ o.h⟩;cases e:F' x with
 | none=>rfl
 | some u=>
  rcases E.new x u e with z | z
  ·rw[o.f] at z; cases z
  ·rw[o.h] at z; cases z
theorem OwnI.freeze {x:Addr}{fs:List (Str×V)} (o:OwnI He F H C x dx fs) (X:Ext Fe He F H):∃ F',Ext Fe He F' H/\Chg x F H F' H/\F' x=some (.ins C dx fs):=
 ⟨upd F x (.ins C dx fs),X.frz o.e o.f o.h,⟨qU o.f,fun _ _ _ h=>h,fun b u e hb=>by rw[qp e] at hb; exact .inl hb⟩,kR⟩
theorem jfF {k:Nat}{x:Addr}{fs:List (Str×V)}{f:Str}{a:α} (hi:σ[k]?=some (some (.ref x))) (o:OwnI He F H C x dx fs) (cl:Cls K C) (na:NoAttr K C f) (hl:fs.lookup f=some v) (h:p.rel K F H a v):Ev K σ F H (jgA K (Uv k) f) p.rs (some a):=by
 intro F1 H1 E b e Q k;cases e;exact⟨_,hi,x,C,dx,fs,v,rfl,E.h _ _ o.h,cl,na,hl,k v F1 H1 (Ext.refl E.sub) (p.mono E h)⟩
theorem UT {x:Addr}{fs:List (Str×V)}{f:Str}{m:Option α}{g:α->Option δ} (hi:σ[k']?=some (some (.ref x))) (o:OwnI He F H C x dx fs) (cl:Cls K C) (na:NoAttr K C f) (hn:fs.length<1000) (he:Ev K σ F H te (rF c) m) (X:Ext Fe He F H) (hm:m.bind g=some r)
  (k:∀ a v F' H',g a=some r->Chg x F H F' H'->Ext Fe He F' H'->c.rep K F' a v->OwnI He F' H' C x dx (Qq f v fs)->D.nx σ H'):jh1 K (Uv k') te f D σ H:=by
 obtain⟨a,ea,hm⟩:=bind_some hm;refine he F H (Ext.refl X.sub) a ea _ fun v F2 H2 E hv=>⟨_,hi,x,C,dx,fs,rfl,E.h _ _ o.h,cl,na,hn,?_⟩;have o2:=o.mono E;exact k a v F2 _ hm (GG E) ((X.trans E).upd o2.e o2.f) hv ⟨o2.e,o2.f,kR⟩
theorem jgZ {x:Addr}{fs:List (Str×V)}{f:Str}{m:Option α}{g:α->Option δ} (hi:σ[k']?=some (some (.ref x))) (o:OwnI He F H C x dx fs) (cl:Cls K C) (na:NoAttr K C f) (hn:fs.length<1000) (he:Ev K σ F H te (rF c) m) (X:Ext Fe He F H) (hm:m.bind g=some r)
  (k:∀ a v F' H',g a=some r->Chg x F H F' H'->Ext Fe He F' H'->c.rep K F' a v->OwnI He F' H' C x dx (Qq f v fs)->u' D σ H'):Uw (jh1 K (Uv k') te f) u' D σ H:=UT (D:={ D with nx:=u' D }) hi o cl na hn he X hm k
theorem Gc {x:Addr} (s:Same F He) (h1:He x=none) (h2:He dx=none) (hne:dx≠x):Ext F He F (upd (upd He dx (.own x)) x (.ins C dx []))/\OwnI He F (upd (upd He dx (.own x)) x (.ins C dx [])) C x dx []:=by
 have e1:Ext F He F (upd He dx (.own x)):=Ext.newO s h2;have h3:(upd He dx (.own x)) x=none:=by rw[qp (Ne.symm hne)]; exact h1
 exact⟨e1.trans (Ext.newO e1.sub h3),h1,s.free h1,kR⟩
def jae (K:W.Frag) (C:Addr) (p1:Pm α1) (c:Cd γ) (m:α1->Option γ):Sp:=fun vs H Q _=>∃ (x1:α1) (v1:V) (F H1:Hp) (x dx:Addr) (r:γ),vs=[.ref x,v1]/\H=upd (upd H1 dx (.own x)) x (.ins C dx [])/\H1 x=none/\H1 dx=none/\dx≠x/\Same F H1/\p1.rel K F H1 x1 v1/\m x1=some r/\∀ F' H',Ext F H1 F' H'->c.rep K F' r (.ref x)->Q .non H'
theorem zF {c:Cd γ}{p1:Pm α1}{m:α1->Option γ}{mm_:Option γ} (h1:Ev K σ F H t1 p1.rs (some x1)) (e':mm_=(m x1)):Ev K σ F H (jdc C (jae K C p1 c m) [] E0 (ki t1 yi)) (rF c) mm_:=by
 subst e';intro F0 H0 E0' z e Q k;refine h1 F0 H0 (E0') x1 rfl _ fun v1 F1 H1 E1 r1=>?_;intro x dx n1 n2 n3;exact⟨x1,v1,F1,H1,x,dx,z,rfl,rfl,n1,n2,n3,E1.sub,r1,e,fun F' H' E' hu=>⟨rfl,k _ F' H' ((E1).trans E') hu⟩⟩
def jhT (K:W.Frag) (C:Addr) (p1:Pm α1) (p2:Pm α2) (c:Cd γ) (m:α1->α2->Option γ):Sp:=fun vs H Q _=>∃ (x1:α1) (x2:α2) (v1 v2:V) (F H1:Hp) (x dx:Addr) (r:γ),vs=[.ref x,v1,v2]/\H=upd (upd H1 dx (.own x)) x (.ins C dx [])/\H1 x=none/\H1 dx=none/\dx≠x/\Same F H1/\p1.rel K F H1 x1 v1/\p2.rel K F H1 x2 v2/\m x1 x2=some r/\∀ F' H',Ext F H1 F' H'->c.rep K F' r (.ref x)->Q .non H'
theorem Qt {c:Cd γ}{p1:Pm α1}{p2:Pm α2}{m:α1->α2->Option γ}{mm_:Option γ} (h1:Ev K σ F H t1 p1.rs (some x1)) (h2:Ev K σ F H t2 p2.rs (some x2)) (e':mm_=(m x1 x2)):Ev K σ F H (jdc C (jhT K C p1 p2 c m) [] E0 (ki t1 (ki t2 yi))) (rF c) mm_:=by
 subst e';intro F0 H0 E0' z e Q k;refine h1 F0 H0 (E0') x1 rfl _ fun v1 F1 H1 E1 r1=>?_;refine h2 F1 H1 ((E0').trans E1) x2 rfl _ fun v2 F2 H2 E2 r2=>?_;intro x dx n1 n2 n3;exact⟨x1,x2,v1,v2,F2,H2,x,dx,z,rfl,rfl,n1,n2,n3,E2.sub,p1.mono (E2) r1,r2,e,fun F' H' E' hu=>⟨rfl,k _ F' H' ((E1.trans (E2)).trans E') hu⟩⟩
end
section
variable {F:Hp}{t te:TE}{c:Cd α}{d:Cd β}{p:Pm α}{q:Pm β}{rs:Rs γ}{i:Int}
@[irreducible] def jaf (l:List Int) (k:Int):Option Int:=(l.findIdx? fun x=>decide (x=k)).map fun j=>((j:Nat):Int)
theorem jbX {l:List Int}{k:Int} (h:jaf l k=some z):∃ j:Nat,z=(j:Int)/\l[j]?=some k/\∀ i a,i<j->l[i]?=some a->a≠k:=by
 unfold jaf at h;cases e:l.findIdx? (fun x=>decide (x=k)) with
 | none=>rw[e] at h; cases h
 | some j=>
  rw[e] at h;cases h;obtain⟨hj,h1,h2⟩:=List.findIdx?_eq_some_iff_getElem.mp e;refine⟨j,rfl,?_,fun i a hi ha=>?_⟩
  ·rw[Xc hj];exact congrArg some (wd h1)
  ·obtain⟨hi',rfl⟩:=List.getElem?_eq_some_iff.mp ha;have:=h2 i hi;simpa using this
@[irreducible] def jbY (n:Int):Option (List Int):=if (-(2 ^ 62)<=n/\n<2 ^ 62)/\n<=16777216 then some (Jm 0 n) else none
theorem jbZ {mm_:Option (List Int)}{m:Option Int} (h:Ev K σ F H t (rF cI) m) (e':mm_=(m.bind fun n=>jbY n)) :
  Ev K σ F H (tCB (fun xs H Q=>∃ p lo hi,xs=[.ref p]/\H p=some (.rng lo hi)/\(-(2 ^ 62)<=lo/\lo<2 ^ 62/\-(2 ^ 62)<=hi/\hi<2 ^ 62)/\(hi-lo).toNat<=2 ^ 24/\∀ l,H l=none->Q (.ref l) (upd H l (.lst ((UN lo hi).map V.int))))
   (ki (fun σ H Q=>(ki t yi) σ H fun vs H1=>∃ j:Int,vs=[.int j]/\∀ x,H1 x=none->Q (.ref x) (upd H1 x (.rng 0 j))) yi)) (rO cI) mm_:=by
 subst e';intro F1 H1 E z e Q k;obtain⟨n,en,e⟩:=bind_some e;unfold jbY at e;obtain⟨⟨⟨h1,h2⟩,h3⟩,rfl⟩:=kX e;refine h F1 H1 E n en _ fun v F2 H2 E2 hv=>?_;have ev:v=.int n:=hv;subst ev;refine⟨n,rfl,fun x hx=>⟨x,0,n,rfl,kR,⟨by omega,by omega,h1,h2⟩,by omega,fun l hl=>?_⟩⟩;have E3:Ext F2 H2 F2 (upd H2 x (.rng 0 n)):=Ext.newO E2.sub hx;exact zE (c:=cI) E3.sub (zZ (Jm 0 n)) (fun v F5 H5 E5 hr=>k v F5 H5 (E2.trans (E3.trans E5)) ((rO cI).back (E2.h.trans E3.h) hr)) l hl
end
section
variable {F:Hp}{t te:TE}{c:Cd α}{d:Cd β}{p:Pm α}{q:Pm β}{rs:Rs γ}{i:Int}
def whM (c:β->Option Bool) (f:β->Option β):Nat->β->Option β
 | 0,_=>none
 | n+1,b=>(c b).bind fun t=>bif t then (f b).bind fun b'=>whM c f n b' else some b
@[irreducible] def pWh (c:β->Option Bool) (f:β->Option β) (b:β):Option β:=whM c f 100000 b
theorem jdL {tc:TT}{tb:TS} (X:Ext Fe He F H) (hm:(pWh cM fM b0).bind kk=some r) (I:Hp->β->St->Hp->Hp->Prop)
  (h0:I F b0 σ F H) (hG:∀ F1 b σ F H,I F1 b σ F H->Ext Fe He F H/\Same F1 F)
  (hc:∀ b σ' F' H',I F b σ' F' H'->Et K σ' F' H' tc (cM b))
  (hb:∀ b b' σ' F' H' F2 H2,I F b σ' F' H'->Ext F' H' F2 H2->fM b=some b'->tb { D with nx:=fun σ H=>∃ F3,I F b' σ F3 H,ct:=fun σ H=>∃ F3,I F b' σ F3 H,bk:=D.nx } σ' H2)
  (hd:∀ b σ' F' H' F2 H2,I F b σ' F' H'->Ext F' H' F2 H2->kk b=some r->D.nx σ' H2):jaS tc tb D σ H:=by
 obtain⟨b1,hb1,hk⟩:=bind_some hm;unfold pWh at hb1;refine⟨fun m σ H=>∃ b F',whM cM fM m b=some b1/\I F b σ F' H,⟨_,b0,F,hb1,h0⟩,?_⟩;rintro m σ' H' ⟨b,F',hrun,hI⟩;cases m with
 | zero=>cases hrun
 | succ k=>
  obtain⟨t,et,hrun⟩:=bind_some hrun;have g:=hG F b σ' F' H' hI;refine hc b σ' F' H' hI F' H' (Ext.refl g.1.sub) t et _ fun F2 H2 E=>?_;cases t with
  | true=>
   obtain⟨b',eb,hrun⟩:=bind_some hrun;rw[if_pos rfl];exact⟨fun σ H=>∃ F3,I F b' σ F3 H,fun σ'' H'' ⟨F3,h3⟩=>⟨k,Nat.lt_succ_self _,b',F3,hrun,h3⟩,hb b b' σ' F' H' F2 H2 hI E eb⟩
  | false=>
   have e:b=b1:=Option.some.inj hrun;subst e;rw[if_neg (by decide)];exact hd b σ' F' H' F2 H2 hI E hk
theorem Qc {tc:TT}{tb:TS} (X:Ext Fe He F H) (hm:(pWh cM fM b0).bind kk=some r) (I:Hp->β->St->Hp->Hp->Prop)
  (h0:I F b0 σ F H) (hG:∀ F1 b σ F H,I F1 b σ F H->Ext Fe He F H/\Same F1 F)
  (hc:∀ b σ' F' H',I F b σ' F' H'->Et K σ' F' H' tc (cM b))
  (hb:∀ b b' σ' F' H' F2 H2,I F b σ' F' H'->Ext F' H' F2 H2->fM b=some b'->tb { D with nx:=fun σ H=>∃ F3,I F b' σ F3 H,ct:=fun σ H=>∃ F3,I F b' σ F3 H,bk:=u' D } σ' H2)
  (hd:∀ b σ' F' H' F2 H2,I F b σ' F' H'->Ext F' H' F2 H2->kk b=some r->u' D σ' H2):Uw (jaS tc tb) u' D σ H:=
 jdL (D:={ D with nx:=u' D }) X hm I h0 hG hc hb hd
end
end L3
variable {p:L3.Pm α}{q:L3.Pm β}{d:L3.Cd β}
namespace L2
open PySem PySem.Spec PyProof.Rows
section
def srt (l:List Int):List Int:=l.mergeSort fun a b=>decide (a<=b)
theorem Zp (l:List Int):(srt l).Perm l:=List.mergeSort_perm l _
theorem jg0 (l:List Int):(srt l).Pairwise (·<=·):=by
 have:=List.pairwise_mergeSort (le:=fun a b:Int=>decide (a<=b)) (fun a b c h1 h2=>by simp at *; omega) (fun a b=>by simp; omega) l;exact this.imp fun h=>by simpa using h
theorem jeB {l m:List Int} (h:m.Perm l) (hs:m.Pairwise (·<=·)):m=srt l:=
 List.Perm.eq_of_pairwise (le:=(·<=·)) (fun a b _ _ h1 h2=>Int.le_antisymm h1 h2) hs (jg0 l) (h.trans (Zp l).symm)
theorem Qu:∀ {us:List Value}{ns:List Int},IntsAre us ns->Vals (ns.map V.int) us
 | _,_,.nil=>.nil
 | _,_,.cons n t h=>.cons ⟨t,rfl⟩ (Qu h)
end
end L2
namespace L3
open PySem PySem.Spec L2
section
variable {F:Hp}{t te:TE}{c:Cd α}{rs:Rs γ}{i:Int}
@[irreducible] def jg1 (l:List Int):Option (List Int):=if l.length<64 then some (srt l) else none
theorem paired_ints {F:Hp}:∀ {l:List Int}{xs:List V},Paired (cI.rep K F) l xs->xs=l.map V.int
 | _,_,.nil=>rfl
 | a::l,x::xs,.cons r s=>by
  have e:x=.int a:=r;rw[e,paired_ints s,XR]
end
end L3
namespace L2
open PySem PySem.Spec PyProof.Rows
section
def dd (l:List Int):List Int:=l.foldl step_dedup []
theorem Q6:∀ {l ms:List Int},l.Nodup->(∀ z,z∈l->z∈ms)->ms.length=l.length->ms.Perm l
 | [],ms,_,_,h=>by
  have e:ms=[]:=List.length_eq_zero_iff.mp h;subst e; exact List.Perm.refl _
 | y::l,ms,nd,sub,h=>by
  have hy:=sub y Xg;obtain⟨ny,nl⟩:=List.nodup_cons.mp nd;refine(List.perm_cons_erase hy).trans (List.Perm.cons _ (Q6 nl (fun z hz=>?_) ?_))
  ·exact(List.mem_erase_of_ne (a:=z) (b:=y) (fun e=>ny (by rw[<- e]; exact hz))).mpr (sub z (Xe _ hz))
  ·rw[List.length_erase_of_mem hy,h]; rfl
theorem Zq:∀ {us:List Value}{ns:List Int},IntsAre us ns->us.length=ns.length
 | _,_,.nil=>rfl
 | _,_,.cons n t h=>by rw[Xv,Xv,Zq h]
end
section
theorem WO {l:Addr}{Q:List Value->Shared->Prop} (ho:s.heap.get? l=some o) (hc:o.cls=.type "tuple") (hd:o.data=.seq vs.toArray n)
  (h:Q vs { s with heap:=(s.heap.push (seqObj "list" #[] 0)).update s.heap.objs.size (Obj.mapSeq (·++vs.toArray)) }) (hsz:vs.length<=sizeLine) :
  wpAny (model prog w) A (collect (.ref l)) Q E s:=by
 unfold collect;refine Xb (wpAny_runValue (codeAny_builtin entry_proto_collect' ?_));show wpAny _ _ (do again (.builtin "list.__iadd__" ⟨[<- newList [],.ref l],[]⟩)) _ _ s;refine Xb (wpAny_newList (Xd ⟨Code.quiet_builtin _ (by decide +kernel),codeAny_builtin entry_list_iadd' ?_⟩));show wpAny _ _ (Builtin.List.listExtendWith (.ref s.heap.objs.size) (.ref l) (.ref s.heap.objs.size)) _ _ { s with heap:=s.heap.push (seqObj "list" #[] 0) }
 unfold Builtin.List.listExtendWith;have ho':(s.heap.push (seqObj "list" #[] 0)).get? l=some o:=Xh _ ho;refine Xb (wpAny_typeOf (T:="tuple") ⟨o,ho',hc⟩ ?_);have ht:(Value.type "tuple"==Value.type "tuple")=true:=by rfl
 rw[if_pos (by rw[ht]; simp)];refine Xb (listItems_at ho' hd ?_);refine Xb (listItems_at (xs:=#[]) (n:=0) (XD _ rfl) rfl ?_);rw[if_neg (by simp)];refine Xb (listUpdate_at (xs:=#[]) (n:=0) (XD _ rfl) rfl ?_ (wg _) (by show (#[]++vs.toArray).size<=sizeLine+1; simp only[Array.size_append,Xs,List.length_nil]; omega));refine Xd ?_;show wpAny (model prog w) A (load s.heap.objs.size >>= _) Q E _;refine Xb (wpAny_load (get?_update_seq (XD _ rfl) _) ?_);show wpAny _ _ (pure ((#[]:Array Value)++vs.toArray).toList) Q E _;rw[show ((#[]:Array Value)++vs.toArray).toList=vs by simp];exact Xd h
theorem YE {l:Addr} (ho:s.heap.get? l=some o) (hc:o.cls=.type "tuple") (hd:o.data=.seq vs.toArray n) (hI:IntsAre vs ns) (h64:vs.length<64)
  (h:∀ (out:Array Value) (ns':List Int),IntsAre out.toList ns'->ns'.Perm ns->ns'.Pairwise (·<=·)->Q (.ref (s.heap.objs.size+1)) { s with heap:=sortedAll s.heap vs out }) :
  wpAny (model prog w) A (call (.builtin "sorted") [.ref l]) Q E s:=by
 refine Calls.call_function_entry kind_sorted plain_sorted entry_sorted (args_sorted1 _) ?_;unfold Builtin.«sorted»;refine Xb (m:=checkCount "sorted" 1 1 _) (Xd ?_);refine Xb (WO ho hc hd ?_ (by rw[XY]; omega));refine Xb (wpAny_newList ?_);have sz:((s.heap.push (seqObj "list" #[] 0)).update s.heap.objs.size (Obj.mapSeq (·++vs.toArray))).objs.size=s.heap.objs.size+1:=by
  rw[Heap.size_update,size_push']
 have hL:(((s.heap.push (seqObj "list" #[] 0)).update s.heap.objs.size (Obj.mapSeq (·++vs.toArray))).push (seqObj "list" vs.toArray 0)).get? (s.heap.objs.size+1)=some (seqObj "list" vs.toArray 0):=by
  rw[<- sz]; exact XD _ rfl
 show wpAny _ _ _ _ _ { s with heap:=((s.heap.push (seqObj "list" #[] 0)).update s.heap.objs.size (Obj.mapSeq (·++vs.toArray))).push (seqObj "list" vs.toArray 0) }
 rw[sz];refine Xb (wv (wpAny_call_entry slot_list_sort ⟨_,hL,rfl⟩ entry_list_sort (list_sort_tree hL hI h64 fun out ns' a1 a2 a3=>⟨_,rfl,?_⟩) (args_list_sort _)));exact Xd ⟨_,rfl,h out ns' a1 a2 a3⟩
end
section
theorem WP:Jq X (.builtin "sorted") (fun xs H Q=>∃ p ns,xs=[.ref p]/\SqT X.K H p (ns.map V.int)/\ns.length<64/\∀ l,H l=none->Q (.ref l) (upd H l (.lst ((srt ns).map V.int)))):=by
 intro pins s σ H xs us Q I r h;obtain⟨p,ns,rfl,hq,hn,q⟩:=h;obtain⟨u,rfl,rx⟩:=Ux r;cases rx;obtain⟨its,rv,pl,hz⟩:=I.tuple hq;have hlen:=rv.length;rw[Xr] at hlen;obtain⟨o,ho,hc,n,hd⟩:=pl;refine YE ho hc hd (zY rv) (by omega) fun out ns' a1 a2 a3=>?_;obtain⟨e,he⟩:=sortedAll_at s.heap its out;have e':=jeB a2 a3;subst e';refine⟨.ref _,_,I.laid (o:=.lst ((srt ns).map V.int)) (t':=s.toks) (fun b o eb=>sortedAll_old eb) (Nat.le_succ _) ⟨?_,out.toList,e,Qu a1,by simpa using he⟩,rfl,q _ (I.hok.fresh (Nat.le_succ _))⟩;rw[Xr,(Zp ns).length_eq];rw[Xr] at hz;exact hz
end
end L2
namespace L3
open PySem PySem.Spec L2
section
variable {F:Hp}{t te:TE}{c:Cd α}{rs:Rs γ}{i:Int}
theorem jb0:Op1 K (fun x H Q=>∃ p ns,[x]=[V.ref p]/\SqT K H p (ns.map V.int)/\ns.length<64/\∀ l,H l=none->Q (.ref l) (upd H l (.lst ((srt ns).map V.int)))) (pF (cT cI)) (rO cI) (fun l=>jg1 l):=by
 intro F H l x s hx z hz Q k;obtain⟨p,xs,rfl,h1,h2⟩:=hx;unfold jg1 at hz;obtain⟨hn,rfl⟩:=kX hz;rw[paired_ints h2] at h1;exact⟨p,l,rfl,SqT.of (s _ _ h1),hn,fun a ha=>zE s (zZ (srt l)) k a ha⟩
@[irreducible] def b2i (k:Bool):Int:=if k then 1 else 0
theorem jg2:Op1 K (fun x H Q=>(∃ i,[x]=[V.int i]/\Q (.int i) H) \/ ∃ k,[x]=[V.bl k]/\Q (.int (if k then 1 else 0)) H) (pF cB) (rF cI) (fun i=>some (b2i i)):=by
 intro F H a x s hx z hz Q k;cases hx; cases hz;refine .inr ⟨a,rfl,?_⟩;have:=k _ F H (Ext.refl s) (show (cI.rep K F (b2i a) (.int (b2i a))) from rfl);unfold b2i at this;exact this
end
end L3
namespace HT
open PySem PyProof.Rows
section
theorem cat_tup0 {t b:Addr}{ws:List Value} (ht:IsTup s.heap t vs.toArray) (hb:IsTup s.heap b ws.toArray) (hv:vs=[]) (h:Q (.ref b) s) :
  wpAny (model prog w) A (binaryOp .Add (.ref t) (.ref b)) Q E s:=by
 obtain⟨⟨cls,dd,data,sl⟩,ho,hc,n,hd⟩:=id ht;obtain⟨⟨cls2,dd2,data2,sl2⟩,ho2,hc2,n2,hd2⟩:=id hb;simp only at hc hd hc2 hd2;subst hc hd hc2 hd2;exact concat_meets ⟨_,ho,rfl⟩ ⟨_,ho2,rfl⟩ noFill_tuple_add seq_tuple_add PySem.F.slot_tuple_add PySem.F.entry_tuple_add (PySem.F.args_tuple_add_2 _ _)
  (tuple_addW0 t b vs.toArray ws.toArray n n2 dd dd2 sl sl2 (by simp[hv])) ⟨ho,ho2,h⟩
theorem getItem_tuple_whole {t sl:Addr} (ht:IsTup s.heap t items) (hs:s.heap.IsSliceOf sl vl vu .none) (pl:IsPart vl lo) (pu:IsPart vu hi)
  (hw:sIx items.size 0 lo=0/\sIx items.size items.size hi=items.size) (h:Q (.ref t) s):wpAny (model prog w) A (getItem (.ref t) (.ref sl)) Q E s:=by
 obtain⟨os,hos,hcs,hds⟩:=id hs;have hTs:s.TypeIs (.ref sl) "slice":=⟨os,hos,hcs⟩;unfold getItem
 try with_reducible refine wpAny_holding ?_
 first | refine wpAny_bind (wpAny_pure ?_) | skip
 refine wpAny_bind (wpAny_sequenceKey ht.typeIs (by decide) ?_);refine wpAny_bind (wpAny_callSpecial?_slot (name:=Str.ofString "__getitem__") ht.typeIs PyProof.Rows.slot_tuple_getitem
  (wpAny_call_entry PyProof.Rows.slot_tuple_getitem ht.typeIs entry_tuple_getitem ?_ (args_tuple_getitem _ _)))
 show wpAny _ _ (Builtin.Tuple.tupleItemsOf (.ref t) >>= _) _ _ s;refine wpAny_bind (tupleItemsOf_ ht ?_);refine wpAny_bind (wpAny_typeOf hTs ?_);rw[if_pos (by decide)];refine wpAny_bind (Gx hs pl pu ?_);have hyes:(((sIx items.size 0 lo:Nat):Int)==0&&(1:Int)==1&&(sIx items.size items.size hi-sIx items.size 0 lo)==items.size)=true:=by
  rw[hw.1,hw.2,Nat.sub_zero];simp
 show wpAny _ _ (if (((sIx items.size 0 lo:Nat):Int)==0&&(1:Int)==1&&(sIx items.size items.size hi-sIx items.size 0 lo)==items.size)=true then _ else _) _ _ s;rw[if_pos hyes];refine wpAny_bind ?_;unfold Builtin.Tuple.tupleIsExact;refine wpAny_bind (wpAny_typeOf ht.typeIs (wpAny_pure ?_));rw[if_pos (by decide)];exact wpAny_bind (wpAny_rule (wpAny_pure ⟨_,rfl,wpAny_pure h⟩))
end
end HT
namespace L2
open PySem PySem.Spec PyProof.Rows
section
def jeC (K:W.Frag):R2:=fun x y H Q=>∃ a b xs ys,x=.ref a/\y=.ref b/\SqT K H a xs/\SqT K H b ys/\xs.length+ys.length<=sizeLine /\
 (xs=[]->Q (.ref b) H)/\(ys=[]->Q (.ref a) H)/\∀ p,H p=none->Q (.ref p) (upd H p (.tup (xs++ys)))
theorem JQ:OpR X (binaryOp .Add) (jeC X.K):=by
 intro pins s σ H x y v u Q I rx ry h;obtain⟨a,b,xs,ys,rfl,rfl,ha,hb,hz,q0,q1,q2⟩:=h;by_cases hx:xs=[]
 ·cases rx;cases ry;obtain⟨its,r1,p1,_⟩:=I.tuple ha;obtain⟨its2,r2,p2,_⟩:=I.tuple hb;exact HT.cat_tup0 p1 p2 (r1.nil_iff.mpr hx) ⟨.ref b,H,I,rfl,q0 hx⟩
 ·exact jfc pins s σ H (.ref a) (.ref b) v u Q I rx ry ⟨a,b,xs,ys,rfl,rfl,ha,hb,hx,hz,q1,fun _=>q2⟩
def jfG (K:W.Frag):V->Option Int->Option Int->Hp->VK->Prop:=fun x lo hi H Q=>∃ a xs,x=.ref a/\SqT K H a xs /\
 ((HT.sIx xs.length 0 lo=0/\HT.sIx xs.length xs.length hi=xs.length)->Q (.ref a) H)/\∀ p,H p=none->Q (.ref p) (upd H p (.tup (jdh xs lo hi)))
theorem Qd:SlR X (jfG X.K):=by
 intro pins s σ H x v vl vu lo hi sl Q I rx hs pl pu h;obtain⟨a,xs,rfl,hx,q0,q⟩:=h;by_cases hw:HT.sIx xs.length 0 lo=0/\HT.sIx xs.length xs.length hi=xs.length
 ·cases rx;obtain⟨its,r,ht,hz⟩:=I.tuple hx;have hlen:its.toArray.size=xs.length:=by rw[Xs]; exact r.length.symm
  refine⟨"tuple",_,PyProof.Rows.slot_tuple_getitem.lookup,ht.typeIs,?_⟩;exact HT.getItem_tuple_whole ht hs pl pu (by rw[hlen]; exact hw) ⟨.ref a,H,I,rfl,q0 hw⟩
 ·exact jgC pins s σ H (.ref a) v vl vu lo hi sl Q I rx hs pl pu ⟨a,xs,rfl,hx,hw,q⟩
end
end L2
namespace L3
open PySem PySem.Spec L2
section
variable {F:Hp}{t te:TE}{c:Cd α}{rs:Rs γ}{i:Int}
theorem WQ:Op2 K (jeC K) (pF (cT c)) (pF (cT c)) (rF (cT c)) Vi:=by
 intro F H l m x y s hx hy z hz Q k;obtain⟨a,xs,rfl,h1,h2⟩:=hx;obtain⟨b,ys,rfl,h3,h4⟩:=hy;unfold Vi at hz;obtain⟨hc,rfl⟩:=kX hz;rw[h2.length,h4.length] at hc;refine⟨a,b,xs,ys,rfl,rfl,SqT.of (s _ _ h1),SqT.of (s _ _ h3),by rw[XY]; exact hc,fun e=>?_,fun e=>?_,fun p hp=>Vh s (Paired.app h2 h4) k p hp⟩
 ·have el:l=[]:=List.length_eq_zero_iff.mp (by rw[h2.length,e]; rfl);subst el;exact k _ F H (Ext.refl s) ⟨b,ys,rfl,h3,h4⟩
 ·have el:m=[]:=List.length_eq_zero_iff.mp (by rw[h4.length,e]; rfl);subst el;rw[List.append_nil] at k;exact k _ F H (Ext.refl s) ⟨a,xs,rfl,h1,h2⟩
theorem jb1 (h:HT.sIx l.length 0 lo=0/\HT.sIx l.length l.length hi=l.length):cut l lo hi=l:=by
 unfold cut;rw[h.1,h.2,List.drop_zero,Nat.sub_zero,List.take_length]
theorem jdM {mm_:Option (List α)}{ml:Option (Option Int)} (h:Ev K σ F H t (pF (cT c)).rs m) (hl:Eo K σ F H tl ml) (hh:Eo K σ F H th mh)
  (e':mm_=(m.bind fun l=>ml.bind fun i=>mh.bind fun j=>some (cut l i j))):Ev K σ F H (tSl (jfG K) t tl th) (rF (cT c)) mm_:=by
 subst e';intro F1 H1 E z hz Q k;obtain⟨l,el,hz⟩:=bind_some hz;obtain⟨i,ei,hz⟩:=bind_some hz;obtain⟨j,ej,hz⟩:=bind_some hz;cases hz;refine h F1 H1 E l el _ ?_;intro v F2 H2 E2 hv;refine hl F2 H2 (E.trans E2) i ei _ fun F3 H3 E3=>hh F3 H3 ((E.trans E2).trans E3) j ej _ fun F4 H4 E4=>?_;obtain⟨a,xs,rfl,h1,h2⟩:=(pF (cT c)).mono (E3.trans E4) hv;refine⟨a,xs,rfl,SqT.of (E4.sub _ _ h1),fun hw=>?_,fun p hp=>?_⟩
 ·rw[<- h2.length] at hw;rw[jb1 hw] at k;exact k _ F4 H4 (E2.trans (E3.trans E4)) ⟨a,xs,rfl,h1,h2⟩
 ·exact Vh (c:=c) E4.sub (Paired.cutP i j h2) (fun v F5 H5 E5 hr=>k v F5 H5 (E2.trans (E3.trans (E4.trans E5))) ((rF (cT c)).back (E2.h.trans (E3.h.trans E4.h)) hr)) p hp
theorem zb {mm_:Option (List α)}{x y:Option Int} (h:Ev K σ F H t (pF (cT c)).rs (some l)) (hl:Eo K σ F H tl (some x)) (hh:Eo K σ F H th (some y)) (e':mm_=(some (cut l x y))) :
  Ev K σ F H (tSl (jfG K) t tl th) (rF (cT c)) mm_:=jdM h hl hh e'
end
end L3
namespace L2
open PySem PySem.Spec PyProof.Rows
section
theorem jb2 {t:Addr}{k:Int}{tk:Tok}{j:Nat} 
  (ho:s.heap.get? t=some o) (hc:o.cls=.type "tuple") (hd:o.data=.seq its.toArray n) (hI:IntsAre its ns) (hj:ns[j]?=some k) (hb:∀ i a,i<j->ns[i]?=some a->a≠k)
  (q:Q (.int j s.toks) { s with toks:=s.toks+1 }):wpAny (model prog w) A (call (.builtin "tuple.index") [.ref t,.int k tk]) Q E s:=by
 refine wpAny_call_entry PySem.F.slot_tuple_index ⟨o,ho,hc⟩ PySem.F.entry_tuple_index ?_ (PySem.F.args_tuple_index_2 _ _);show wpAny _ _ (Builtin.Tuple.tupleItemsOf (.ref t) >>= _) _ _ s;have ht:IsTup s.heap t its.toArray:=⟨o,ho,hc,n,hd⟩;refine Xb (tupleItemsOf_ ht ?_);refine Xb (Xd ?_);refine Xb (Xd ?_);dsimp only;rw[Std.Legacy.Range.forIn_eq_forIn_range'];have hlen:=IntsAre.length hI;obtain⟨hjl,ejk⟩:=List.getElem?_eq_some_iff.mp hj;refine Xb (wpAny_forIn_list _ (fun rest b s'=>b=(none,())/\s'=s/\∃ i,i<=j/\rest=List.range' i (its.length-i)) _ ?turn ?fin _ _ ?h)
 case turn=>
  rintro x rest b s' ⟨rfl,rfl,i,hi,e⟩;obtain⟨m,em⟩:∃ m,its.length-i=m+1:=⟨its.length-i-1,by omega⟩;rw[em,List.range'_succ] at e;injection e with e1 e2
  subst e1; subst e2;have hx:x<its.length:=by omega
  have ei:its.toArray[x]?=some its[x]:=by rw[List.getElem?_toArray]; exact Xc hx
  obtain⟨tx,ex⟩:=IntsAre.int_at hI x its[x] (Xc hx);have hxn:x<ns.length:=by omega
  have ex2:ns.getD x 0=ns[x]:=by simp[List.getD,hxn]
  rw[ei];dsimp only;rw[ex,ex2];refine Xb ((intKind prog w).eqBool (a:=ns[x]) (b:=k) (intKind_is _ _ _ _) (intKind_is _ _ _ _) ?_);by_cases hxj:x=j
  ·subst hxj;rw[if_pos (by simp[ejk])];unfold retInt;refine Xb (Xb (wpAny_mkInt (Xd (Xd ?_))));exact Xd ⟨_,rfl,q⟩
  ·have hne:ns[x]≠k:=hb x ns[x] (by omega) (Xc hxn);rw[if_neg (by simp[hne])];refine Xd ⟨rfl,rfl,x+1,by omega,?_⟩;congr 1;omega
 case fin=>
  rintro b s' ⟨rfl,rfl,i,hi,e⟩;have:=congrArg List.length e;rw[List.length_range'] at this;simp at this;omega
 case h=>
  refine⟨rfl,rfl,0,wg _,?_⟩;simp[Std.Legacy.Range.size]
end
section
def jg3 (H:Hp) (x:V):Prop:=∃ p xs,x=.ref p/\Rd H p (.tup xs)
theorem jdN {x:V}{v:Value} (I:Inv X pins σ H s) (r:RelV x v) (ty:jg3 H x) :
  s.TypeIs v "tuple"/\∀ a,v=.ref a->∃ ob,s.heap.get? a=some ob/\ob.dict=none:=by
 obtain⟨p,xs,rfl,h⟩:=ty;cases r;obtain⟨_,its,_,o,e,c,_⟩:=h.ok I.hok;exact⟨⟨o,e,c.1⟩,fun a z=>by cases z; exact ⟨o,e,c.2⟩⟩
def tBT (r:V->List V->Hp->VK->Prop) (to:TE) (t:TA):TE:=fun σ H Q=>to σ H fun x H1=>jg3 H1 x/\t σ H1 fun xs H2=>r x xs H2 Q
variable {o:Expr}{to:TE}{t:TA}{id:String}{r:V->List V->Hp->VK->Prop}
theorem jia (slot:Slot "tuple" name id) (hty:typeOf (.builtin id)=pure (.type "method_descriptor")) (hm:MtR X id r) (ho:PE X o to) (ha:PA X (e::es) t)
  (hbase:attributeBase o name X.env (eval o X.env)=eval o X.env:=by rfl)
  (hfew:((backTo cpos (starEach (e::es) X.env)).all (fun x=>!x.1)&&(backToKw cpos (keywordEach [] X.env)).all (fun x=>x.1.isSome)
  &&decide ((e::es).length+([]:List Keyword).length+(if ([]:List Keyword).isEmpty then 0 else 1)<30))=true:=by rfl)
  (hline:(apos.endLine==cpos.line)=true:=by rfl) (hs:starEach (e::es) X.env=(false,eval e X.env)::starEach es X.env:=by rfl) (hplain:(backTo cpos (starEach es X.env)).any (·.1)=false:=by rfl) :
  PE X (.Call (.Attribute o name apos) (e::es) [] cpos) (tBT r to t):=by
 intro pins s σ H Q I h;refine wpAny_Call_method_late hbase hfew hline rfl (thn (ho pins s σ H _ I h) fun v s1 ⟨x,H1,I1,r1,ty,q1⟩=>?_);obtain⟨h1,h2⟩:=jdN I1 r1 ty;refine⟨"tuple",id,PySem.F.plainAttrs_tuple,slot,hty,h1,h2,?_⟩;have hA:=ha cpos pins s1 σ H1 _ I1 q1;rw[hs] at hA ⊢;refine Calls.callWith_builtin (by show (false||(backTo cpos (starEach es X.env)).any (·.1))=false; rw[hplain] <;> rfl) (Calls.evalArgs_plain ?_)
 exact thn hA fun us s2 ⟨vs,H2,I2,r2,q2⟩=>hm pins s2 σ H2 x vs v us Q I2 r1 r2 q2
def YF (K:W.Frag):V->List V->Hp->VK->Prop:=fun x vs H Q=>∃ (l:Addr) (ns:List Int) (k:Int) (j:Nat),x=.ref l/\vs=[.int k]/\SqT K H l (ns.map V.int)/\ns[j]?=some k/\(∀ i a,i<j->ns[i]?=some a->a≠k)/\Q (.int j) H
theorem jb3:MtR X "tuple.index" (YF X.K):=by
 intro pins s σ H x vs v us Q I rx rv h;obtain⟨l,ns,k,j,rfl,rfl,hH,hj,hb,q⟩:=h;cases rx;obtain⟨u,rfl,t,rfl⟩:=rv.one;obtain⟨its,r,⟨o,ho,hc,n,hd⟩,hz⟩:=I.tuple hH;exact jb2 ho hc hd (zY r) hj hb ⟨.int j,H,I.tok _,⟨_,rfl⟩,q⟩
theorem jb4 (hc:X.calm=true):Jq X (.builtin "min") (fun xs H Q=>∃ p ns,xs=[.ref p]/\SqL X.K H p (ns.map V.int)/\ns≠[]/\∀ m,m∈ns->(∀ a∈ns,m<=a)->Q (.int m) H):=by
 intro pins s σ H xs us Q I r h;obtain⟨p,ns,rfl,hq,hn,q⟩:=h;obtain⟨u,rfl,rx⟩:=Ux r;cases rx;obtain⟨its,rv,pl,hz⟩:=I.list hq;have hi:=zY rv;have hpl:=pl.isList;have hall:=hi.allInts;have hnum:=hi.numsOf;obtain⟨ys,ey⟩:=hall.items;rw[ey] at hpl;have e2:numsOf its=ys.toList.map (·.1):=by
  have:=nums_intItems ys;rw[<- ey] at this;exact this
 rw[hnum] at e2;have hsz:0<ys.size:=by
  rcases Nat.eq_zero_or_pos ys.size with z | z
  ·exact absurd (List.length_eq_zero_iff.mp (by rw[e2,Xr,wc,z])) hn
  ·exact z
 refine min_intList (I.ok.hd hc) hpl hsz fun v h' tk hv hk=>?_;obtain⟨t,rfl⟩:=intItems_at hv;obtain⟨h1,h2⟩:=argBest_lt (numAt ys) (ys.size-1);refine⟨.int _,H,I.kept (t':=tk) hk,⟨_,rfl⟩,q _ ?_ fun a ha=>?_⟩
 ·rw[numAt_eq,e2];exact PySem.getD_mem (by rw[Xr,wc]; omega)
 ·rw[e2] at ha;obtain⟨j,hj,rfl⟩:=PySem.mem_getD ha;rw[Xr,wc] at hj;rw[<- numAt_eq];exact h2 j (by omega)
theorem jb5 (hc:X.calm=true):Jq X (.builtin "max") (fun xs H Q=>∃ p ns,xs=[.ref p]/\SqL X.K H p (ns.map V.int)/\ns≠[]/\∀ m,m∈ns->(∀ a∈ns,a<=m)->Q (.int m) H):=by
 intro pins s σ H xs us Q I r h;obtain⟨p,ns,rfl,hq,hn,q⟩:=h;obtain⟨u,rfl,rx⟩:=Ux r;cases rx;obtain⟨its,rv,pl,hz⟩:=I.list hq;have hi:=zY rv;have hpl:=pl.isList;have hall:=hi.allInts;have hnum:=hi.numsOf;obtain⟨ys,ey⟩:=hall.items;rw[ey] at hpl;have e2:numsOf its=ys.toList.map (·.1):=by
  have:=nums_intItems ys;rw[<- ey] at this;exact this
 rw[hnum] at e2;have hsz:0<ys.size:=by
  rcases Nat.eq_zero_or_pos ys.size with z | z
  ·exact absurd (List.length_eq_zero_iff.mp (by rw[e2,Xr,wc,z])) hn
  ·exact z
 refine max_intList (I.ok.hd hc) hpl hsz fun v h' tk hv hk=>?_;obtain⟨t,rfl⟩:=intItems_at hv;obtain⟨h1,h2⟩:=argBest_gt (numAt ys) (ys.size-1);refine⟨.int _,H,I.kept (t':=tk) hk,⟨_,rfl⟩,q _ ?_ fun a ha=>?_⟩
 ·rw[numAt_eq,e2];exact PySem.getD_mem (by rw[Xr,wc]; omega)
 ·rw[e2] at ha;obtain⟨j,hj,rfl⟩:=PySem.mem_getD ha;rw[Xr,wc] at hj;rw[<- numAt_eq];exact h2 j (by omega)
end
end L2
namespace L3
open PySem PySem.Spec L2
section
variable {F:Hp}{t te:TE}{c:Cd α}{rs:Rs γ}{i:Int}
theorem YG {mm_:Option Int}{m:Option (List Int)}{mk:Option Int} (h:Ev K σ F H t (pF (cT cI)).rs m) (hk:Ev K σ F H ta (rF cI) mk) (e':mm_=(m.bind fun l=>mk.bind fun k=>jaf l k)):Ev K σ F H (tBT (YF K) t (ki ta yi)) (rF cI) mm_:=by
 subst e';intro F1 H1 E z e Q k;obtain⟨l,el,e⟩:=bind_some e;obtain⟨n,en,e⟩:=bind_some e;obtain⟨x,rfl,hx,hb⟩:=jbX e;refine h F1 H1 E l el _ ?_;rintro v F2 H2 E2 ⟨a,xs,rfl,h1,h2⟩;have exs:=Vm h2;subst exs;refine⟨⟨a,_,rfl,.inl (E2.sub _ _ h1)⟩,hk F2 H2 (E.trans E2) n en _ fun w F3 H3 E3 hw=>?_⟩;have ew:w=.int n:=hw;subst ew;exact⟨a,l,n,x,rfl,rfl,SqT.of (E3.h _ _ (E2.sub _ _ h1)),hx,hb,k _ F3 H3 (E2.trans E3) rfl⟩
theorem Vr {mm_:Option Int}{l:List Int}{n:Int} (h:Ev K σ F H t (pF (cT cI)).rs (some l)) (hk:Ev K σ F H ta (rF cI) (some n)) (e':mm_=jaf l n):Ev K σ F H (tBT (YF K) t (ki ta yi)) (rF cI) mm_:=YG h hk e'
def jag:List Int->Int
 | []=>0
 | [a]=>a
 | a::l=>if a<jag l then a else jag l
def jah:List Int->Int
 | []=>0
 | [a]=>a
 | a::l=>if jah l<a then a else jah l
theorem Q7:∀ {l:List Int},l≠[]->jag l∈l/\∀ a∈l,jag l<=a
 | [],h=>absurd rfl h
 | [a],_=>⟨by simp[jag],by simp[jag]⟩
 | a::b::l,_=>by
  obtain⟨h1,h2⟩:=Q7 (l:=b::l) (by simp);show (if a<jag (b::l) then a else jag (b::l))∈_/\∀ x∈_,(if a<jag (b::l) then a else jag (b::l))<=x;split
  ·refine⟨Xg,fun x hx=>?_⟩;rcases List.mem_cons.mp hx with rfl | hx
   ·exact Int.le_refl _
   ·have:=h2 x hx; omega
  ·refine⟨Xe _ h1,fun x hx=>?_⟩;rcases List.mem_cons.mp hx with rfl | hx
   ·omega
   ·exact h2 x hx
theorem Q8:∀ {l:List Int},l≠[]->jah l∈l/\∀ a∈l,a<=jah l
 | [],h=>absurd rfl h
 | [a],_=>⟨by simp[jah],by simp[jah]⟩
 | a::b::l,_=>by
  obtain⟨h1,h2⟩:=Q8 (l:=b::l) (by simp);show (if jah (b::l)<a then a else jah (b::l))∈_/\∀ x∈_,x<=(if jah (b::l)<a then a else jah (b::l));split
  ·refine⟨Xg,fun x hx=>?_⟩;rcases List.mem_cons.mp hx with rfl | hx
   ·exact Int.le_refl _
   ·have:=h2 x hx; omega
  ·refine⟨Xe _ h1,fun x hx=>?_⟩;rcases List.mem_cons.mp hx with rfl | hx
   ·omega
   ·exact h2 x hx
@[irreducible] def jb6 (l:List Int):Option Int:=if l=[] then none else some (jag l)
@[irreducible] def jb7 (l:List Int):Option Int:=if l=[] then none else some (jah l)
theorem jg4:Op1 K (fun x H Q=>∃ p ns,[x]=[V.ref p]/\SqL K H p (ns.map V.int)/\ns≠[]/\∀ m,m∈ns->(∀ a∈ns,m<=a)->Q (.int m) H) (pR cI) (rF cI) (fun l=>jb6 l):=by
 intro F H l x s hx z hz Q k;obtain⟨p,xs,rfl,h1,h2⟩:=hx;unfold jb6 at hz;dsimp only at hz;by_cases hl:l=[]
 ·rw[if_pos hl] at hz; cases hz
 ·rw[if_neg hl] at hz;cases hz;rw[paired_ints h2] at h1;obtain⟨g1,g2⟩:=Q7 hl;refine⟨p,l,rfl,h1,hl,fun m hm hle=>?_⟩;have e:m=jag l:=Int.le_antisymm (hle _ g1) (g2 _ hm);subst e;exact k _ F H (Ext.refl s) rfl
theorem jg5:Op1 K (fun x H Q=>∃ p ns,[x]=[V.ref p]/\SqL K H p (ns.map V.int)/\ns≠[]/\∀ m,m∈ns->(∀ a∈ns,a<=m)->Q (.int m) H) (pR cI) (rF cI) (fun l=>jb7 l):=by
 intro F H l x s hx z hz Q k;obtain⟨p,xs,rfl,h1,h2⟩:=hx;unfold jb7 at hz;dsimp only at hz;by_cases hl:l=[]
 ·rw[if_pos hl] at hz; cases hz
 ·rw[if_neg hl] at hz;cases hz;rw[paired_ints h2] at h1;obtain⟨g1,g2⟩:=Q8 hl;refine⟨p,l,rfl,h1,hl,fun m hm hle=>?_⟩;have e:m=jah l:=Int.le_antisymm (g2 _ hm) (hle _ g1);subst e;exact k _ F H (Ext.refl s) rfl
end
end L3
namespace L2
open PySem PySem.Spec PyProof.Rows
def jiW:Value->Bool
 | .ref _=>true
 | _=>false
def jg6:List Value:=[.type "ValueError",.type "Exception",.type "BaseException",.type "object"]
def jb8 (l:List Value):Bool:=l.dropWhile jiW==jg6
structure XCls (K:W.Frag) (C:Addr):Prop where
 over:(W.clsIn K C).any (fun cd=>jb8 cd.mro)=true
 hd:W.hasDictIn K C=true
 sa:W.findIn K (.ref C) "__setattr__"=some (some (.builtin "object.__setattr__"))
open PySem.W in
def jdO (K:Frag) (C:Addr) (fo:Option Addr):Bool:=match K.lookup C with
 | some ⟨.type "type",_,.cls cd,sl⟩=>(match cd.mro,sl.toList with
  | .ref C'::bm,[_,_,_,_,some (.builtin n),_]=>C'==C&&n=="ValueError.__new__"&&!cd.hasDel&&tailIn K jg6 bm&&nsOkIn K cd.ns&&nsIn K cd.ns "__init__"==some (fo.map .ref)
  | _,_=>false)
 | _=>false
def jib (K:W.Frag) (C CT:Addr):Bool:=(W.clsIn K C).any fun cd=>cd.mro.contains (.ref CT)
structure XGet (K:W.Frag) (C:Addr):Prop where
 over:(W.clsIn K C).any (fun cd=>jb8 cd.mro)=true
 hd:W.hasDictIn K C=true
 ga:W.findIn K (.ref C) "__getattribute__"=some (some (.builtin "BaseException.__getattribute__"))
 hk:W.findIn K (.ref C) "__getattr__"=some none
structure XIs (K:W.Frag) (C:Addr):Prop extends XGet K C where
 ha:W.findIn K (.ref C) "__class__"=some (some (.builtin "object.__class__"))
 hn:W.specialIn K (.builtin "object.__class__") "__get__"=some (some (.builtin "getset_descriptor.__get__"))
 htk:W.takesIn K (.builtin "object.__class__")=some true
 hm:W.mroIn K C (.type "object")=some true
end L2
namespace L3
open PySem PySem.Spec L2
structure Er where
 c:Nat
 vs:List Int
 deriving DecidableEq,Repr
abbrev Ecs:=List (Addr×List Str)
def jiJ (K:W.Frag) (CT:Addr) (cs:Ecs):Prop:=∀ (i:Nat) (C:Addr) (ns:List Str),cs[i]?=some (C,ns)->∃ fo,jdO K C fo=true/\jib K C CT=true
end L3
namespace L2
open PySem PySem.Spec PyProof.Rows
theorem Q9 (a b:Int):Builtin.Range.rangeSize a b (-1)=if b<a then a-b else 0:=by
 unfold Builtin.Range.rangeSize;rw[if_neg (by decide),Int.neg_neg,Int.ediv_one];by_cases h:b<a
 ·rw[if_pos h,if_pos h]; omega
 ·rw[if_neg h,if_neg h]
theorem jfH {a b:Int} (ha:-(2 ^ 62)<=a) (ha':a<2 ^ 62) (hb:-(2 ^ 62)<=b) (hb':b<2 ^ 62):Builtin.Range.small a b (-1)=true:=by
 unfold Builtin.Range.small;rw[Q9];simp only[Builtin.Range.rangeFitsLong,XF,wp,Xu,beq_iff_eq,show ((-1:Int) > 0)=False by simp,if_false];split <;> omega
def Itd (hi:Int) (n:Nat):It:=⟨fun i _=>i<n,fun i H x H'=>H'=H/\x=.int (hi-i),fun i _=>n<=i⟩
theorem YH {P:Program} (it:Addr) (hi:Int) (n:Nat):Turn P w K tg (Itd hi n) [it] it (fun i h=>IsRangeIter h it (hi+(i:Nat) * (-1)) ((n:Int)-(i:Nat)) (-1)) where
 mem:=by simp
 obj:=fun i h st b hb=>by
  have e:b=it:=by simpa using hb
  subst e;exact⟨_,st,fun v z=>by
   have z':Data.fields _=Data.cell v:=z;cases z'⟩
 keep:=fun i h h' st k=>k it (by simp) _ st
 item:=by
  intro X hP hw hK hc i pins s σ H E I hf st hg;subst hP hw hK;obtain⟨f0,f1,f2,f3,f4,f5⟩:=hf it (by simp);have W:=Walks.range (prog:=X.prog) (w:=X.w) (I.ok.hd hc) it hi (-1) n;refine W.item i s _ _ hg st fun v h' tk hv st' kk=>?_;obtain⟨t,rfl⟩:=hv;have I1:Inv X pins σ H { s with heap:=h',toks:=tk }:=I.turned (fun b o hb e=>kk b o (by simpa using hb) e) f0 f1 f3 f4 f5
  refine⟨_,rfl,jc7 (s:={ s with heap:=h',toks:=tk }) (n:="range_iterator") st' rfl rfl (by decide) ⟨.int (hi-i),H,I1,⟨t,?_⟩,⟨rfl,rfl⟩,st',fun b hb=>(hf b hb).1⟩⟩
  rw[show hi+(i:Int) * (-1)=hi-i by omega]
 done:=by
  intro X hP hw hK hc i pins s σ H E I hf st hg;subst hP hw hK;obtain⟨f0,f1,f2,f3,f4,f5⟩:=hf it (by simp);exact wpAny_pyNext_range_end (I.ok.hd hc) st (by have:n<=i:=hg; omega) fun h' eb=>⟨rfl,I.turned (t':=s.toks) (fun b o hb e=>eb b o hb e) f0 f1 f3 f4 f5⟩
 self:=fun _ _ _ _ _ st h=>wpAny_pyIter_rangeiter st h
section
theorem jb9 {R:It->Hp->Prop}{hi lo:Int}{t u v:Tok}{tk:Nat} (I:Inv X pins σ H s) (h1:-(2 ^ 62)<=hi) (h2:hi<2 ^ 62) (h3:-(2 ^ 62)<=lo) (h4:lo<2 ^ 62)
  (q:R (Itd hi (hi-lo).toNat) H):wpAny (model X.prog X.w) X.A (pyIter (.ref s.heap.objs.size)) (PIE X pins σ tg R) E { s with heap:=s.heap.push { cls:=.type "range",data:=.fields #[.int hi t,.int lo u,.int (-1) v] },toks:=tk }:=by
 refine wpAny_pyIter_range (IsRange.new ..) (jfH h1 h2 h3 h4) ?_;have I1:Inv X pins σ H { s with heap:=s.heap.push { cls:=.type "range",data:=.fields #[.int hi t,.int lo u,.int (-1) v] },toks:=tk }:=I.kept fun b o e=>Xh _ e
 refine⟨(s.heap.push { cls:=.type "range",data:=.fields #[.int hi t,.int lo u,.int (-1) v] }).objs.size,[(s.heap.push { cls:=.type "range",data:=.fields #[.int hi t,.int lo u,.int (-1) v] }).objs.size],_,_,H,rfl,
  I1.kept (t':=tk) fun b o e=>Xh _ e,YH _ hi (hi-lo).toNat,?_,fun b hb=>?_,q⟩
 ·have e1:hi+((0:Nat):Int) * (-1)=hi:=by simp
  have e2:(((hi-lo).toNat:Nat):Int)-((0:Nat):Int)=Builtin.Range.rangeSize hi lo (-1):=by rw[Q9]; split <;> omega
  show IsRangeIter _ _ (hi+((0:Nat):Int) * (-1)) ((((hi-lo).toNat:Nat):Int)-((0:Nat):Int)) (-1);rw[e1,e2];exact XD _ rfl
 ·have e:b=(s.heap.push { cls:=.type "range",data:=.fields #[.int hi t,.int lo u,.int (-1) v] }).objs.size:=by simpa using hb
  subst e;exact I1.fpOk (Xm _) (I1.hok.fresh (Xm _))
def jfI (ta:TA):TI:=fun σ H R=>ta σ H fun vs H1=>∃ i j:Int,vs=[.int i,.int j,.int (-1)]/\(-(2 ^ 62)<=i/\i<2 ^ 62/\-(2 ^ 62)<=j/\j<2 ^ 62)/\R (Itd i (i-j).toNat) H1
theorem jb_ {a b c:Expr}{ta:TA}{p:Pos} (hg:Gl X "range") (hm:X.mg "range"=none) (ha:PA X [a,b,c] ta) (hs:starEach [a,b,c] X.env=[(false,eval a X.env),(false,eval b X.env),(false,eval c X.env)]:=by rfl) (hs2:starEach [b,c] X.env=[(false,eval b X.env),(false,eval c X.env)]:=by rfl) :
  PI X tg (.Call (.Name "range" p) [a,b,c] [] pos) (jfI ta):=by
 intro pins s σ H R I h;refine Call_ (QK I hg hm boot_range (PyProof.Rows.callWith_type1 (thn (ha pos pins s σ H _ I h) fun us s1 ⟨vs,H1,I1,r1,q1⟩=>?_) (by rw[hs,hs2]) (by rw[hs2]; rfl)));obtain⟨i,j,e,⟨q1,q2,q3,q4⟩,q⟩:=q1;subst e;cases r1 with
 | cons r rr=>
  cases rr with
  | cons r' rr=>
   cases rr with
   | cons r'' rr=>
    cases rr;obtain⟨t,rfl⟩:=r;obtain⟨t',rfl⟩:=r';obtain⟨t'',rfl⟩:=r'';exact call_range_3 (by decide) (jb9 I1 q1 q2 q3 q4 q) (Or.inl (PyProof.noPylong_small (by decide)))
def UU (hi lo:Int):List Int:=(List.range (hi-lo).toNat).map fun k=>hi-((k:Nat):Int)
end
end L2
namespace L3
open PySem PySem.Spec L2
section
variable {F:Hp}{t te:TE}{c:Cd α}{rs:Rs γ} 
@[irreducible] def YI (hi lo:Int):Option (List Int):=if -(2 ^ 62)<=hi/\hi<2 ^ 62/\-(2 ^ 62)<=lo/\lo<2 ^ 62 then some (UU hi lo) else none
theorem UV (hi lo:Int):(UU hi lo).length=(hi-lo).toNat:=by simp[UU]
theorem jfJ {hi lo:Int} (h:∀ F H,G F H->Same F H):ItOk K (Itd hi (hi-lo).toNat) cI (UU hi lo) G where
 go:=fun i F H g hi'=>by rw[UV] at hi'; exact hi'
 yld:=fun i F H x H' g y b hb=>by
  obtain⟨e,y⟩:=y;subst e y;refine⟨F,Ext.refl (h F _ g),?_⟩;unfold UU at hb;rw[XG] at hb;cases q:(List.range (hi-lo).toNat)[i]? with
  | none=>rw[q] at hb; cases hb
  | some j=>
   rw[q] at hb;have hij:j=i:=by
    obtain⟨h1,h2⟩:=List.getElem?_eq_some_iff.mp q;simpa using h2.symm
   subst hij;cases hb;rfl
 stop:=fun F H g=>by rw[UV]; exact Xm _
theorem jca {m:Option Int}{mm_:Option (List Int)} (h:Ev K σ F H t (rF cI) m) (h':Ev K σ F H ta (rF cI) m') (h'':Ev K σ F H tb (rF cI) (some (-1))) (e':mm_=(m.bind fun i=>m'.bind fun j=>YI i j)) :
  Ei K σ F H Fe He (jfI (ki t (ki ta (ki tb yi)))) cI mm_:=by
 subst e';intro X l e R k;obtain⟨i,ei,e⟩:=bind_some e;obtain⟨j,ej,e⟩:=bind_some e;unfold YI at e;obtain⟨⟨h1,h2,h3,h4⟩,rfl⟩:=kX e;refine h F H (Ext.refl X.sub) i ei _ fun v F2 H2 E hv=>h' F2 H2 E j ej _ fun v' F3 H3 E3 hv'=>h'' F3 H3 (E.trans E3) (-1) rfl _ fun v'' F4 H4 E4 hv''=>?_;have ev:v=.int i:=hv;have ev':v'=.int j:=hv';have ev'':v''=.int (-1):=hv'';subst ev ev' ev'';exact⟨i,j,rfl,⟨h1,h2,h3,h4⟩,k (Itd i (i-j).toNat) F4 H4 (E.trans (E3.trans E4)) (jfJ fun F' H' g=>g.1.sub)⟩
theorem YJ {i:Int}{mm_:Option (List Int)} (h:Ev K σ F H t (rF cI) (some i)) (h':Ev K σ F H ta (rF cI) (some j)) (h'':Ev K σ F H tb (rF cI) (some (-1))) (e':mm_=YI i j) :
  Ei K σ F H Fe He (jfI (ki t (ki ta (ki tb yi)))) cI mm_:=jca h h' h'' e'
end
end L3
namespace L2
open PySem PySem.Spec PyProof.Rows
section
variable [DecidableEq κ]
def Ju (kvs:List (κ×V)) (k:κ):Option V:=(kvs.find? fun kv=>decide (kv.1=k)).map (·.2)
def Yh (kvs:List (κ×V)) (k:κ) (v:V):List (κ×V):=
 if (kvs.any fun kv=>decide (kv.1=k))=true then kvs.map (fun kv=>if kv.1=k then (kv.1,v) else kv) else kvs++[(k,v)]
theorem JR {p:κ×V}{r:List (κ×V)}{k:κ} (e:p.1=k):Ju (p::r) k=some p.2:=by simp[Ju,wo,e]
theorem JS {p:κ×V}{r:List (κ×V)}{k:κ} (e:¬ p.1=k):Ju (p::r) k=Ju r k:=by simp[Ju,wo,e]
theorem Zr (k:κ):∀ kvs:List (κ×V),(kvs.any fun kv=>decide (kv.1=k))=(Ju kvs k).isSome
 | []=>rfl
 | p::r=>by
  rw[List.any_cons];by_cases e:p.1=k
  ·simp only[JR e,Xl e,Bool.true_or,Option.isSome_some]
  ·rw[JS e,Xf e,Bool.false_or]; exact Zr k r
theorem Q_ (kvs:List (κ×V)) (k:κ) (v:V):(Yh kvs k v).length<=kvs.length+1:=by
 unfold Yh;split
 ·rw[Xr]; omega
 ·rw[Xt,Xv,List.length_nil]; omega
theorem RelO.isSome_eq {o:Option V}{u:Option Value} (r:RelO o u):o.isSome=u.isSome:=by
 cases o with
 | none=>cases u with
  | none=>rfl
  | some _=>exact (show False from r).elim
 | some _=>cases u with
  | none=>exact (show False from r).elim
  | some _=>rfl
theorem RelO.getD {o:Option V}{u:Option Value}{d:V}{d':Value} (r:RelO o u) (rd:RelV d d'):RelV (o.getD d) (u.getD d'):=by
 cases o with
 | none=>cases u with
  | none=>exact rd
  | some _=>exact (show False from r).elim
 | some _=>cases u with
  | none=>exact (show False from r).elim
  | some _=>exact r
theorem KV.val {kvs:List (κ×V)}{vs:List (κ×Value)} (r:KV kvs vs) (k:κ):RelO (Ju kvs k) (valueAt vs k):=by
 unfold KV at r
 induction r with
 | nil=>exact True.intro
 | @cons p q ps qs h t ih=>
  obtain⟨h1,h2⟩:=h;by_cases e:p.1=k
  ·have e':q.1=k:=h1.symm.trans e;have b:valueAt (q::qs) k=some q.2:=by simp[valueAt,wo,e']
   rw[JR e,b]; exact h2
  ·have e':¬ q.1=k:=fun z=>e (h1.trans z);have b:valueAt (q::qs) k=valueAt qs k:=by simp[valueAt,wo,e']
   rw[JS e,b]; exact ih
theorem KV.any {kvs:List (κ×V)}{vs:List (κ×Value)} (r:KV kvs vs) (k:κ):(kvs.any fun kv=>decide (kv.1=k))=vs.any fun kv=>decide (kv.1=k):=by
 unfold KV at r
 induction r with
 | nil=>rfl
 | cons h t ih=>rw[List.any_cons,List.any_cons,ih,h.1]
theorem KV.repl {kvs:List (κ×V)}{vs:List (κ×Value)} (r:KV kvs vs) (k:κ) {y:V} (ry:RelV y u) :
  KV (kvs.map fun kv=>if kv.1=k then (kv.1,y) else kv) (vs.map fun kv=>if kv.1=k then (kv.1,u) else kv):=by
 unfold KV at r ⊢
 induction r with
 | nil=>exact .nil
 | @cons p q ps qs h t ih=>
  rw[XR,XR];refine .cons ?_ ih;obtain⟨h1,h2⟩:=h;by_cases e:p.1=k
  ·rw[if_pos e,if_pos (h1.symm.trans e)]; exact ⟨h1,ry⟩
  ·rw[if_neg e,if_neg (fun z=>e (h1.trans z))]; exact ⟨h1,h2⟩
theorem KV.put {kvs:List (κ×V)}{vs:List (κ×Value)} (r:KV kvs vs) (k:κ) {y:V} (ry:RelV y u):KV (Yh kvs k y) (stored vs k u):=by
 unfold Yh stored;rw[r.any k];by_cases e:(vs.any fun kv=>decide (kv.1=k))=true
 ·rw[if_pos e,if_pos e]; exact r.repl k ry
 ·rw[if_neg e,if_neg e]; exact Paired.snoc r ⟨rfl,ry⟩
theorem KV.length {kvs:List (κ×V)}{vs:List (κ×Value)} (r:KV kvs vs):kvs.length=vs.length:=Paired.length r
end
theorem jcb {P:Program}{k:Key} (r:RelV (kV k) u):(yL P w).is k u=true:=by
 cases k with
 | inl i=>obtain⟨t,e⟩:=(show ∃ t,u=Value.int i t from r); subst e; exact Yi P w i t
 | inr x=>obtain⟨t,e⟩:=(show ∃ t,u=Value.str x t from r); subst e; exact Yj P w x t
theorem WR {P:Program} :∀ {ks:List Key}{us:List Value},Vals (ks.map kV) us->ItemsAre (yL P w) ks us
 | [],_,r=>by rw[List.map_nil] at r; cases r; exact .nil
 | k::ks,_,r=>by
  rw[XR] at r;cases r with
  | cons h t=>exact .cons (jcb h) (WR t)
abbrev KT (fl:Bool) (H:Hp):List (List Key×V)->List (List Key×Addr×Value)->Prop:=Paired fun p q=>p.1=q.1/\TupK fl H p.1 q.2.1/\RelV p.2 q.2.2
theorem KT.val {xs:List (List Key×Addr×Value)} (r:KT fl H kvs xs) (k:List Key):RelO (Ju kvs k) ((atKey xs k).map (·.2)):=by
 induction r with
 | nil=>exact True.intro
 | @cons p q ps qs h t ih=>
  obtain⟨h1,_,h2⟩:=h;by_cases e:p.1=k
  ·have e':q.1=k:=h1.symm.trans e;have b:atKey (q::qs) k=some q.2:=by simp[atKey,wo,e']
   rw[JR e,b]; exact h2
  ·have e':¬ q.1=k:=fun z=>e (h1.trans z);have b:atKey (q::qs) k=atKey qs k:=by simp[atKey,wo,e']
   rw[JS e,b]; exact ih
theorem KT.repl {xs:List (List Key×Addr×Value)} (r:KT fl H kvs xs) (k:List Key) {y:V} (ry:RelV y u) :
  KT fl H (kvs.map fun kv=>if kv.1=k then (kv.1,y) else kv) (xs.map (putAt k u)):=by
 induction r with
 | nil=>exact .nil
 | @cons p q ps qs h t ih=>
  rw[XR,XR];refine .cons ?_ ih;obtain⟨h1,h2,h3⟩:=h;unfold putAt;by_cases e:p.1=k
  ·rw[if_pos e,if_pos (h1.symm.trans e)]; exact ⟨h1,h2,ry⟩
  ·rw[if_neg e,if_neg (fun z=>e (h1.trans z))]; exact ⟨h1,h2,h3⟩
theorem KT.put {xs:List (List Key×Addr×Value)} (r:KT fl H kvs xs) (k:List Key) {b:Addr}{y:V} (hb:TupK fl H k b) (ry:RelV y u) :
  KT fl H (Yh kvs k y) (storedH xs k b u):=by
 have e:(kvs.any fun kv=>decide (kv.1=k))=(atKey xs k).isSome:=by
  rw[Zr,(r.val k).isSome_eq,Option.isSome_map]
 unfold Yh storedH;rw[e];by_cases q:(atKey xs k).isSome=true
 ·rw[if_pos q,if_pos q]; exact r.repl k ry
 ·rw[if_neg q,if_neg q]; exact Paired.snoc r ⟨rfl,hb,ry⟩
theorem KT.keeps {xs:List (List Key×Addr×Value)} (r:KT fl H kvs xs) (ht:∀ b ys,H b=some (.tup ys)->H' b=some (.tup ys)):KT fl H' kvs xs:=
 Paired.mapP r fun _ _ z=>⟨z.1,z.2.1.mono ht,z.2.2⟩
section
variable {P:Program} 
theorem jg7 {u:HO} (ok:HOk P w H h) (e:Rd H a u):ObjOk P w H h a u:=e.ok ok
theorem jai {kvs:List (Key×V)} (ok:HOk P w H h) (e:Rd H a (.dK kvs)):kvs.length<=sizeLine/\(a==sysModules)=false/\∃ vs,KV kvs vs/\h.DictOf (yL P w) a vs:=
 show ObjOk P w H h a (.dK kvs) from jg7 ok e
theorem jic {kvs:List (Key×V)} (ok:HOk P w H h) (e:H a=some (.dK kvs)):kvs.length<=sizeLine/\(a==sysModules)=false/\∃ vs,KV kvs vs/\h.DictOf (yL P w) a vs:=jai ok (.inl e)
theorem jcc (ok:HOk P w H h) (e:H a=some (.tup (ks.map kV))):(tupleKind (yL P w)).is h ks a:=by
 obtain⟨_,its,r,o,h1,h2,n,h3⟩:=(show ObjOk P w H h a (.tup (ks.map kV)) from ok a _ e);exact⟨o,its.toArray,n,h1,h2.1,h3,by simpa using WR r⟩
theorem Zs (ok:HOk P w H h) (e:TupK fl H ks a):(kdT fl P w).is h ks a:=by
 cases fl with
 | false=>exact jcc ok e
 | true=>
  obtain⟨k,r,t,rfl,e1,e2⟩:=e;obtain⟨_,its,q,o,h1,h2,n,h3⟩:=(show ObjOk P w H h a (.tup [.ref t,kV k]) from ok a _ e1);cases q with
  | cons q1 q=>
   cases q with
   | cons q2 q=>
    cases q;cases (show _=Value.ref t from q1);exact⟨k,r,t,_,o,n,rfl,h1,h2.1,h3,jcc ok e2,jcb q2⟩
theorem Vs (hu:A.units+2<cLine):(kdT fl P w).room A.in1:=by
 cases fl with
 | false=>exact (show A.units+1<cLine by omega)
 | true=>exact (show A.units+1+1<cLine by omega)
theorem jdP (ok:HOk P w H h) (e:Rd H a (.dT fl kvs)):kvs.length<=sizeLine/\(a==sysModules)=false /\
  ∃ xs,KT fl H kvs xs/\h.DictOfH (kdT fl P w) a xs:=by
 obtain⟨z,y,xs,r,o,es,ep,h1,h2,h3,h4,h5⟩:=(show ObjOk P w H h a (.dT fl kvs) from jg7 ok e);refine⟨z,y,xs,r,o,es,ep,h1,h2,h3,h4,fun x hx=>?_,h5⟩;have all:∀ {l:List (List Key×V)}{m:List (List Key×Addr×Value)},KT fl H l m->∀ x∈m,(kdT fl P w).is h x.1 x.2.1:=by
  intro l m q
  induction q with
  | nil=>intro x hx; exact nomatch hx
  | @cons p q ps qs hq t ih=>
   intro x hx;rcases List.mem_cons.mp hx with e | hx
   ·subst e;exact Zs ok (by rw[<- hq.1]; exact hq.2.1)
   ·exact ih x hx
 exact all r x hx
theorem jid (ok:HOk P w H h) (e:H a=some (.dT fl kvs)):kvs.length<=sizeLine/\(a==sysModules)=false /\
  ∃ xs,KT fl H kvs xs/\h.DictOfH (kdT fl P w) a xs:=jdP ok (.inl e)
end
def DGet (H:Hp) (a:Addr) (y:V) (r:Option V):Prop:=
 (∃ kvs k,Rd H a (.dK kvs)/\y=kV k/\r=Ju kvs k) \/ ∃ fl kvs k b,Rd H a (.dT fl kvs)/\y=.ref b/\TupK fl H k b/\r=Ju kvs k
def DPut (H:Hp) (a:Addr) (y v:V) (H':Hp):Prop:=
 (∃ kvs k,H a=some (.dK kvs)/\y=kV k/\kvs.length<sizeLine/\H'=upd H a (.dK (Yh kvs k v))) \/
 ∃ fl kvs k b,H a=some (.dT fl kvs)/\y=.ref b/\TupK fl H k b/\kvs.length<sizeLine/\H'=upd H a (.dT fl (Yh kvs k v))
theorem DGet.k {kvs:List (Key×V)}{k:Key} (e:H a=some (.dK kvs)):DGet H a (kV k) (Ju kvs k):=.inl ⟨kvs,k,.inl e,rfl,rfl⟩
theorem DGet.t {b:Addr}{k:List Key} (e:H a=some (.dT fl kvs)) (eb:TupK fl H k b):DGet H a (.ref b) (Ju kvs k):=.inr ⟨_,kvs,k,b,.inl e,rfl,eb,rfl⟩
theorem DPut.k {kvs:List (Key×V)}{k:Key} (e:H a=some (.dK kvs)) (hl:kvs.length<sizeLine):DPut H a (kV k) v (upd H a (.dK (Yh kvs k v))):=.inl ⟨kvs,k,e,rfl,hl,rfl⟩
theorem DPut.t {b:Addr}{k:List Key} (e:H a=some (.dT fl kvs)) (eb:TupK fl H k b) (hl:kvs.length<sizeLine) :
  DPut H a (.ref b) v (upd H a (.dT fl (Yh kvs k v))):=.inr ⟨_,kvs,k,b,e,rfl,eb,hl,rfl⟩
section
variable {y:V}{r:Value}{o:Option V} 
theorem Inv.big (I:Inv X pins σ H s):sysModules<s.heap.objs.size:=by
 have h:mainGlobals<s.heap.objs.size:=(I.mod.glob.keeps I.bk).lt;exact Nat.lt_trans (by decide) h
theorem jfK (hu:A.units+2<cLine) (I:Inv X pins σ H s) (g:DGet H a y o) (ry:RelV y u) (h:∀ s',Inv X pins σ H s'->Q (.bool (!o.isSome)) s') :
  wpAny (model X.prog X.w) A (compareOp .NotIn u (.ref a)) Q E s:=by
 rcases g with⟨kvs,k,e,ey,l⟩ | ⟨fl,kvs,k,b,e,ey,eb,l⟩
 ·subst ey;obtain⟨z,hd,vs,rel,dd⟩:=jai I.hok e;refine wpAny_notIn_of (jcb ry) hd dd.mapOf ?_;rw[<- (rel.val k).isSome_eq,<- l];exact h _ (I.tok _)
 ·subst ey;cases (show u=Value.ref b from ry);obtain⟨z,hd,xs,rel,dd⟩:=jdP I.hok e;refine wpAny_notIn_heap (Vs hu) (Zs I.hok eb) hd dd ?_;have q:=(rel.val k).isSome_eq;rw[Option.isSome_map] at q;rw[<- q,<- l];exact h _ (I.tok _)
theorem jcd {ob:HO} (I:Inv X pins σ H s) (mu:Mut (H a)) (hs:Heap.SameBut a s.heap h') (he:∃ q,h'.get? a=some q) (new:ObjOk X.prog X.w (upd H a ob) h' a ob) :
  Inv X pins σ (upd H a ob) { s with heap:=h',toks:=t' }:=
 I.write (x:=a) (e:=a) mu (.inl rfl) (fun b q hb z=>(hs.2 b hb).trans z) he new
theorem jg8 {P:Program}{kvs:List (Key×V)}{vs:List (Key×Value)} (z:kvs.length<=sizeLine) (hd:(a==sysModules)=false) (rel:KV kvs vs) (dd:h'.DictOf (yL P w) a vs) :
  ObjOk P w H' h' a (.dK kvs):=⟨z,hd,vs,rel,dd⟩
theorem jce {Q:Unit->Shared->Prop} (hu:A.units+2<cLine) (I:Inv X pins σ H s) (g:DPut H a y v H') (ry:RelV y u) (rv:RelV v r) (h:∀ s',Inv X pins σ H' s'->Q () s') :
  wpAny (model X.prog X.w) A (setItem (.ref a) u r) Q E s:=by
 rcases g with⟨kvs,k,e,ey,l,eH⟩ | ⟨fl,kvs,k,b,e,ey,eb,l,eH⟩
 ·subst ey eH;obtain⟨z,hd,vs,rel,dd⟩:=jic I.hok e;have hz:vs.length<=sizeLine:=by rw[<- rel.length]; exact z
  have hl:(Yh kvs k v).length<=sizeLine:=by have:=Q_ kvs k v; omega
  refine wpAny_setItem_pairs (hsz:=hz) (jcb ry) dd fun h' dd' hs=>h _ ?_;have he:∃ q,h'.get? a=some q:=let ⟨q,_,_,hq,_⟩:=dd'; ⟨q,hq⟩;exact jcd I (by rw[e]; exact True.intro) hs he (jg8 hl hd (rel.put k rv) dd')
 ·subst ey eH;cases (show u=Value.ref b from ry);obtain⟨z,hd,xs,rel,dd⟩:=jid I.hok e;have hz:xs.length<=sizeLine:=by rw[<- Paired.length rel]; exact z
  have hl:(Yh kvs k v).length<=sizeLine:=by have:=Q_ kvs k v; omega
  refine wpAny_setItem_heap (hsz:=hz) (Vs hu) (Zs I.hok eb) dd fun h' dd' hs=>h _ ?_;obtain⟨q,es,ep,hq,h2,h3,h4,_,h5⟩:=dd';refine jcd I (by rw[e]; exact True.intro) hs ⟨q,hq⟩ ⟨hl,hd,_,(rel.put k eb rv).keeps fun c ys ec=>?_,q,es,ep,hq,h2,h3,h4,h5⟩;rw[qp (jhW ec e (fun z=>nomatch z))];exact ec
end
def Ua (ty td:TE):TE:=fun σ H Q=>ty σ H fun y H1=>td σ H1 fun x H2=>∃ a o,x=.ref a/\DGet H2 a y o/\Q (.bl (!o.isSome)) H2
def jfL (td ty tv:TE):TS:=fun D σ H=>tv σ H fun v H1=>td σ H1 fun x H2=>ty σ H2 fun y H3=>∃ a H4,x=.ref a/\DPut H3 a y v H4/\D.nx σ H4
section
variable {o i value:Expr}{tpos:Pos} 
theorem WS (hu:X.A.units+2<cLine) (hi:PE X i ty) (ho:PE X o td):PC X .NotIn i o (Ua ty td):=by
 intro pins s σ H Q I h;refine thn (hi pins s σ H _ I h) fun iv s1 ⟨y,H1,I1,ry,q1⟩=>thn (ho pins s1 σ H1 _ I1 q1) fun u s2 ⟨x,H2,I2,rx,a,ov,ex,g,q2⟩=>?_;subst ex;obtain rfl:u=Value.ref a:=rx;exact jfK hu I2 g ry fun s3 I3=>⟨.bl (!ov.isSome),H2,I3,rfl,q2⟩
theorem GJ (hu:X.A.units+2<cLine) (ho:PE X o td) (hi:PE X i ty) (hv:PE X value tv) (hs:swapsWith value (some (.Subscript o i pos')) pos.line X.env=pure false) :
  PS X (.Assign [.Subscript o i pos'] value pos) (jfL td ty tv):=by
 intro pins s σ H D I h;refine wpAny_Assign_Subscript (thn (hv pins s σ H _ I h) fun r s1 ⟨v,H1,I1,rv,q1⟩=>thn (ho pins s1 σ H1 _ I1 q1) fun u s2 ⟨x,H2,I2,rx,q2⟩=>thn (hi pins s2 σ H2 _ I2 q2) fun iv s3 ⟨y,H3,I3,ry,a,H4,ex,g,q3⟩=>?_) hs;subst ex;obtain rfl:u=Value.ref a:=rx;exact jce hu I3 g ry rv fun s4 I4=>⟨σ,H4,I4,q3⟩
end
theorem jdQ {P:Program} (h:Heap) (hb:sysModules<h.objs.size):ObjOk P w H (h.push { cls:=.type "dict",data:=.dict #[] }) h.objs.size (.dK []):=
 ⟨wg _,beq_eq_false_iff_ne.mpr (Ne.symm (X2 hb)),[],.nil,Heap.DictOf.new h⟩
theorem jdR {P:Program} (h:Heap) (hb:sysModules<h.objs.size):ObjOk P w H (h.push { cls:=.type "dict",data:=.dict #[] }) h.objs.size (.dT fl []):=
 ⟨wg _,beq_eq_false_iff_ne.mpr (Ne.symm (X2 hb)),[],.nil,_,#[],0,XD _ rfl,⟨rfl,rfl,rfl⟩,rfl,rfl,List.nodup_nil⟩
def jeD:TE:=fun _ H Q=>∀ p,H p=none->Q (.ref p) (upd H p (.dK []))
def jeE (fl:Bool):TE:=fun _ H Q=>∀ p,H p=none->Q (.ref p) (upd H p (.dT fl []))
section
theorem Gk:PE X (.Dict [] [] pos) jeD:=fun pins s σ H Q I h=>
 wpAny_Dict_empty ⟨.ref s.heap.objs.size,_,I.laid (a:=s.heap.objs.size) (o:=.dK []) (t':=s.toks) (fun _ _ q=>Xh _ q) (Xm _) (jdQ s.heap I.big),rfl,h _ (I.hok.fresh (Xm _))⟩
theorem jdS:PE X (.Dict [] [] pos) (jeE fl):=fun pins s σ H Q I h=>
 wpAny_Dict_empty ⟨.ref s.heap.objs.size,_,I.laid (a:=s.heap.objs.size) (o:=.dT fl []) (t':=s.toks) (fun _ _ q=>Xh _ q) (Xm _) (jdR s.heap I.big),rfl,h _ (I.hok.fresh (Xm _))⟩
end
structure M2 (X:Cx) (o:Expr) (m:Str) (apos:Pos) (e f:Expr) (cpos:Pos):Prop where
 base:attributeBase o m X.env (eval o X.env)=eval o X.env
 few:((backTo cpos (starEach [e,f] X.env)).all (fun x=>!x.1)&&(backToKw cpos (keywordEach [] X.env)).all (fun x=>x.1.isSome)
 &&decide (([e,f]:List Expr).length+([]:List Keyword).length+(if ([]:List Keyword).isEmpty then 0 else 1)<30))=true
 line:(apos.endLine==cpos.line)=true
 trees:backTo cpos (starEach [e,f] X.env)=[(false,eval e X.env),(false,eval f X.env)]
def IsD (H:Hp) (a:Addr):Prop:=(∃ kvs,Rd H a (.dK kvs)) \/ ∃ fl kvs,Rd H a (.dT fl kvs)
theorem jg9 (I:Inv X pins σ H s) (d:IsD H a) :
  s.TypeIs (.ref a) "dict"/\(∀ b,Value.ref a=.ref b->∃ ob,s.heap.get? b=some ob/\ob.dict=none)/\(a==sysModules)=false:=by
 rcases d with⟨kvs,e⟩ | ⟨fl,kvs,e⟩
 ·obtain⟨_,hd,vs,_,dd⟩:=jai I.hok e;refine⟨dd.typeIs,fun b q=>?_,hd⟩;cases q;obtain⟨ob,_,_,h1,h2,_⟩:=dd;exact⟨ob,h1,h2.2.1⟩
 ·obtain⟨_,hd,xs,_,dd⟩:=jdP I.hok e;refine⟨dd.typeIs,fun b q=>?_,hd⟩;cases q;obtain⟨ob,_,_,h1,h2,_⟩:=dd;exact⟨ob,h1,h2.2.1⟩
section
variable {y d:V}{r:Value}{o:Option V} 
theorem jg_ (hu:A.units+2<cLine) (I:Inv X pins σ H s) (g:DGet H a y o) (ry:RelV y u) (rd:RelV d r) (h:∀ w' s',Inv X pins σ H s'->RelV (o.getD d) w'->Q w' s') :
  wpAny (model X.prog X.w) A (call (.builtin "dict.get") [.ref a,u,r]) Q E s:=by
 rcases g with⟨kvs,k,e,ey,l⟩ | ⟨fl,kvs,k,b,e,ey,eb,l⟩
 ·subst ey;obtain⟨z,hd,vs,rel,dd⟩:=jai I.hok e;refine call_meetsIn PySem.F.slot_dict_get dd.typeIs PySem.F.entry_dict_get (PySem.F.args_dict_get_3 _ _ _) (meets_dict_get_default (yL X.prog X.w) a (jcb ry) hd r) ⟨_,dd.mapOf,h _ _ (I.tok _) ?_⟩;rw[l];exact(rel.val k).getD rd
 ·subst ey;cases (show u=Value.ref b from ry);obtain⟨z,hd,xs,rel,dd⟩:=jdP I.hok e;refine call_meetsIn PySem.F.slot_dict_get dd.typeIs PySem.F.entry_dict_get (PySem.F.args_dict_get_3 _ _ _) (meetsH_dict_get_default (kdT fl X.prog X.w) a b hd r) ⟨Vs hu,k,xs,Zs I.hok eb,dd,h _ _ (I.tok _) ?_⟩;rw[l];exact(rel.val k).getD rd
end
def jcf (td ty tx:TE):TE:=fun σ H Q=>td σ H fun x H1=>∃ a,x=.ref a/\IsD H1 a/\ty σ H1 fun y H2=>tx σ H2 fun z H3=>∃ o,DGet H3 a y o/\Q (o.getD z) H3
section
variable {o f:Expr}{tx:TE}
theorem QE (hu:X.A.units+2<cLine) (ho:PE X o td) (he:PE X e ty) (hf:PE X f tx) (m:M2 X o "get" apos e f cpos):PE X (.Call (.Attribute o "get" apos) [e,f] [] cpos) (jcf td ty tx):=by
 intro pins s σ H Q I h;refine wpAny_Call_method m.base m.few m.line PySem.F.plainAttrs_dict PySem.F.slot_dict_get PySem.F.type_dict_get (thn (ho pins s σ H _ I h) fun u s1 ⟨x,H1,I1,rx,a,ex,d,q1⟩=>?_);subst ex;obtain rfl:u=Value.ref a:=rx;obtain⟨t1,t2,_⟩:=jg9 I1 d;refine⟨t1,t2,?_⟩;rw[m.trees];refine Calls.callWith_builtin rfl (Calls.evalArgs_plain (Calls.spliced_cons (thn (he pins s1 σ H1 _ I1 q1) fun iv s2 ⟨y,H2,I2,ry,q2⟩=>
  Calls.spliced_cons (thn (hf pins s2 σ H2 _ I2 q2) fun fv s3 ⟨z,H3,I3,rz,ov,g,q3⟩=>Calls.spliced_nil ?_))))
 exact jg_ hu I3 g ry rz fun w' s4 I4 rw'=>⟨_,H3,I4,rw',q3⟩
end
end L2
/- THE LAST THEOREM (shape; LID,My.* are yours):
   My.Adr: a structure of the addresses that your layer names (classes,functions); My.Txt K t: a structure (Prop) of the equations over K;
   My.txt_mk:{K}{implicit addresses ..} (e1:nsIn K mainGlobals "law"=some (some (.ref f))) (e2:K.lookup f=some ⟨oc,od,.func (fnOf "law" "law" params body scope dV kV doc pm an cdv ct),sl⟩) (e3:codeIn K cdv "law"=true) ..:∃ t,My.Txt K t
(the tactic k_is has no namespace: write k_is) -/
namespace L3
open PySem PySem.Spec L2
theorem hu1 {m:Nat} (h:n+200<m):n+2<m:=by omega
section
variable [DecidableEq κ]
def Zt (l:List (κ×α)) (k:κ) (v:α):List (κ×α):=
 bif l.any (fun p=>decide (p.1=k)) then l.map (fun p=>bif decide (p.1=k) then (p.1,v) else p) else l++[(k,v)]
def Qe (l:List (κ×α)) (k:κ):Option α:=(l.find? fun p=>decide (p.1=k)).map (·.2)
@[irreducible] def isK (k:κ) (l:List (κ×α)):Bool:=(Qe l k).isSome
@[irreducible] def WT (l:List (κ×α)) (k:κ) (v:α):Option (List (κ×α)):=if l.length<16777216 then some (Zt l k v) else none
end
class Kk (κ:Type) where
 k:κ->Key
 inj:∀ {a b},k a=k b->a=b
 cd:Cd κ
 rep:∀ {K F a v},cd.rep K F a v->v=kV (k a)
instance:Kk Int:=⟨fun i=>.inl i,fun h=>Sum.inl.inj h,cI,fun h=>h⟩
instance:Kk Str:=⟨fun i=>.inr i,fun h=>Sum.inr.inj h,cS,fun h=>h⟩
section
variable [DecidableEq κ] [Kk κ] {F:Hp}{t te:TE}{c:Cd α}{rs:Rs γ} 
def KvR (K:W.Frag) (F:Hp) (c:Cd α) (p:κ×α) (q:Key×V):Prop:=q.1=Kk.k p.1/\c.rep K F p.2 q.2
theorem KvR.mono {F:Hp}{p:κ×α}{q:Key×V} (s:Same F F') (h:KvR K F c p q):KvR K F' c p q:=⟨h.1,c.mono s h.2⟩
theorem jfM {a b:κ}:decide (Kk.k a=(Kk.k b:Key))=decide (a=b):=by
 by_cases h:a=b
 ·subst h; simp
 ·rw[Xf h,Xf fun e=>h (Kk.inj e)]
theorem Zu {F:Hp}{k:κ}:∀ {l:List (κ×α)}{kvs:List (Key×V)},Paired (KvR K F c) l kvs->(Qe l k=none/\Ju kvs (Kk.k k)=none) \/ ∃ x v,Qe l k=some x/\Ju kvs (Kk.k k)=some v/\c.rep K F x v
 | _,_,.nil=>.inl ⟨rfl,rfl⟩
 | p::l,q::kvs,.cons ⟨r1,r2⟩ s=>by
  by_cases h:p.1=k
  ·right
   refine⟨p.2,q.2,?_,JR (by rw[r1,h]),r2⟩;unfold Qe;rw[wo,Xl h];rfl
  ·have e1:Qe (p::l) k=Qe l k:=by
    unfold Qe;rw[wo,Xf h]
   have e2:Ju (q::kvs) (Kk.k k)=Ju kvs (Kk.k k):=JS (by rw[r1]; exact fun e=>h (Kk.inj e));rw[e1,e2];exact Zu s
theorem jeF {F:Hp}{k:κ}:∀ {l:List (κ×α)}{kvs:List (Key×V)},Paired (KvR K F c) l kvs->(kvs.any fun kv=>decide (kv.1=Kk.k k))=l.any fun p=>decide (p.1=k)
 | _,_,.nil=>rfl
 | p::l,q::kvs,.cons ⟨r1,r2⟩ s=>by
  rw[List.any_cons,List.any_cons,jeF s,r1,jfM]
theorem jeG {F:Hp}{k:κ}{x:α} (r:c.rep K F x v):∀ {l:List (κ×α)}{kvs:List (Key×V)},Paired (KvR K F c) l kvs ->
  Paired (KvR K F c) (l.map fun p=>bif decide (p.1=k) then (p.1,x) else p) (kvs.map fun kv=>if kv.1=Kk.k k then (kv.1,v) else kv)
 | _,_,.nil=>.nil
 | p::l,q::kvs,.cons ⟨r1,r2⟩ s=>by
  rw[XR,XR];refine .cons ?_ (jeG r s);by_cases h:p.1=k
  ·rw[Xl h,wr,if_pos (by rw[r1,h])];exact⟨r1,r⟩
  ·rw[Xf h,wk,if_neg (by rw[r1]; exact fun e=>h (Kk.inj e))];exact⟨r1,r2⟩
theorem jha {F:Hp}{k:κ}{x:α}{l:List (κ×α)}{kvs:List (Key×V)} (r:c.rep K F x v) (s:Paired (KvR K F c) l kvs):Paired (KvR K F c) (Zt l k x) (Yh kvs (Kk.k k) v):=by
 unfold Zt Yh;rw[jeF s];cases l.any fun p=>decide (p.1=k) with
 | true=>rw[wr,if_pos rfl]; exact jeG r s
 | false=>rw[wk,if_neg (by decide)]; exact Paired.app s (.cons ⟨rfl,r⟩ .nil)
def pD (c:Cd α):Pm (List (κ×α)):=⟨fun K F H l v=>∃ a kvs,v=.ref a/\H a=some (.dK kvs)/\Paired (KvR K F c) l kvs,
 fun e ⟨a,xs,h1,h2,h3⟩=>⟨a,xs,h1,e.h _ _ h2,Paired.mapP h3 fun _ _=>KvR.mono e.f⟩⟩
def rD (c:Cd α):Rs (List (κ×α)):=⟨fun K H F2 H2 l v=>∃ a kvs,v=.ref a/\H a=none/\F2 a=none/\H2 a=some (.dK kvs)/\Paired (KvR K F2 c) l kvs,
 fun s ⟨a,xs,h1,h2,h⟩=>⟨a,xs,h1,s.free h2,h⟩⟩
structure OwnD (K:W.Frag) (He F H:Hp) (c:Cd α) (l:List (κ×α)) (a:Addr):Prop where
 e:He a=none
 f:F a=none
 h:∃ kvs,H a=some (.dK kvs)/\Paired (KvR K F c) l kvs
theorem OwnD.mono {l:List (κ×α)} (o:OwnD K He F H c l a) (E:Ext F H F' H'):OwnD K He F' H' c l a:=by
 obtain⟨xs,h1,h2⟩:=o.h;refine⟨o.e,?_,xs,E.h _ _ h1,Paired.mapP h2 fun _ _=>KvR.mono E.f⟩;cases e:F' a with
 | none=>rfl
 | some u=>
  rcases E.new a u e with z | z
  ·rw[o.f] at z; cases z
  ·rw[h1] at z; cases z
theorem OwnD.b {l:List (κ×α)} (o:OwnD K He F H c l a):(pD c).rel K F H l (.ref a):=let ⟨xs,h1,h2⟩:=o.h; ⟨a,xs,rfl,h1,h2⟩
theorem OwnD.chg {l:List (κ×α)}{b:Addr} (o:OwnD K He F H c l b) (C:Chg a F H F' H') (hne:b≠a):OwnD K He F' H' c l b:=by
 obtain⟨xs,h1,h2⟩:=o.h;refine⟨o.e,?_,xs,C.h _ _ hne h1,Paired.mapP h2 fun _ _=>KvR.mono C.f⟩;cases e:F' b with
 | none=>rfl
 | some u=>
  rcases C.new b u hne e with z | z
  ·rw[o.f] at z; cases z
  ·rw[h1] at z; cases z
theorem Jv:Ev K σ F H jeD (rD (κ:=κ) c) (some []):=by
 intro F1 H1 E z e Q k a ha;cases e;exact k _ F1 _ (Ext.newO E.sub ha) ⟨a,[],rfl,ha,E.sub.free ha,kR,.nil⟩
theorem jdT (hk:Ev K σ F H ty (rF Kk.cd) mk) (hd:Ev K σ F H td (pD c).rs ml) (e_:mm_=(mk.bind fun k=>ml.bind fun l=>some (!isK k l))):Ev K σ F H (Ua ty td) (rF cB) mm_:=by
 subst e_;intro F1 H1 E z e Q k;obtain⟨y,ey,e⟩:=bind_some e;obtain⟨l,el,e⟩:=bind_some e;cases e;refine hk F1 H1 E y ey _ fun v F2 H2 E2 hv=>hd F2 H2 (E.trans E2) l el _ ?_;rintro w F3 H3 E3 ⟨a,kvs,rfl,h1,h2⟩;have ev:v=kV (Kk.k y):=Kk.rep hv;subst ev;refine⟨a,Ju kvs (Kk.k y),rfl,DGet.k h1,?_⟩;refine k _ F3 H3 (E2.trans E3) ?_;show V.bl (!(Ju kvs (Kk.k y)).isSome)=V.bl (!isK y l);unfold isK;rcases Zu (k:=y) h2 with⟨g1,g2⟩ | ⟨x,v,g1,g2,_⟩ <;> rw[g1,g2] <;> rfl
theorem jaj {y:κ}{l:List (κ×α)} (hk:Ev K σ F H ty (rF Kk.cd) (some y)) (hd:Ev K σ F H td (pD c).rs (some l)) (e_:mm_=some (!isK y l)):Ev K σ F H (Ua ty td) (rF cB) mm_:=jdT hk hd e_
theorem jak {mx mm_:Option α} (hd:Ev K σ F H td (pD c).rs ml) (hk:Ev K σ F H ty (rF Kk.cd) mk) (hx:Ev K σ F H tv (rF c) mx) (e_:mm_=(ml.bind fun l=>mk.bind fun k=>mx.bind fun x=>some ((Qe l k).getD x))):Ev K σ F H (jcf td ty tv) (rF c) mm_:=by
 subst e_;intro F1 H1 E z e Q k;obtain⟨l,el,e⟩:=bind_some e;obtain⟨y,ey,e⟩:=bind_some e;obtain⟨x0,ex,e⟩:=bind_some e;cases e;refine hd F1 H1 E l el _ ?_;rintro w F2 H2 E2 hl;obtain⟨a,kvs0,rfl,h10,h20⟩:=id hl;refine⟨a,rfl,.inl ⟨kvs0,.inl h10⟩,hk F2 H2 (E.trans E2) y ey _ fun v F3 H3 E3 hv=>hx F3 H3 (E.trans (E2.trans E3)) x0 ex _ fun u F4 H4 E4 hu=>?_⟩;obtain⟨a',kvs,ea,h1,h2⟩:=(pD c).mono (E3.trans E4) hl;cases ea;have ev:v=kV (Kk.k y):=Kk.rep hv;subst ev;refine⟨Ju kvs (Kk.k y),DGet.k h1,k _ F4 H4 (E2.trans (E3.trans E4)) ?_⟩;show c.rep K F4 ((Qe l y).getD x0) ((Ju kvs (Kk.k y)).getD u);rcases Zu (k:=y) h2 with⟨g1,g2⟩ | ⟨x,v,g1,g2,r⟩
 ·rw[g1,g2]; exact hu
 ·rw[g1,g2]; exact r
theorem zG {y:κ}{l:List (κ×α)}{x:α}{mm_:Option α} (hd:Ev K σ F H td (pD c).rs (some l)) (hk:Ev K σ F H ty (rF Kk.cd) (some y)) (hx:Ev K σ F H tv (rF c) (some x)) (e_:mm_=some ((Qe l y).getD x)):Ev K σ F H (jcf td ty tv) (rF c) mm_:=jak hd hk hx e_
theorem jfN {m:Option (List (κ×α))}{f:List (κ×α)->Option δ} (he:Ev K σ F H te (rD c) m) (X:Ext Fe He F H) (hm:m.bind f=some r) (k:∀ l a F' H',f l=some r->Ext F H F' H'->Ext Fe He F' H'->H a=none->OwnD K He F' H' c l a->D.nx (σ.set i (some (.ref a))) H'):U4 te (xq i) D σ H:=by
 obtain⟨a,ea,hm⟩:=bind_some hm;refine he F H (Ext.refl X.sub) a ea _ ?_;rintro v F2 H2 E ⟨b,xs,rfl,h1,h2,h3,h4⟩;exact k a b F2 H2 hm E (X.trans E) h1 ⟨X.h.free h1,h2,xs,h3,h4⟩
theorem Ub {m:Option (List (κ×α))}{f:List (κ×α)->Option δ} (he:Ev K σ F H te (rD c) m) (X:Ext Fe He F H) (hm:m.bind f=some r) (k:∀ l a F' H',f l=some r->Ext F H F' H'->Ext Fe He F' H'->H a=none->OwnD K He F' H' c l a->u' D (σ.set i (some (.ref a))) H'):Uw (U4 te (xq i)) u' D σ H:=
 jfN (D:={ D with nx:=u' D }) he X hm k
theorem jdU {l:List (κ×α)}{xs:List (Key×V)} (X:Ext Fe He F H) (he:He a=none) (hf:F a=none) (h:Paired (KvR K F c) l xs):Ext Fe He F (upd H a (.dK xs))/\OwnD K He F (upd H a (.dK xs)) c l a:=
 ⟨X.upd he hf,he,hf,xs,kR,h⟩
theorem Jw {l:List (κ×α)}{f:List (κ×α)->Option δ} (hi:σ[k']?=some (some (.ref a))) (o:OwnD K He F H c l a) (hv:Ev K σ F H tv (rF c) mv) (hk:Ev K σ F H ty (rF Kk.cd) mk) (X:Ext Fe He F H) (hm:(mv.bind fun v=>mk.bind fun k=>WT l k v).bind f=some r)
  (k:∀ l' F' H',f l'=some r->Chg a F H F' H'->Ext Fe He F' H'->OwnD K He F' H' c l' a->D.nx σ H'):jfL (Uv k') ty tv D σ H:=by
 obtain⟨l',el,hm⟩:=bind_some hm;obtain⟨x,ex,el⟩:=bind_some el;obtain⟨y,ey,el⟩:=bind_some el;unfold WT at el;obtain⟨hl,rfl⟩:=kX el;refine hv F H (Ext.refl X.sub) x ex _ fun v F2 H2 E hvv=>⟨_,hi,hk F2 H2 E y ey _ fun w F3 H3 E3 hw=>?_⟩;have ew:w=kV (Kk.k y):=Kk.rep hw;subst ew;have E':=E.trans E3;have o2:=o.mono E';obtain⟨kvs,h1,h2⟩:=o2.h;obtain⟨X',o'⟩:=jdU (K:=K) (c:=c) (X.trans E') o.e o2.f (jha (k:=y) (c.mono E3.f hvv) h2);exact⟨a,_,rfl,DPut.k h1 (by rw[XY,<- h2.length]; exact hl),k _ F3 _ hm (GG E') X' o'⟩
end
end L3
namespace L2
open PySem PySem.Spec PyProof.Rows
def jiK (t1 t2:TE):TE:=fun σ H Q=>t1 σ H Q \/ t2 σ H Q
theorem Zv (h1:PE X e t1) (h2:PE X e t2):PE X e (jiK t1 t2):=fun pins s σ H Q I h=>h.elim (h1 pins s σ H Q I) (h2 pins s σ H Q I)
end L2
namespace L3
open PySem PySem.Spec L2
section
variable {F:Hp}{t:TE}{c:Cd α}{rs:Rs γ}
def Qf (c:Cd α) (d:Cd β):Cd (α ⊕ β) where
 rep:=fun K H x v=>Sum.elim (fun a=>c.rep K H a v) (fun b=>d.rep K H b v) x
 mono:=fun {K F F' x v} s h=>by
  cases x with
  | inl a=>exact c.mono s h
  | inr b=>exact d.mono s h
theorem Zw {m:Option α}{mm_:Option (α ⊕ β)} (h:Ev K σ F H t (rF c) m) (e_:mm_=m.bind fun a=>some (Sum.inl a)):Ev K σ F H t (rF (Qf c d)) mm_:=by
 subst e_;intro F1 H1 E z e Q k;obtain⟨a,ea,e⟩:=bind_some e;cases e;exact h F1 H1 E a ea Q fun v F2 H2 E2 hv=>k v F2 H2 E2 hv
theorem Vt {m:Option β}{mm_:Option (α ⊕ β)} (h:Ev K σ F H t (rF d) m) (e_:mm_=m.bind fun a=>some (Sum.inr a)):Ev K σ F H t (rF (Qf c d)) mm_:=by
 subst e_;intro F1 H1 E z e Q k;obtain⟨a,ea,e⟩:=bind_some e;cases e;exact h F1 H1 E a ea Q fun v F2 H2 E2 hv=>k v F2 H2 E2 hv
theorem Zx {x:α ⊕ β}{f:α->Option γ}{g:β->Option γ}{mm_:Option γ} (P:(Qf c d).rep K F x v) (h1:∀ a,c.rep K F a v->Ev K σ F H t1 rs (f a)) (h2:∀ b,d.rep K F b v->Ev K σ F H t2 rs (g b)) (e_:mm_=Sum.elim f g x) :
  Ev K σ F H (jiK t1 t2) rs mm_:=by
 subst e_;cases x with
 | inl a=>exact fun F1 H1 E z e Q k=>Or.inl (h1 a P F1 H1 E z e Q k)
 | inr b=>exact fun F1 H1 E z e Q k=>Or.inr (h2 b P F1 H1 E z e Q k)
end
end L3
namespace L2
open PySem PySem.Spec PyProof.Rows PySem.W
section
theorem UA (vs:List Value):(List.range vs.length).map (fun i=>vs.getD i Value.none)=vs:=by
 refine List.ext_getElem (by simp) fun i h1 h2=>?_;simp only[List.getElem_map,List.getElem_range,XV,Xc h2,Option.getD_some]
end
end L2
namespace L3
open PySem PySem.Spec L2
section
variable [DecidableEq κ] [Kk κ] {F:Hp}{t:TE}{c:Cd α} 
theorem UW {m:Option (List (κ×α))} (h:Ev K σ F H t (rD c) m):Ev K σ F H t (pD c).rs m:=JM h (fun _ ⟨a,xs,h0,_,_,h3,h4⟩=>⟨a,xs,h0,h3,h4⟩)
theorem Vu {l r:List (κ×α)} (hi:σ[i]?=some (some (.ref a))) (o:OwnD K He F H c l a) (X:Ext Fe He F H) (hm:some l=some r) (k:∀ v F' H',Ext Fe He F' H'->(rD c).rel K He F' H' r v->D.rt v H'):jgx (Uv i) D σ H:=by
 cases hm;obtain⟨xs,h1,h2⟩:=o.h;exact⟨_,hi,k _ F H X ⟨a,xs,rfl,o.e,o.f,h1,h2⟩⟩
end
def jhb (K:W.Frag) (CT:Addr) (p:Addr×Option Addr):Bool:=
 jdO K p.1 p.2&&jib K p.1 CT&&(W.clsIn K p.1).any (fun cd=>jb8 cd.mro)&&W.hasDictIn K p.1 &&
 (W.findIn K (.ref p.1) "__getattribute__"==some (some (.builtin "BaseException.__getattribute__")))&&(W.findIn K (.ref p.1) "__getattr__"==some none) &&
 (W.findIn K (.ref p.1) "__class__"==some (some (.builtin "object.__class__")))&&(W.mroIn K p.1 (.type "object")==some true) &&
 (W.findIn K (.ref p.1) "__setattr__"==some (some (.builtin "object.__setattr__")))&&W.keepIn K (.ref p.1)
def jdV (K:W.Frag) (CT:Addr) (es:List (Addr×Option Addr)):Bool:=
 es.all (jhb K CT)&&(W.specialIn K (.builtin "object.__class__") "__get__"==some (some (.builtin "getset_descriptor.__get__")))&&(W.takesIn K (.builtin "object.__class__")==some true)
structure XFacts (K:W.Frag) (CT C:Addr) (fo:Option Addr):Prop where
 exc:jdO K C fo=true
 sub:jib K C CT=true
 is:XIs K C
 cls:XCls K C
 kp:W.keepIn K (.ref C)=true
theorem jhc {es:List (Addr×Option Addr)} (h:jdV K CT es=true) {p:Addr×Option Addr} (hp:p∈es):XFacts K CT p.1 p.2:=by
 unfold jdV at h;rw[XF,XF,X6] at h;obtain⟨⟨h1,h2⟩,h3⟩:=h;have c:=h1 p hp;unfold jhb at c;simp only[XF,beq_iff_eq] at c h2 h3;obtain⟨⟨⟨⟨⟨⟨⟨⟨⟨c1,c2⟩,c3⟩,c4⟩,c5⟩,c6⟩,c7⟩,c8⟩,c9⟩,c10⟩:=c;exact⟨c1,c2,⟨⟨c3,c4,c5,c6⟩,c7,h2,h3,c8⟩,⟨c3,c4,c9⟩,c10⟩
theorem jie {es:List (Addr×Option Addr)}{ns:List Str} (h:((es.zip nss).map fun z=>(z.1.1,z.2))[i]?=some (C,ns)):∃ fo,es[i]?=some (C,fo)/\nss[i]?=some ns:=by
 rw[XG] at h;obtain⟨⟨⟨a,fo⟩,b⟩,e,r⟩:=Option.map_eq_some_iff.mp h;obtain⟨e1,e2⟩:=List.getElem?_zip_eq_some.mp e;cases r;exact⟨fo,e1,e2⟩
theorem jfO {es:List (Addr×Option Addr)} (h:jdV K CT es=true):jiJ K CT ((es.zip nss).map fun z=>(z.1.1,z.2)):=fun i C ns e=>by
 obtain⟨fo,e1,_⟩:=jie e;have f:=jhc h (X8 e1);exact⟨fo,f.exc,f.sub⟩
end L3
namespace L2
open PySem PySem.Spec PyProof.Rows
abbrev TJ:=St->Hp->Str->(Str->Hp->Prop)->Prop
end L2
namespace L2
open PySem
section
abbrev hsh (prog:Program) (w:World) (ks:List Int):Int:=tupleKeyHash (intKind prog w) ks
end
end L2
namespace L2
open PySem PySem.Spec PyProof.Rows PySem.W
theorem WU:∀ (f m r:Nat),r<=1->1<=m->m<=f->minRun' f m r<=m+r
 | 0,m,r,h1,h2,h3=>by omega
 | f+1,m,r,h1,h2,h3=>by
  rw[minRun'_succ];split
  ·exact Xm _
  ·rename_i h
   have:=WU f (m / 2) (max r (m % 2)) (by omega) (by omega) (by omega);omega
section
variable {κ:SortKind}{it:Array Keyed}
theorem jdW {k:Nat}{Z:Unit->SortSt->Shared->Prop}{G:Array Nat->Shared->Prop} (hk:2<=k)
  (fin:∀ p st s1,p.size=k->arrOf st=p.map (kas_item it)->failedOf st=none->G p s1->Z () st s1) (ask:(kas_count k (List.range k).toArray).kasWp (kas_cmp prog w A κ it) (fun z s1=>z.1=k/\G z.2 s1) s) :
  kasC (model prog w) A E sortRuns' Z (kas_st κ it (List.range k).toArray) s:=by
 have zr:((List.range k).toArray).size=k:=by simp
 have za:(arrOf (kas_st κ it (List.range k).toArray)).size=k:=by
  show (((List.range k).toArray).map (kas_item it)).size=k;rw[Array.size_map,zr]
 have mr:minRun' k k 0<=k:=WU k k 0 (by omega) (by omega) (Xm _);rw[sortRuns'_eq];refine kasC_bind (kasC_get ?_);dsimp only;rw[za];obtain⟨c,rfl⟩:∃ c,k=c+2:=⟨k-2,by omega⟩;refine kasC_bind (kasC_range ?_);rw[show List.range' 0 (c+2-0)=0::1::List.range' 2 c from rfl];refine kasC_cons ?_;dsimp only;rw[if_neg (show ¬ (0 ≥ c+2) by omega)];refine kasC_bind (kas_count_ (show 1<=c+2-0 by omega) (by rw[zr]; omega) (fun m p s1 m1 m2 mp g=>?_) ask);obtain⟨rfl,g⟩:=g;dsimp only;rw[if_neg (show ¬ (c+2<minRun' (c+2) (c+2) 0) by omega)];refine kasC_bind (kasC_get ?_);rw[show (pendingOf (kas_st κ it p)).back?=none from rfl];dsimp only;refine kasC_bind (kasC_modify (kasC_pure (kasC_cons ?_)));dsimp only;rw[if_pos (show 0+(c+2) ≥ c+2 by omega)];refine kasC_pure ?_;dsimp only;refine kasC_bind (kasC_range ?_);rw[show List.range' 0 (c+2-0)=0::1::List.range' 2 c from rfl];refine kasC_cons (kasC_bind (kasC_get ?_));rw[if_pos (show (pendingOf (setPending (kas_st κ it p) ((pendingOf (kas_st κ it p)).push (0,c+2,0)))).size<=1 from Xm 1)];refine kasC_pure (kasC_pure (fin p _ _ (mp.trans zr) rfl rfl g))
end
section
variable {cmp:Nat->Nat->(Bool->Shared->Prop)->Shared->Prop} 
theorem jcg {k:Nat}{Q:Nat->Shared->Prop} (ha:∀ i C,i+1<k->C false s->cmp (i+1) i C s) (hq:Q k s):∀ f a,1<=a->a+f=k->(kas_asc (List.range k).toArray f a).kasWp cmp Q s
 | 0,a,h1,h2=>by
  obtain rfl:a=k:=by omega
  exact hq
 | f+1,a,h1,h2=>by
  have e1:(List.range k).toArray.getD a 0=a:=by simp[Array.getD,show a<k by omega]
  have e2:(List.range k).toArray.getD (a-1) 0=a-1:=by simp[Array.getD,show a-1<k by omega]
  show cmp ((List.range k).toArray.getD a 0) ((List.range k).toArray.getD (a-1) 0) _ s;rw[e1,e2];have:=ha (a-1) (fun c s1=>(if c=true then KasT.ret a else kas_asc (List.range k).toArray f (a+1)).kasWp cmp Q s1) (by omega) (by rw[if_neg Xw]; exact jcg ha hq f (a+1) (by omega) (by omega));rw[show a-1+1=a by omega] at this;exact this
theorem jch {k:Nat}{Q:Nat×Array Nat->Shared->Prop} (hk:1<=k) (ha:∀ i C,i+1<k->C false s->cmp (i+1) i C s) (hq:Q (k,(List.range k).toArray) s):(kas_count k (List.range k).toArray).kasWp cmp Q s:=by
 unfold kas_count;rw[KasT.kasWp_bind];refine jcg ha ?_ (k-1) 1 (Xm _) (by omega);rw[if_pos (beq_self_eq_true k)];exact hq
end
section
theorem Vv {ps:List Int}{P:PySem.Fin->Shared->Prop} (ho:s.heap.get? a=some (seqObj "list" vs.toArray n)) (hI:IntsAre vs ps) (hk:∀ (i:Nat) q q',ps[i]?=some q->ps[i+1]?=some q'->q<=q') (hz:vs.length<=1000)
  (h:P (.done (.ret .none)) { s with heap:=sortedHeap s.heap a vs vs.toArray }) :
  wpAny (model prog w) A (Builtin.«list.sort» ⟨[.ref a],[]⟩) P E s:=by
 rw[list_sort_plain];have la:a<s.heap.objs.size:=XB ho;refine Xb (listItems_at ho rfl (Xb (listUpdate_at ho rfl ?_ (by rw[Xs,XY]; omega) (wg _))));obtain⟨e1,ho1⟩:∃ e1,(s.heap.update a (Obj.mapSeq fun _=>(#[]:Array Value))).get? a=some (seqObj "list" #[] e1):=⟨_,get?_update_seq ho fun _=>#[]⟩;refine Xb (seqEpoch_at ho1 rfl (Xb (wpAny_newTuple (Xb (wpAny_newList (wv ?_) (wg _))) (by show vs.length<=_; rw[XY]; omega))));have ho6:(((s.heap.update a (Obj.mapSeq fun _=>(#[]:Array Value))).push (seqObj "tuple" vs.toArray 0)).push (seqObj "list" #[] 0)).get? a=some (seqObj "list" #[] e1):=Xh _ (Xh _ ho1);show wpAny (model prog w) A _ P E { s with heap:=((s.heap.update a (Obj.mapSeq fun _=>(#[]:Array Value))).push (seqObj "tuple" vs.toArray 0)).push (seqObj "list" #[] 0) }
 dsimp only;have fin:∀ (st:SortSt),(arrOf st).map (·.2)=vs.toArray->failedOf st=none ->
   wpAny (model prog w) A (do
    let touched:=(<- seqEpoch a) != e1
    Builtin.List.listUpdate (.ref a) fun _=>(arrOf st).map (·.2)
    if let some e:=failedOf st then rule "list.sort.comparison-raised"; throw e
    if touched then rule "list.sort.modified"; raiseError "ValueError" "list modified during sort"
    ret .none) P E { s with heap:=((s.heap.update a (Obj.mapSeq fun _=>(#[]:Array Value))).push (seqObj "tuple" vs.toArray 0)).push (seqObj "list" #[] 0) }:=by
  intro st h1 h2;rw[h1,h2];refine Xb (seqEpoch_at ho6 rfl (Xb (listUpdate_at ho6 rfl ?_ (wg _) ?_)))
  ·simp only[bne_self_eq_false,X9,if_false];exact Xd h
  ·rw[Xs,XY];omega
 by_cases h2:vs.toArray.size<2
 ·rw[if_pos h2,if_pos h2];refine Xb (Xd ?_);rw[StateT.run_pure];refine Xb (Xd ?_);refine fin (SortSt.mk' general' (vs.toArray.zip vs.toArray) #[] 7 none) ?_ rfl;show (vs.toArray.zip vs.toArray).map (·.2)=vs.toArray;rw[List.zip_toArray,List.map_toArray,List.map_snd_zip (Xm _)]
 ·rw[if_neg h2,if_neg h2];rw[Xs] at h2;obtain⟨v₁,v₂,rest,ev⟩:∃ v₁ v₂ rest,vs=v₁::v₂::rest:=by
   match vs,h2 with
   | [],h2=>simp at h2
   | [_],h2=>simp at h2
   | v₁::v₂::rest,_=>exact ⟨_,_,_,rfl⟩
  have kk:keyKind' vs.toArray=pure oneType':=by
   subst ev;exact keyKind_ints hI
  rw[kk];refine Xb (Xd ?_);have est:SortSt.mk' oneType' (vs.toArray.zip vs.toArray) #[] 7 none=kas_st oneType' (vs.toArray.zip vs.toArray) (List.range vs.length).toArray:=by
   have e:=kas_range (vs.toArray.zip vs.toArray);rw[show (vs.toArray.zip vs.toArray).size=vs.length by simp] at e;show _=SortSt.mk' _ (((List.range vs.length).toArray).map (kas_item (vs.toArray.zip vs.toArray))) #[] 7 none;rw[e]
  rw[est];have run:=jdW (prog:=prog) (w:=w) (A:=A) (E:=E) (κ:=oneType') (it:=vs.toArray.zip vs.toArray) (k:=vs.length)
   (s:={ s with heap:=((s.heap.update a (Obj.mapSeq fun _=>(#[]:Array Value))).push (seqObj "tuple" vs.toArray 0)).push (seqObj "list" #[] 0) })
   (Z:=fun _ st s'=>s'={ s with heap:=((s.heap.update a (Obj.mapSeq fun _=>(#[]:Array Value))).push (seqObj "tuple" vs.toArray 0)).push (seqObj "list" #[] 0) }/\failedOf st=none/\(arrOf st).map (·.2)=vs.toArray)
   (G:=fun p s'=>s'={ s with heap:=((s.heap.update a (Obj.mapSeq fun _=>(#[]:Array Value))).push (seqObj "tuple" vs.toArray 0)).push (seqObj "list" #[] 0) }/\p=(List.range vs.length).toArray) (by omega)
   (fun p st s1 a1 a2 a3 a4=>⟨a4.1,a3,by rw[kat_snds rfl a2,a4.2,UA]⟩) (by
    rw[<- kat_ask_eq rfl];refine jch (by omega) (fun i C hi hc=>?_) ⟨rfl,rfl,rfl⟩;unfold kas_ask;obtain⟨t1,e1⟩:=IntsAre.int_at hI i _ (show vs[i]?=some (vs.getD i Value.none) by rw[XV,Xc (by omega)]; rfl);obtain⟨t2,e2⟩:=IntsAre.int_at hI (i+1) _ (show vs[i+1]?=some (vs.getD (i+1) Value.none) by rw[XV,Xc (by omega)]; rfl);have hln:=Zq hI;have le:=hk i _ _ (Xc (by omega)) (Xc (show i+1<ps.length by omega));rw[e1,e2];refine kat_lt_int ?_;rw[show ps.getD (i+1) 0=ps[i+1]'(by omega) by simp[List.getD,Xc (show i+1<ps.length by omega)],show ps.getD i 0=ps[i]'(by omega) by simp[List.getD,Xc (show i<ps.length by omega)],Xf (by omega)];exact hc)
  refine Xb (wpAny_mono run ?_ fun _ _ e=>e);rintro⟨⟨⟩,st⟩ s' ⟨rfl,hf,hm⟩;exact fin st hm hf
theorem jal {l:Addr}{ps:List Int} (hl:s.heap.IsList l vs.toArray) (hI:IntsAre vs ps) (hk:∀ (i:Nat) q q',ps[i]?=some q->ps[i+1]?=some q'->q<=q') (hz:vs.length<=1000)
  (h:Q (.ref (s.heap.objs.size+1)) { s with heap:=sortedAll s.heap vs vs.toArray }) :
  wpAny (model prog w) A (call (.builtin "sorted") [.ref l]) Q E s:=by
 refine Calls.call_function_entry kind_sorted plain_sorted entry_sorted (args_sorted1 _) ?_;unfold Builtin.«sorted»;refine Xb (m:=checkCount "sorted" 1 1 _) (Xd (Xb (collect_list hl (Xb (wpAny_newList ?_ (by rw[XY]; omega))) (by rw[XY]; omega))));have sz:((s.heap.push (seqObj "list" #[] 0)).update s.heap.objs.size (Obj.mapSeq (·++vs.toArray))).objs.size=s.heap.objs.size+1:=by rw[Heap.size_update,size_push']
 have hL:(((s.heap.push (seqObj "list" #[] 0)).update s.heap.objs.size (Obj.mapSeq (·++vs.toArray))).push (seqObj "list" vs.toArray 0)).get? (s.heap.objs.size+1)=some (seqObj "list" vs.toArray 0):=by rw[<- sz]; exact XD _ rfl
 have keep:∀ b o,s.heap.get? b=some o->(((s.heap.push (seqObj "list" #[] 0)).update s.heap.objs.size (Obj.mapSeq (·++vs.toArray))).push (seqObj "list" vs.toArray 0)).get? b=some o:=fun b o q=>by
  have lt:b<s.heap.objs.size:=XB q;refine Xh _ ?_;rw[Heap.get?_update_ne _ _ _ _ (X2 lt)];exact Xh _ q
 show wpAny _ _ _ _ _ { s with heap:=((s.heap.push (seqObj "list" #[] 0)).update s.heap.objs.size (Obj.mapSeq (·++vs.toArray))).push (seqObj "list" vs.toArray 0) }
 rw[sz];refine Xb (wv (wpAny_call_entry slot_list_sort ⟨_,hL,rfl⟩ entry_list_sort (Vv hL hI hk hz ⟨_,rfl,?_⟩) (args_list_sort _)));exact Xd ⟨_,rfl,h⟩
end
def upI:List Int->Bool
 | []=>true
 | p::l=>(match l with | []=>true | q::_=>decide (p<=q))&&upI l
theorem jeH:∀ {l:List Int},upI l=true->∀ (i:Nat) q q',l[i]?=some q->l[i+1]?=some q'->q<=q'
 | [],_,i,q,q',e,_=>by simp at e
 | p::[],_,i,q,q',e,e'=>by simp at e'
 | p::r::l,h,i,q,q',e,e'=>by
  have h':(decide (p<=r)&&upI (r::l))=true:=h;rw[XF] at h';cases i with
  | zero=>
   cases e;cases e';exact wd h'.1
  | succ i=>exact jeH h'.2 i q q' e e'
section
theorem WV:Jq X (.builtin "sorted") (fun xs H Q=>∃ p ns,xs=[.ref p]/\SqL X.K H p (ns.map V.int)/\ns.length<=1000/\upI ns=true/\∀ l,H l=none->Q (.ref l) (upd H l (.lst (ns.map V.int)))):=by
 intro pins s σ H xs us Q I r h;obtain⟨p,ns,rfl,hq,hn,hup,q⟩:=h;obtain⟨u,rfl,rx⟩:=Ux r;cases rx;obtain⟨its,rv,pl,hz⟩:=I.list hq;have hlen:=rv.length;rw[Xr] at hlen;refine jal (ps:=ns) pl.isList (zY rv) (jeH hup) (by omega) ?_;obtain⟨e,he⟩:=sortedAll_at s.heap its its.toArray;exact⟨.ref _,_,I.laid (o:=.lst (ns.map V.int)) (t':=s.toks) (fun b o eb=>sortedAll_old eb) (Nat.le_succ _) ⟨hz,_,e,rv,he⟩,rfl,q _ (I.hok.fresh (Nat.le_succ _))⟩
end
end L2
namespace L3
open PySem PySem.Spec L2
section
@[irreducible] def jdX (l:List Int):Option (List Int):=if l.length<=1000/\upI l=true then some l else none
theorem jci:Op1 K (fun x H Q=>∃ p ns,[x]=[V.ref p]/\SqL K H p (ns.map V.int)/\ns.length<=1000/\upI ns=true/\∀ l,H l=none->Q (.ref l) (upd H l (.lst (ns.map V.int)))) (pR cI) (rO cI) (fun l=>jdX l):=by
 intro F H l x s hx z hz Q k;obtain⟨p,xs,rfl,h1,h2⟩:=hx;unfold jdX at hz;obtain⟨⟨hn,hup⟩,rfl⟩:=kX hz;rw[paired_ints h2] at h1;exact⟨p,l,rfl,h1,hn,hup,fun a ha=>zE s (zZ l) k a ha⟩
end
class Kt (κ:Type) where
 fl:Bool
 k:κ->List Key
 inj:∀ {a b},k a=k b->a=b
 cd:Cd κ
 get:∀ {K F a v},cd.rep K F a v->∃ b,v=.ref b/\TupK fl F (k a) b
 put:∀ {K F a b},TupK fl F (k a) b->cd.rep K F a (.ref b)
theorem Vw {F:Hp}:∀ {l:List Int}{xs:List V},Paired (cI.rep K F) l xs->xs=(l.map fun i=>(Sum.inl i:Key)).map kV
 | _,_,.nil=>rfl
 | i::l,x::xs,.cons h t=>by
  have h:x=.int i:=h;rw[XR,XR,<- Vw t,h];rfl
theorem Vx {F:Hp}:∀ (l:List Int),Paired (cI.rep K F) l ((l.map fun i=>(Sum.inl i:Key)).map kV)
 | []=>.nil
 | _::l=>.cons rfl (Vx l)
theorem YK:∀ {a b:List Int},(a.map fun i=>(Sum.inl i:Key))=(b.map fun i=>(Sum.inl i:Key))->a=b
 | [],[],_=>rfl
 | [],_::_,h=>by cases h
 | _::_,[],h=>by cases h
 | x::a,y::b,h=>by
  rw[XR,XR] at h;injection h with h1 h2
  rw[Sum.inl.inj h1,YK h2]
instance:Kt (List Int):=⟨false,fun l=>l.map fun i=>.inl i,YK,cT cI,fun⟨a,xs,h1,h2,h3⟩=>⟨a,h1,by show _=some (HO.tup _); rw[<- Vw h3]; exact h2⟩,fun {K F l b} h=>⟨b,_,rfl,h,Vx l⟩⟩
instance:Kt (Int×Int):=⟨false,fun p=>[.inl p.1,.inl p.2],fun {a b} h=>by
  injection h with h1 h2
  injection h2 with h2 _
  exact Prod.ext (Sum.inl.inj h1) (Sum.inl.inj h2),cP cI cI,fun {K F p v} ⟨a,u,w,h1,h2,h3,h4⟩=>⟨a,h1,by
  have h3:u=.int p.1:=h3;have h4:w=.int p.2:=h4;show F a=some (HO.tup _);rw[h2,h3,h4];rfl⟩,fun {K F p b} h=>⟨b,_,_,rfl,h,rfl,rfl⟩⟩
instance:Kt (List Int×Int):=⟨true,fun p=>.inl p.2::p.1.map fun i=>.inl i,fun {a b} h=>by
  injection h with h1 h2
  exact Prod.ext (YK h2) (Sum.inl.inj h1),cP (cT cI) cI,fun {K F p v} ⟨a,u,w,h1,h2,⟨t,xs,h3,h4,h5⟩,h6⟩=>⟨a,h1,.inl p.2,_,t,rfl,by
  have h6:w=.int p.2:=h6;rw[h2,h3,h6];rfl,by rw[<- Vw h5]; exact h4⟩,fun {K F p b} ⟨k,r,t,e,h1,h2⟩=>by
  injection e with e1 e2
  subst e1 e2;exact⟨b,_,_,rfl,h1,⟨t,_,rfl,h2,Vx _⟩,rfl⟩⟩
section
variable [DecidableEq κ] [Kt κ] {F:Hp}{t te:TE}{c:Cd α} 
def KtR (K:W.Frag) (F:Hp) (c:Cd α) (p:κ×α) (q:List Key×V):Prop:=q.1=Kt.k p.1/\c.rep K F p.2 q.2
theorem KtR.mono {F:Hp}{p:κ×α}{q:List Key×V} (s:Same F F') (h:KtR K F c p q):KtR K F' c p q:=⟨h.1,c.mono s h.2⟩
theorem jhd {a b:κ}:decide (Kt.k a=Kt.k b)=decide (a=b):=by
 by_cases h:a=b
 ·subst h; simp
 ·rw[Xf h,Xf fun e=>h (Kt.inj e)]
theorem jeI {F:Hp}{k:κ}:∀ {l:List (κ×α)}{kvs:List (List Key×V)},Paired (KtR K F c) l kvs->(Qe l k=none/\Ju kvs (Kt.k k)=none) \/ ∃ x v,Qe l k=some x/\Ju kvs (Kt.k k)=some v/\c.rep K F x v
 | _,_,.nil=>.inl ⟨rfl,rfl⟩
 | p::l,q::kvs,.cons ⟨r1,r2⟩ s=>by
  by_cases h:p.1=k
  ·right
   refine⟨p.2,q.2,?_,JR (by rw[r1,h]),r2⟩;unfold Qe;rw[wo,Xl h];rfl
  ·have e1:Qe (p::l) k=Qe l k:=by
    unfold Qe;rw[wo,Xf h]
   have e2:Ju (q::kvs) (Kt.k k)=Ju kvs (Kt.k k):=JS (by rw[r1]; exact fun e=>h (Kt.inj e));rw[e1,e2];exact jeI s
theorem jeJ {F:Hp}{k:κ}:∀ {l:List (κ×α)}{kvs:List (List Key×V)},Paired (KtR K F c) l kvs->(kvs.any fun kv=>decide (kv.1=Kt.k k))=l.any fun p=>decide (p.1=k)
 | _,_,.nil=>rfl
 | p::l,q::kvs,.cons ⟨r1,r2⟩ s=>by
  rw[List.any_cons,List.any_cons,jeJ s,r1,jhd]
theorem jeK {F:Hp}{k:κ}{x:α} (r:c.rep K F x v):∀ {l:List (κ×α)}{kvs:List (List Key×V)},Paired (KtR K F c) l kvs ->
  Paired (KtR K F c) (l.map fun p=>bif decide (p.1=k) then (p.1,x) else p) (kvs.map fun kv=>if kv.1=Kt.k k then (kv.1,v) else kv)
 | _,_,.nil=>.nil
 | p::l,q::kvs,.cons ⟨r1,r2⟩ s=>by
  rw[XR,XR];refine .cons ?_ (jeK r s);by_cases h:p.1=k
  ·rw[Xl h,wr,if_pos (by rw[r1,h])];exact⟨r1,r⟩
  ·rw[Xf h,wk,if_neg (by rw[r1]; exact fun e=>h (Kt.inj e))];exact⟨r1,r2⟩
theorem jhe {F:Hp}{k:κ}{x:α}{l:List (κ×α)} (r:c.rep K F x v) (s:Paired (KtR K F c) l kvs):Paired (KtR K F c) (Zt l k x) (Yh kvs (Kt.k k) v):=by
 unfold Zt Yh;rw[jeJ s];cases l.any fun p=>decide (p.1=k) with
 | true=>rw[wr,if_pos rfl]; exact jeK r s
 | false=>rw[wk,if_neg (by decide)]; exact Paired.app s (.cons ⟨rfl,r⟩ .nil)
def pDT (c:Cd α):Pm (List (κ×α)):=⟨fun K F H l v=>∃ a kvs,v=.ref a/\H a=some (.dT (Kt.fl κ) kvs)/\Paired (KtR K F c) l kvs,
 fun e ⟨a,xs,h1,h2,h3⟩=>⟨a,xs,h1,e.h _ _ h2,Paired.mapP h3 fun _ _=>KtR.mono e.f⟩⟩
def rDT (c:Cd α):Rs (List (κ×α)):=⟨fun K H F2 H2 l v=>∃ a kvs,v=.ref a/\H a=none/\F2 a=none/\H2 a=some (.dT (Kt.fl κ) kvs)/\Paired (KtR K F2 c) l kvs,
 fun s ⟨a,xs,h1,h2,h⟩=>⟨a,xs,h1,s.free h2,h⟩⟩
structure OwnDT (K:W.Frag) (He F H:Hp) (c:Cd α) (l:List (κ×α)) (a:Addr):Prop where
 e:He a=none
 f:F a=none
 h:∃ kvs,H a=some (.dT (Kt.fl κ) kvs)/\Paired (KtR K F c) l kvs
theorem OwnDT.mono {l:List (κ×α)} (o:OwnDT K He F H c l a) (E:Ext F H F' H'):OwnDT K He F' H' c l a:=by
 obtain⟨xs,h1,h2⟩:=o.h;refine⟨o.e,?_,xs,E.h _ _ h1,Paired.mapP h2 fun _ _=>KtR.mono E.f⟩;cases e:F' a with
 | none=>rfl
 | some u=>
  rcases E.new a u e with z | z
  ·rw[o.f] at z; cases z
  ·rw[h1] at z; cases z
theorem OwnDT.b {l:List (κ×α)} (o:OwnDT K He F H c l a):(pDT c).rel K F H l (.ref a):=let ⟨xs,h1,h2⟩:=o.h; ⟨a,xs,rfl,h1,h2⟩
theorem OwnDT.chg {l:List (κ×α)}{b:Addr} (o:OwnDT K He F H c l b) (C:Chg a F H F' H') (hne:b≠a):OwnDT K He F' H' c l b:=by
 obtain⟨xs,h1,h2⟩:=o.h;refine⟨o.e,?_,xs,C.h _ _ hne h1,Paired.mapP h2 fun _ _=>KtR.mono C.f⟩;cases e:F' b with
 | none=>rfl
 | some u=>
  rcases C.new b u hne e with z | z
  ·rw[o.f] at z; cases z
  ·rw[h1] at z; cases z
theorem jdY:Ev K σ F H (jeE (Kt.fl κ)) (rDT (κ:=κ) c) (some []):=by
 intro F1 H1 E z e Q k a ha;cases e;exact k _ F1 _ (Ext.newO E.sub ha) ⟨a,[],rfl,ha,E.sub.free ha,kR,.nil⟩
theorem jfP {m:Option (List (κ×α))}{f:List (κ×α)->Option δ} (he:Ev K σ F H te (rDT c) m) (X:Ext Fe He F H) (hm:m.bind f=some r) (k:∀ l a F' H',f l=some r->Ext F H F' H'->Ext Fe He F' H'->H a=none->OwnDT K He F' H' c l a->u' D (σ.set i (some (.ref a))) H'):Uw (U4 te (xq i)) u' D σ H:=by
 obtain⟨a,ea,hm⟩:=bind_some hm;refine he F H (Ext.refl X.sub) a ea _ ?_;rintro v F2 H2 E ⟨b,xs,rfl,h1,h2,h3,h4⟩;exact k a b F2 H2 hm E (X.trans E) h1 ⟨X.h.free h1,h2,xs,h3,h4⟩
theorem jdZ {l:List (κ×α)}{f:List (κ×α)->Option δ} (hi:σ[k']?=some (some (.ref a))) (o:OwnDT K He F H c l a) (hv:Ev K σ F H tv (rF c) mv) (hk:Ev K σ F H ty (rF Kt.cd) mk) (X:Ext Fe He F H) (hm:(mv.bind fun v=>mk.bind fun k=>WT l k v).bind f=some r)
  (k:∀ l' F' H',f l'=some r->Chg a F H F' H'->Ext Fe He F' H'->OwnDT K He F' H' c l' a->D.nx σ H'):jfL (Uv k') ty tv D σ H:=by
 obtain⟨l',el,hm⟩:=bind_some hm;obtain⟨x,ex,el⟩:=bind_some el;obtain⟨y,ey,el⟩:=bind_some el;unfold WT at el;obtain⟨hl,rfl⟩:=kX el;refine hv F H (Ext.refl X.sub) x ex _ fun v F2 H2 E hvv=>⟨_,hi,hk F2 H2 E y ey _ fun w F3 H3 E3 hw=>?_⟩;obtain⟨b,rfl,hb⟩:=Kt.get hw;have E':=E.trans E3;have o2:=o.mono E';obtain⟨kvs,h1,h2⟩:=o2.h;have h5:=jhe (k:=y) (c.mono E3.f hvv) h2;exact⟨a,_,rfl,DPut.t h1 (hb.mono fun _ _ z=>E3.sub _ _ z) (by rw[XY,<- h2.length]; exact hl),k _ F3 _ hm (GG E') ((X.trans E').upd o.e o2.f) ⟨o.e,o2.f,_,kR,h5⟩⟩
end
end L3
namespace L2
open PySem PySem.Spec
def jif:TS:=fun _ _ _=>False
theorem Vy {l:List Stmt}:PSs X l jif:=fun _ _ _ _ _ _ h=>h.elim
end L2
namespace L2
open PySem PySem.Spec PyProof.Rows
section
variable {K:Type} [DecidableEq K] {knd:KeyKind prog w K} 
def JT (e:Value->Value->Bool) (vs ws:List (K×Value)):Bool:=vs.length==ws.length&&vs.all fun kv=>((valueAt ws kv.1).map (e kv.2)).getD false
theorem Zy {es:List DictEntry}{kvs:List (K×Value)} (h:Pairs knd es kvs):∀ {i:Nat}{e:DictEntry},es[i]?=some e->∃ kv,kvs[i]?=some kv/\knd.is kv.1 e.key=true/\e.val=kv.2:=by
 induction h with
 | nil=>intro i e h; simp at h
 | @cons e0 kv0 es kvs h1 h2 _ ih=>
  intro i e h;cases i with
  | zero=>simp at h; subst h; exact ⟨kv0,by simp,h1,h2⟩
  | succ i=>simp at h; obtain⟨kv,q1,q2⟩:=ih h; exact ⟨kv,by simpa using q1,q2⟩
theorem Uc {id:String}{b:Addr}{vs ws:List (K×Value)}{e:Value->Value->Bool}{Q:Bool->Shared->Prop} (ha:(a==sysModules)=false) (hb:(b==sysModules)=false)
  (da:s.heap.DictOf knd a vs) (db:s.heap.DictOf knd b ws) (he:∀ kv∈vs,∀ kw∈ws,∀ {Q:Bool->Shared->Prop},Q (e kv.2 kw.2) s->wpAny (model prog w) A (eqBool kv.2 kw.2) Q E s) (h:Q (JT e vs ws) s) :
  wpAny (model prog w) A (Builtin.Dict.samePairs id a b) Q E s:=by
 obtain⟨oa,es,ep,ga,ca,hda,ka,pa,na⟩:=da;obtain⟨ob,fs,eq,gb,cb,hdb,kb,pb,nb⟩:=db;have la:es.size=vs.length:=by rw[<- pa.length]; simp
 have lb:fs.size=ws.length:=by rw[<- pb.length]; simp
 unfold Builtin.Dict.samePairs Builtin.Dict.showsAll;rw[if_neg (by rw[ha]; exact Xw),if_neg (by rw[hb]; exact Xw)];refine Xb (Xd (Xb (Xd (Xb (wpAny_dictEntries ga hda ?_)))));dsimp only;refine Xb (wpAny_dictEntries gb hdb ?_);by_cases hn:es.size=fs.size
 ·rw[if_neg (by simp[hn])];refine Xb (wpAny_dictEpoch ga hda ?_);refine Xb ?_;rw[Std.Legacy.Range.forIn_eq_forIn_range'];simp only[Std.Legacy.Range.size,Nat.sub_zero,Nat.add_sub_cancel,Nat.div_one];refine wpAny_forIn_list _ (fun rest r s'=>s'=s/\r=(none,())/\∃ i,rest=List.range' i (es.size-i)/\i<=es.size/\∀ j kv,j<i->vs[j]?=some kv->((valueAt ws kv.1).map (e kv.2)).getD false=true)
   _ ?_ ?_ _ _ ⟨rfl,rfl,0,by simp,wg _,fun _ _ h=>absurd h (Nat.not_lt_zero _)⟩
  ·rintro x rest _ s' ⟨rfl,rfl,i,hr,hi,hall⟩;have hlt:i<es.size:=by
    rcases Nat.lt_or_ge i es.size with h | h
    ·exact h
    ·rw[Nat.sub_eq_zero_of_le h] at hr; simp at hr
   obtain⟨rfl,hrest⟩:x=i/\rest=List.range' (i+1) (es.size-(i+1)):=by
    have e:es.size-i=(es.size-(i+1))+1:=by omega
    rw[e,List.range'_succ] at hr;injection hr with h1 h2
    exact⟨h1,h2⟩
   refine Xb (wpAny_dictEntries ga hda ?_);rw[Array.getElem?_eq_getElem hlt];obtain⟨kv,hkv,hkey,hval⟩:=Zy pa (i:=x) (e:=es[x]) (by simp[hlt]);have hmem:kv∈vs:=X8 hkv;have hh:es[x].hash=knd.hash kv.1:=by
    obtain⟨k',q1,q2⟩:=ka es[x] (Array.getElem_mem hlt);rw[q2,knd.inj _ _ _ q1 hkey]
   have hfind:=pb.find kv.1;dsimp only;refine Xb (wv (Xb ?_));rw[hh];refine wpAny_dictFind_of hkey gb hdb kb ?_;have step:((valueAt ws kv.1).map (e kv.2)).getD false=true->∀ j kv',j<x+1->vs[j]?=some kv'->((valueAt ws kv'.1).map (e kv'.2)).getD false=true:=fun hq j kv' hj hk=>by
    rcases Nat.lt_or_ge j x with h | h
    ·exact hall j kv' h hk
    ·have:j=x:=by omega
     subst this;rw[hkv] at hk;cases hk;exact hq
   have bad:((valueAt ws kv.1).map (e kv.2)).getD false=false->JT e vs ws=false:=fun hq=>by
    unfold JT;have:(vs.all fun kv=>((valueAt ws kv.1).map (e kv.2)).getD false)=false:=by
     rw[List.all_eq_false];exact⟨kv,hmem,by rw[hq]; exact Xw⟩
    rw[this,Bool.and_false]
   cases hf:fs.findIdx? fun f=>knd.is kv.1 f.key with
   | none=>
    have hv:valueAt ws kv.1=none:=by
     rw[<- hfind];have:fs.toList.find? (fun f=>knd.is kv.1 f.key)=none:=by
      rw[List.find?_eq_none];intro f hm;have:=Array.findIdx?_eq_none_iff.mp hf f (by simpa using hm);rw[this]; exact Xw
     rw[this]; rfl
    dsimp only;refine Xd (Xd ?_);dsimp only;have hb:=bad (by rw[hv]; rfl);rw[hb] at h;exact Xd h
   | some j=>
    obtain⟨hj,q1,q2⟩:=Array.findIdx?_eq_some_iff_getElem.mp hf;have hv:valueAt ws kv.1=some fs[j].val:=by
     rw[<- hfind];have:fs.toList.find? (fun f=>knd.is kv.1 f.key)=some fs[j]:=by
      rw[List.find?_eq_some_iff_getElem];exact⟨q1,j,by simpa using hj,by simp,fun m hm=>by simpa using q2 m hm⟩
     rw[this]; rfl
    obtain⟨kw,hkw,_,hw⟩:=Zy pb (i:=j) (e:=fs[j]) (by simp[hj]);dsimp only;refine Xb (wpAny_dictEntries gb hdb ?_);rw[Array.getElem?_eq_getElem hj];dsimp only;rw[hval,hw];refine wv (he kv hmem kw (X8 hkw) ?_);have hv':((valueAt ws kv.1).map (e kv.2)).getD false=e kv.2 kw.2:=by rw[hv,hw]; rfl
    cases hq:e kv.2 kw.2 with
    | false=>
     have hb:=bad (hv'.trans hq);rw[hb] at h;exact Xd (Xd h)
    | true=>
     rw[if_neg (by decide)];refine Xb (wpAny_dictEpoch ga hda ?_);rw[if_neg (by simp)];exact Xd ⟨rfl,rfl,x+1,hrest,hlt,step (hv'.trans hq)⟩
  ·rintro _ s' ⟨rfl,rfl,i,hr,hi,hall⟩;have hin:i=es.size:=by
    rcases Nat.lt_or_ge i es.size with h | h
    ·have e:es.size-i=(es.size-(i+1))+1:=by omega
     rw[e,List.range'_succ] at hr; exact nomatch hr
    ·exact Nat.le_antisymm hi h
   have ok:JT e vs ws=true:=by
    unfold JT;rw[XF];refine⟨by rw[<- la,<- lb]; simpa using hn,?_⟩;rw[X6];intro kv hm;obtain⟨j,hj,rfl⟩:=List.mem_iff_getElem.mp hm;exact hall j _ (by omega) (Xc hj)
   rw[ok] at h;exact Xd h
 ·rw[if_pos (by simp[hn])];have:JT e vs ws=false:=by
   unfold JT;have:(vs.length==ws.length)=false:=by rw[<- la,<- lb]; simpa using hn
   rw[this,Bool.false_and]
  rw[this] at h;exact Xb (wpAny_rule (Xd h))
end
def jig:V->V->Bool
 | .int i,.int j=>i==j
 | _,_=>false
def jih:Value->Value->Bool
 | .int i _,.int j _=>i==j
 | _,_=>false
def zT (kvs lvs:List (Key×V)):Bool:=kvs.length==lvs.length&&kvs.all fun kv=>((Ju lvs kv.1).map (jig kv.2)).getD false
def UB (kvs:List (Key×V)):Prop:=∀ kv∈kvs,∃ i,kv.2=.int i
def jii (vs:List (Key×Value)):Prop:=∀ kv∈vs,∃ i t,kv.2=.int i t
theorem YL:∀ {kvs:List (Key×V)}{vs:List (Key×Value)},KV kvs vs->UB kvs->jii vs
 | _,_,.nil,_=>fun _ h=>by cases h
 | p::kvs,q::vs,.cons r t,h=>fun kv hm=>by
  rcases List.mem_cons.mp hm with rfl | hm
  ·obtain⟨i,e⟩:=h p Xg;obtain⟨_,r2⟩:=r;rw[e] at r2;obtain⟨t,e2⟩:=r2;exact⟨i,t,e2⟩
  ·exact YL t (fun kv hm=>h kv (Xe _ hm)) kv hm
theorem UX (rw_:KV lvs ws) (hw:UB lvs):∀ {kvs:List (Key×V)}{vs:List (Key×Value)},KV kvs vs->UB kvs ->
  (vs.all fun kv=>((valueAt ws kv.1).map (jih kv.2)).getD false)=kvs.all fun kv=>((Ju lvs kv.1).map (jig kv.2)).getD false
 | _,_,.nil,_=>rfl
 | p::kvs,q::vs,.cons ⟨r1,r2⟩ t,h=>by
  rw[List.all_cons,List.all_cons,UX rw_ hw t fun kv hm=>h kv (Xe _ hm)];congr 1;obtain⟨i,e⟩:=h p Xg;rw[e] at r2;obtain⟨t1,e2⟩:=r2;have r:=rw_.val p.1;rw[<- r1,e,e2];cases e3:Ju lvs p.1 with
  | none=>
   rw[e3] at r;cases e4:valueAt ws p.1 with
   | none=>rfl
   | some u=>rw[e4] at r; exact r.elim
  | some y=>
   rw[e3] at r;cases e4:valueAt ws p.1 with
   | none=>rw[e4] at r; exact r.elim
   | some u=>
    rw[e4] at r;have hy:∃ j,y=.int j:=by
     unfold Ju at e3;obtain⟨kv,h1,h2⟩:=Option.map_eq_some_iff.mp e3;obtain⟨j,e5⟩:=hw kv (List.mem_of_find?_eq_some h1);exact⟨j,h2 ▸ e5⟩
    obtain⟨j,rfl⟩:=hy;obtain⟨t2,rfl⟩:=(show ∃ t,u=Value.int j t from r);rfl
theorem jcj {kvs:List (Key×V)}{vs:List (Key×Value)} (r:KV kvs vs) (r':KV lvs ws) (h:UB kvs) (h':UB lvs):JT jih vs ws=zT kvs lvs:=by
 unfold JT zT;rw[UX r' h' r h,Paired.length r,Paired.length r']
section
variable {b:Addr}{kvs:List (Key×V)} 
theorem Vz {id:String}{Q:Bool->Shared->Prop} (I:Inv X pins σ H s) (ea:Rd H a (.dK kvs)) (eb:Rd H b (.dK lvs)) (na:UB kvs) (nb:UB lvs) (h:Q (zT kvs lvs) s) :
  s.TypeIs (.ref a) "dict"/\s.TypeIs (.ref b) "dict"/\wpAny (model X.prog X.w) A (Builtin.Dict.samePairs id a b) Q E s:=by
 obtain⟨z1,m1,vs,r1,d1⟩:=jai I.hok ea;obtain⟨z2,m2,ws,r2,d2⟩:=jai I.hok eb;refine⟨d1.typeIs,d2.typeIs,Uc (e:=jih) m1 m2 d1 d2 (fun kv h1 kw h2 {Q} q=>?_) (by rw[jcj r1 r2 na nb]; exact h)⟩;obtain⟨i,t,e1⟩:=YL r1 na kv h1;obtain⟨j,t',e2⟩:=YL r2 nb kw h2;rw[e1,e2] at q ⊢;exact wpAny_eqBool_int q
def jhU (neg:Bool):R2:=fun x y H Q=>∃ a b kvs lvs,x=.ref a/\y=.ref b/\Rd H a (.dK kvs)/\Rd H b (.dK lvs)/\UB kvs/\UB lvs/\Q (.bl (if neg then !zT kvs lvs else zT kvs lvs)) H
theorem jck (g:∀ {A:Around}{E:Value->Shared->Prop}{id:String}{Q:Bool->Shared->Prop},Q (zT kvs lvs) s->s.TypeIs (.ref a) "dict"/\s.TypeIs (.ref b) "dict"/\wpAny (model prog w) A (Builtin.Dict.samePairs id a b) Q E s) :
  MeetsIn prog w (Builtin.«dict.__eq__» ⟨[.ref a,.ref b],[]⟩) (fun _ R s'=>s'=s/\R (.ok (.ret (.bool (zT kvs lvs)))) s):=
 .of_wp fun A R s' ⟨e,h⟩=>by
  subst e;obtain⟨ta,tb,_⟩:=g (A:=A) (E:=fun _ _=>True) (id:="") (Q:=fun _ _=>True) trivial;show wpAny _ _ (Builtin.Dict.dictSlotArgs "__eq__" ⟨[.ref a,.ref b],[]⟩ >>= _) _ _ s';unfold Builtin.Dict.dictSlotArgs;refine Xb (Xb (wpAny_notOrdered_dict ta ?_));refine Xd ?_;dsimp only;refine Xb (wpAny_isInstance tb isSubtype_dict_dict ?_);rw[if_neg (by decide)];refine Xb (Xd (Xb (Xd (Xb (g ?_).2.2))));rw[show (zT kvs lvs==true)=zT kvs lvs by cases zT kvs lvs <;> rfl];exact Xd ⟨_,rfl,h⟩
theorem jcl (g:∀ {A:Around}{E:Value->Shared->Prop}{id:String}{Q:Bool->Shared->Prop},Q (zT kvs lvs) s->s.TypeIs (.ref a) "dict"/\s.TypeIs (.ref b) "dict"/\wpAny (model prog w) A (Builtin.Dict.samePairs id a b) Q E s) :
  MeetsIn prog w (Builtin.«dict.__ne__» ⟨[.ref a,.ref b],[]⟩) (fun _ R s'=>s'=s/\R (.ok (.ret (.bool (!zT kvs lvs)))) s):=
 .of_wp fun A R s' ⟨e,h⟩=>by
  subst e;obtain⟨ta,tb,_⟩:=g (A:=A) (E:=fun _ _=>True) (id:="") (Q:=fun _ _=>True) trivial;show wpAny _ _ (Builtin.Dict.dictSlotArgs "__ne__" ⟨[.ref a,.ref b],[]⟩ >>= _) _ _ s';unfold Builtin.Dict.dictSlotArgs;refine Xb (Xb (wpAny_notOrdered_dict ta ?_));refine Xd ?_;dsimp only;refine Xb (wpAny_isInstance tb isSubtype_dict_dict ?_);rw[if_neg (by decide)];refine Xb (Xd (Xb (Xd (Xb (g ?_).2.2))));rw[show (zT kvs lvs==false)=!zT kvs lvs by cases zT kvs lvs <;> rfl];exact Xd ⟨_,rfl,h⟩
theorem jeL (hu:X.A.units+200<cLine):OpR X (compareOp .Eq) (jhU false):=by
 intro pins s σ H x y v u Q I rx ry h;obtain⟨a,b,kvs,lvs,rfl,rfl,ea,eb,na,nb,q⟩:=h;cases rx;cases ry;obtain⟨ta,tb,_⟩:=Vz (A:=X.A) (E:=X.xe) (id:="") (Q:=fun _ _=>True) I ea eb na nb trivial;exact wpAny_richCompare_same_room (op:=.Eq) ta tb F.slot_dict_eq (call_meetsIn F.slot_dict_eq ta F.entry_dict_eq (F.args_dict_eq_2 _ _) (jck fun q=>Vz I ea eb na nb q) ⟨rfl,show Value.bool (zT kvs lvs)≠.notImplemented/\EP X pins σ Q (.bool (zT kvs lvs)) s from ⟨(fun z=>nomatch z),.bl _,H,I,rfl,q⟩⟩) (by omega)
theorem jeM (hu:X.A.units+200<cLine):OpR X (compareOp .NotEq) (jhU true):=by
 intro pins s σ H x y v u Q I rx ry h;obtain⟨a,b,kvs,lvs,rfl,rfl,ea,eb,na,nb,q⟩:=h;cases rx;cases ry;obtain⟨ta,tb,_⟩:=Vz (A:=X.A) (E:=X.xe) (id:="") (Q:=fun _ _=>True) I ea eb na nb trivial;exact wpAny_richCompare_same_room (op:=.NotEq) ta tb F.slot_dict_ne (call_meetsIn F.slot_dict_ne ta F.entry_dict_ne (F.args_dict_ne_2 _ _) (jcl fun q=>Vz I ea eb na nb q) ⟨rfl,show Value.bool (!zT kvs lvs)≠.notImplemented/\EP X pins σ Q (.bool (!zT kvs lvs)) s from ⟨(fun z=>nomatch z),.bl _,H,I,rfl,q⟩⟩) (by omega)
end
end L2
namespace L3
open PySem PySem.Spec L2
@[irreducible] def JU (l m:List (Int×Int)):Bool:=l.length==m.length&&l.all fun p=>((Qe m p.1).map fun x=>p.2==x).getD false
section
variable {F:Hp}{t te:TE}{c:Cd α} 
theorem Ud:∀ {l:List (Int×Int)}{kvs:List (Key×V)},Paired (KvR K F cI) l kvs->UB kvs
 | _,_,.nil=>fun _ h=>by cases h
 | p::l,q::kvs,.cons ⟨_,r⟩ s=>fun kv hm=>by
  rcases List.mem_cons.mp hm with rfl | hm
  ·exact⟨p.2,r⟩
  ·exact Ud s kv hm
theorem jeN {m:List (Int×Int)} (hm:Paired (KvR K F cI) m lvs):∀ {l:List (Int×Int)}{kvs:List (Key×V)},Paired (KvR K F cI) l kvs ->
  (kvs.all fun kv=>((Ju lvs kv.1).map (jig kv.2)).getD false)=l.all fun p=>((Qe m p.1).map fun x=>p.2==x).getD false
 | _,_,.nil=>rfl
 | p::l,q::kvs,.cons ⟨r1,r2⟩ s=>by
  rw[List.all_cons,List.all_cons,jeN hm s,r1,show q.2=.int p.2 from r2];congr 1;rcases Zu (k:=p.1) hm with⟨h1,h2⟩ | ⟨x,v,h1,h2,h3⟩
  ·rw[h1,h2]; rfl
  ·rw[h1,h2,show v=.int x from h3]; rfl
theorem jcm {l m:List (Int×Int)}{kvs:List (Key×V)} (h:Paired (KvR K F cI) l kvs) (hm:Paired (KvR K F cI) m lvs):zT kvs lvs=JU l m:=by
 unfold zT JU;rw[jeN hm h,h.length,hm.length]
theorem jhf:Op2 K (jhU false) (pD (κ:=Int) cI) (pD (κ:=Int) cI) (rF cB) (fun l m=>some (JU l m)):=by
 intro F H l m x y s hx hy z hz Q k;cases hz;obtain⟨a,kvs,rfl,h1,h2⟩:=hx;obtain⟨b,lvs,rfl,h3,h4⟩:=hy;refine⟨a,b,kvs,lvs,rfl,rfl,.inl h1,.inl h3,Ud h2,Ud h4,?_⟩;rw[jcm h2 h4];exact k _ F H (Ext.refl s) rfl
theorem jhg:Op2 K (jhU true) (pD (κ:=Int) cI) (pD (κ:=Int) cI) (rF cB) (fun l m=>some (!JU l m)):=by
 intro F H l m x y s hx hy z hz Q k;cases hz;obtain⟨a,kvs,rfl,h1,h2⟩:=hx;obtain⟨b,lvs,rfl,h3,h4⟩:=hy;refine⟨a,b,kvs,lvs,rfl,rfl,.inl h1,.inl h3,Ud h2,Ud h4,?_⟩;rw[jcm h2 h4];exact k _ F H (Ext.refl s) rfl
theorem jcn [DecidableEq κ] [Kk κ] {F:Hp}{a:List (κ×α)}{x:V} (s:Same F H) (h:(pD c).rel K F H a x):TyOf K H x (.type "dict"):=by
 obtain⟨p,xs,rfl,h1,_⟩:=h;exact .dK h1
theorem Qv:∀ {l:List α}{xs:List β},Paired R l xs->∀ j,Paired R (l.eraseIdx j) (xs.eraseIdx j)
 | _,_,.nil,_=>.nil
 | _,_,.cons _ r,0=>r
 | _,_,.cons h r,j+1=>.cons h (Qv r j)
variable {cs:Ecs}{f:Nat}
end
end L3
namespace L2
open PySem PySem.Spec PyProof.Rows
def jiX (t1 t2:TS):TS:=fun D σ H=>t1 D σ H \/ t2 D σ H
theorem jfQ {l:List Stmt}{t1 t2:TS} (h1:PSs X l t1) (h2:PSs X l t2):PSs X l (jiX t1 t2):=fun a b c d e f h=>h.elim (h1 a b c d e f) (h2 a b c d e f)
end L2
namespace L3
open PySem PySem.Spec L2
section
variable [DecidableEq κ] [Kt κ] {F:Hp}{c:Cd α}
theorem jco (hk:Ev K σ F H ty (rF Kt.cd) mk) (hd:Ev K σ F H td (pDT c).rs ml) (e_:mm_=(mk.bind fun k=>ml.bind fun l=>some (!isK k l))):Ev K σ F H (Ua ty td) (rF cB) mm_:=by
 subst e_;intro F1 H1 E z e Q k;obtain⟨y,ey,e⟩:=bind_some e;obtain⟨l,el,e⟩:=bind_some e;cases e;refine hk F1 H1 E y ey _ fun v F2 H2 E2 hv=>hd F2 H2 (E.trans E2) l el _ ?_;rintro w F3 H3 E3 ⟨a,kvs,rfl,h1,h2⟩;obtain⟨b,rfl,hb⟩:=Kt.get (Kt.cd.mono E3.f hv);refine⟨a,Ju kvs (Kt.k y),rfl,DGet.t h1 (hb.mono fun _ _ z=>E3.sub _ _ z),?_⟩;refine k _ F3 H3 (E2.trans E3) ?_;show V.bl (!(Ju kvs (Kt.k y)).isSome)=V.bl (!isK y l);unfold isK;rcases jeI (k:=y) h2 with⟨g1,g2⟩ | ⟨x,v,g1,g2,_⟩ <;> rw[g1,g2] <;> rfl
theorem YM {y:κ}{l:List (κ×α)} (hk:Ev K σ F H ty (rF Kt.cd) (some y)) (hd:Ev K σ F H td (pDT c).rs (some l)) (e_:mm_=some (!isK y l)):Ev K σ F H (Ua ty td) (rF cB) mm_:=jco hk hd e_
end
section
variable {F:Hp}{t te ti:TE}{c:Cd α} 
@[irreducible] def Ue (l:List α) (i:Int):Option (α×List α):=
 if 0<=i/\i<1000000 then (l[i.toNat]?).bind fun x=>some (x,l.eraseIdx i.toNat) else none
theorem WW {j':Nat}{b:Addr}{m:List α}{f:List α×List α->Option δ} (hi:σ[k']?=some (some (.ref a))) (hj:σ[j']?=some (some (.ref b))) (o:Own K He F H c l a) (o2:Own K He F H c m b) (ne:a≠b) (he:Ev K σ F H te (rF cI) mi) (X:Ext Fe He F H)
  (hm:(mi.bind fun i=>(Ue m i).bind fun z=>(JN l z.1).bind fun l'=>some (l',z.2)).bind f=some r)
  (k:∀ l' m' F' H1 H',f (l',m')=some r->Chg b F H F' H1->Chg a F' H1 F' H'->Ext Fe He F' H'->Own K He F' H' c l' a->Own K He F' H' c m' b->D.nx σ H'):Wr (tBM K "list" Qa (Uv k') (ki (tBM K "list" jeo (Uv j') (ki te yi)) yi)) D σ H:=by
 obtain⟨q,eq,hm⟩:=bind_some hm;obtain⟨i,ei,eq⟩:=bind_some eq;obtain⟨z,ez,eq⟩:=bind_some eq;obtain⟨l',el,eq⟩:=bind_some eq;cases eq;unfold Ue at ez;by_cases hc:0<=i/\i<1000000
 ·rw[if_pos hc] at ez;obtain⟨x,ex,ez⟩:=bind_some ez;cases ez;unfold JN at el;obtain⟨hl,rfl⟩:=kX el;obtain⟨xs,h1,h2⟩:=o.h;obtain⟨ys,h3,h4⟩:=o2.h;refine⟨_,hi,.inl ⟨rfl,_,SqL.of h1⟩,_,hj,.inl ⟨rfl,_,SqL.of h3⟩,he F H (Ext.refl X.sub) i ei _ ?_⟩;rintro v F2 H2 E rfl;have oE:=o.mono E;have o2E:=o2.mono E;have h2':Paired (c.rep K F2) l xs:=Paired.mapP h2 fun _ _=>c.mono E.f;have h4':Paired (c.rep K F2) m ys:=Paired.mapP h4 fun _ _=>c.mono E.f;obtain⟨y,ey,ry⟩:=L3.Paired.at h4' ex;have hlen:i.toNat<ys.length:=(List.getElem?_eq_some_iff.mp ey).1;refine⟨b,ys,i,i.toNat,y,rfl,rfl,E.h _ _ h3,by omega,by omega,?_,ey,?_⟩
  ·have:ixN ys.length i=some i.toNat:=by unfold ixN; rw[if_pos hc.1,if_pos (by omega)]
   exact(Yn this).1
  obtain⟨X',o2'⟩:=Vj (K:=K) (c:=c) (X.trans E) o2.e o2E.f (Qv h4' i.toNat);have hlt:upd H2 b (.lst (ys.eraseIdx i.toNat)) a=some (.lst xs):=by rw[qp ne]; exact E.h _ _ h1
  refine⟨a,xs,y,rfl,rfl,hlt,by rw[XY,<- h2.length]; exact hl,?_⟩;obtain⟨X'',o'⟩:=Vj (K:=K) (c:=c) X' o.e oE.f (Paired.app h2' (.cons ry .nil));exact k _ _ F2 _ _ hm (GG E) (GG (Ext.refl X'.sub)) X'' o' (o2'.chg (GG (Ext.refl X'.sub)) (Ne.symm ne))
 ·rw[if_neg hc] at ez; cases ez
def cLn (N:Hp) (c:Cd α):Cd (List α):=⟨fun K H l v=>(cL c).rep K H l v/\∃ b,v=.ref b/\N b=none,fun s h=>⟨(cL c).mono s h.1,h.2⟩⟩
theorem Paired.imp {S:α->β->Prop}:∀ {l:List α}{xs:List β},Paired R l xs->(∀ a x,R a x->S a x)->Paired S l xs
 | _,_,.nil,_=>.nil
 | _,_,.cons h t,f=>.cons (f _ _ h) (Paired.imp t f)
def rN (c:Cd α):Rs (List (List α)):=⟨fun K H F2 H2 l v=>∃ a xs,v=.ref a/\H a=none/\F2 a=none/\H2 a=some (.lst xs)/\Paired ((cLn H c).rep K F2) l xs,
 fun s ⟨a,xs,h1,h2,h3,h4,h5⟩=>⟨a,xs,h1,s.free h2,h3,h4,L3.Paired.imp h5 fun _ _ ⟨q,b,e,hb⟩=>⟨q,b,e,s.free hb⟩⟩⟩
theorem jfR {f:List α->Option δ} (he:Ev K σ F H te (rO c) m) (X:Ext Fe He F H) (hm:m.bind f=some r) (k:∀ l v F' H',f l=some r->Ext F H F' H'->Ext Fe He F' H'->(cLn He c).rep K F' l v->D.nx (σ.set i (some v)) H'):U4 te (xq i) D σ H:=by
 obtain⟨a,ea,hm⟩:=bind_some hm;refine he F H (Ext.refl X.sub) a ea _ ?_;rintro v F2 H2 E ⟨b,xs,rfl,h1,h2,h3,h4⟩;have E':Ext F H (upd F2 b (.lst xs)) H2:=E.frz h1 h2 h3;exact k a _ _ H2 hm E' (X.trans E') ⟨⟨b,xs,rfl,kR,Paired.mapP h4 fun _ _=>c.mono (qU h2)⟩,b,rfl,X.h.free h1⟩
theorem jeO {f:List α->Option δ} (he:Ev K σ F H te (rO c) m) (X:Ext Fe He F H) (hm:m.bind f=some r) (k:∀ l v F' H',f l=some r->Ext F H F' H'->Ext Fe He F' H'->(cLn He c).rep K F' l v->u' D (σ.set i (some v)) H'):Uw (U4 te (xq i)) u' D σ H:=
 jfR (D:={ D with nx:=u' D }) he X hm k
theorem jhh {N:Hp} (h:Ev K σ F H t (rF (cLn N c)) m):Ev K σ F H t (rF (cL c)) m:=JM h fun _ h=>h.1
theorem WX {N:Hp}{m:Option (List (List α))} (h:Ev K σ F H t (rF (cL (cLn N c))) m):Ev K σ F H t (rF (cL (cL c))) m:=
 JM h fun _ ⟨a,xs,h1,h2,h3⟩=>⟨a,xs,h1,h2,L3.Paired.imp h3 fun _ _ h=>h.1⟩
theorem jcp {l r:List (List α)} (hi:σ[i]?=some (some (.ref a))) (o:Own K He F H (cLn He c) l a) (X:Ext Fe He F H) (hm:some l=some r) (k:∀ v F' H',Ext Fe He F' H'->(rN c).rel K He F' H' r v->D.rt v H'):jgx (Uv i) D σ H:=by
 cases hm;obtain⟨xs,h1,h2⟩:=o.h;exact⟨_,hi,k _ F H X ⟨a,xs,rfl,o.e,o.f,h1,h2⟩⟩
theorem jcq {m:Option (List (List α))}{f:List (List α)->Option δ} (he:Ev K σ F H te (rN c) m) (X:Ext Fe He F H) (hm:m.bind f=some r) (k:∀ l v F' H',f l=some r->Ext F H F' H'->Ext Fe He F' H'->(cL (cLn H c)).rep K F' l v->u' D (σ.set i (some v)) H'):Uw (U4 te (xq i)) u' D σ H:=by
 obtain⟨a,ea,hm⟩:=bind_some hm;refine he F H (Ext.refl X.sub) a ea _ ?_;rintro v F2 H2 E ⟨b,xs,rfl,h1,h2,h3,h4⟩;have E':Ext F H (upd F2 b (.lst xs)) H2:=E.frz h1 h2 h3;exact k a _ _ H2 hm E' (X.trans E') ⟨b,xs,rfl,kR,Paired.mapP h4 fun _ _=>(cLn H c).mono (qU h2)⟩
@[irreducible] def jgm (l:List (List α)):Option Unit:=(l[0]?).bind fun x=>if x.length<16777216 then some () else none
theorem jcr {n:Int}{l:List (List α)}{f:Unit->Option δ} (hi:σ[i]?=some (some v)) (hp:(cL (cLn H1 c)).rep K F l v) (X1:Ext Fe He F1 H1) (E:Ext F1 H1 F H) (hm:(jgm l).bind f=some r)
  (k:∀ F' H',f ()=some r->Same F1 F'->Same F' F->Ext Fe He F' H'->(∀ b kvs,H b=some (.dK kvs)->H' b=some (.dK kvs))->u' D σ H'):Uw (Wr (tBM K "list" Qa (tOp (jh4 K) (Uv i) (tC (.int 0))) (ki (tC (.int n)) yi))) u' D σ H:=by
 obtain⟨q,eq,hm⟩:=bind_some hm;unfold jgm at eq;obtain⟨x,ex,eq⟩:=bind_some eq;obtain⟨hl,-⟩:=kX eq;obtain⟨a,xs,rfl,h1,h2⟩:=hp;obtain⟨y,ey,⟨⟨p,ys,rfl,h3,h4⟩,b,eb,hb⟩⟩:=L3.Paired.at h2 ex;cases eb;have hy:atI xs 0=some (.ref p):=by
  have hl:0<xs.length:=(List.getElem?_eq_some_iff.mp ey).1;have:ixN xs.length 0=some 0:=by unfold ixN; rw[if_pos (by omega),if_pos (by omega)]; rfl
  unfold atI;rw[this];exact ey
 have hps:=E.sub _ _ h3;refine⟨_,hi,a,xs,0,.ref p,rfl,rfl,SqL.of (E.sub _ _ h1),hy,.inl ⟨rfl,_,SqL.of hps⟩,p,ys,.int n,rfl,rfl,hps,by rw[XY,<- h4.length]; exact hl,?_⟩;have f1:F1 p=none:=X1.sub.free hb;have e1:He p=none:=X1.h.free hb;refine k F1 _ hm (Same.refl _) E.f ⟨X1.f,Same.upd2 (X1.h.trans E.h) e1,X1.new,Same.upd2 (X1.sub.trans E.h) f1⟩ fun b kvs hk=>?_;rw[qp fun z=>by subst z; rw[hps] at hk; cases hk];exact hk
theorem nx' {N:St->Hp->Prop}{r:VK}{b e:St->Hp->Prop} (h:N σ H):(Ends.mk N r b e).nx σ H:=h
theorem OwnD.spoil [DecidableEq κ] [Kk κ] {l:List (κ×Int)} (o:OwnD K He F H cI l a) (s:Same F1 F) (h:∀ b kvs,H b=some (.dK kvs)->H' b=some (.dK kvs)):OwnD K He F1 H' cI l a:=by
 obtain⟨kvs,h1,h2⟩:=o.h;refine⟨o.e,s.free o.f,kvs,h _ _ h1,L3.Paired.imp h2 fun _ _ z=>z⟩
end
end L3
namespace MM
open PySem L2 L3
section
theorem jhi {f:α->Option β}{a:α} (x:Option α) (e:x=some a):x.bind f=f a:=by rw[e]; rfl
theorem bs {f:α->Option β}{a:α}:(some a).bind f=f a:=jhi _ rfl
theorem jhj {a b:α} (x:Bool) (e:x=true):(bif x then a else b)=a:=by rw[e]; rfl
theorem ct {a b:α}:(bif true then a else b)=a:=jhj _ rfl
theorem jhk {a b:α} (x:Bool) (e:x=false):(bif x then a else b)=b:=by rw[e]; rfl
theorem cf {a b:α}:(bif false then a else b)=b:=jhk _ rfl
theorem isIn_iff [DecidableEq α] {a:α} :QZ a l=true ↔ a∈l:=by unfold QZ; exact decide_eq_true_iff
theorem isEq_iff [DecidableEq α] {a b:α}:Ys a b=true ↔ a=b:=by unfold Ys; exact decide_eq_true_iff
theorem isEq_self [DecidableEq α] (a:α):Ys a a=true:=isEq_iff.mpr rfl
theorem rng (h:n<=1000000000):yr 0 (n:Int)=some ((List.range n).map fun k=>((k:Nat):Int)):=by
 unfold yr;rw[if_pos ⟨by omega,by omega,by omega,by omega⟩];unfold Jm;rw[Int.sub_zero,Int.toNat_natCast];congr 2
 funext k
 omega
theorem rng2 {a b:Nat} (h:b<=1000000000) (ha:a<=1000000000):yr (a:Int) (b:Int)=some ((List.range (b-a)).map fun k=>((a+k:Nat):Int)):=by
 unfold yr;rw[if_pos ⟨by omega,by omega,by omega,by omega⟩];unfold Jm;have:((b:Int)-(a:Int)).toNat=b-a:=by omega
 rw[this];congr 2
theorem at_nat {x:α} (h:l[i]?=some x):pAt l (i:Int)=some x:=by unfold pAt; exact jfd h
theorem at_get (h:i<l.length):pAt l (i:Int)=some l[i]:=at_nat (List.getElem?_eq_getElem h)
theorem app {x:α} (h:l.length<16777216):JN l x=some (l++[x]):=by unfold JN; exact if_pos h
theorem cat {m:List α} (h:l.length+m.length<=16777216):Vi l m=some (l++m):=by unfold Vi; exact if_pos h
theorem modP {i:Int} (h:0<j):WJ i j=some (i % j):=Zm h
theorem divP {i:Int} (h:0<j) (h2:j<2 ^ 250):jfj i j=some (i / j):=Zl ⟨h,Int.lt_trans h2 (by have:(2:Nat) ^ 250<2 ^ 1000:=Nat.pow_lt_pow_right (by decide) (by decide); exact_mod_cast this)⟩
theorem comp {p:α->Option Bool}{f:α->Option β} (q:α->Bool) (g:α->β) (hl:l.length<=16777216) (hp:∀ x∈l,p x=some (q x)) (hf:∀ x∈l,q x=true->f x=some (g x)):qa l p f=some ((l.filter q).map g):=by
 unfold qa;rw[if_pos hl];clear hl
 induction l with
 | nil=>rfl
 | cons x r ih=>
  unfold Yx;have ih':=ih (fun y hy=>hp y (List.mem_cons_of_mem _ hy)) fun y hy=>hf y (List.mem_cons_of_mem _ hy);rw[hp x List.mem_cons_self,Option.bind_some,ih'];cases h:q x with
  | true=>rw[hf x List.mem_cons_self h]; simp[h]
  | false=>simp[h]
theorem comp1 {f:α->Option β} (g:α->β) (hl:l.length<=16777216) (hf:∀ x∈l,f x=some (g x)):qa l (fun _=>some true) f=some (l.map g):=by
 rw[comp (fun _=>true) g hl (fun _ _=>rfl) fun x hx _=>hf x hx,List.filter_eq_self.mpr (fun _ _=>rfl)]
theorem compR {p:Int->Option Bool}{f:Int->Option β} (q:Nat->Bool) (g:Nat->β) (hn:n<=1000000) (hp:∀ k,k<n->p (k:Int)=some (q k)) (hf:∀ k,k<n->q k=true->f (k:Int)=some (g k)) :
  qa ((List.range n).map fun k=>((k:Nat):Int)) p f=some (((List.range n).filter q).map g):=by
 rw[comp (fun x=>q x.toNat) (fun x=>g x.toNat) (by simp; omega)]
 ·rw[List.filter_map,List.map_map];simp[Function.comp_def]
 ·intro x hx;obtain⟨k,hk,rfl⟩:=List.mem_map.mp hx;rw[hp k (List.mem_range.mp hk),Int.toNat_natCast]
 ·intro x hx h;obtain⟨k,hk,rfl⟩:=List.mem_map.mp hx;rw[Int.toNat_natCast] at h ⊢;exact hf k (List.mem_range.mp hk) h
theorem compR1 {f:Int->Option β} (g:Nat->β) (hn:n<=1000000) (hf:∀ k,k<n->f (k:Int)=some (g k)) :
  qa ((List.range n).map fun k=>((k:Nat):Int)) (fun _=>some true) f=some ((List.range n).map g):=by
 rw[compR (fun _=>true) g hn (fun _ _=>rfl) fun k hk _=>hf k hk,List.filter_eq_self.mpr (fun _ _=>rfl)]
theorem forM_cons {x:α}{r:List α}{b:β}:L3.forM (x::r) b f=(f b x).bind fun b'=>L3.forM r b' f:=rfl
theorem forM_nil {b:β}:L3.forM ([]:List α) b f=some b:=rfl
theorem Zz (I:Nat->β->Prop) (h0:I 0 b0) (hs:∀ k x b,l[k]?=some x->I k b->∃ b',f b x=some b'/\I (k+1) b'):∃ b',L3.forM l b0 f=some b'/\I l.length b':=by
 induction l generalizing b0 I with
 | nil=>exact ⟨b0,rfl,h0⟩
 | cons x r ih=>
  obtain⟨b1,e1,i1⟩:=hs 0 x b0 rfl h0;obtain⟨b2,e2,i2⟩:=ih (fun k b=>I (k+1) b) i1 fun k y b hk hi=>hs (k+1) y b (by simpa using hk) hi;exact⟨b2,by rw[forM_cons,e1]; exact e2,by simpa using i2⟩
theorem jam {f:β->Int->Option β} (I:Nat->β->Prop) (h0:I 0 b0) (hs:∀ k b,k<n->I k b->∃ b',f b (k:Int)=some b'/\I (k+1) b'):∃ b',L3.forM ((List.range n).map fun k=>((k:Nat):Int)) b0 f=some b'/\I n b':=by
 obtain⟨b',e,i⟩:=Zz (l:=(List.range n).map fun k=>((k:Nat):Int)) (f:=f) I h0 fun k x b hk hi=>by
  rw[List.getElem?_map] at hk;by_cases hlt:k<n
  ·rw[List.getElem?_range hlt] at hk;cases hk;exact hs k b hlt hi
  ·rw[List.getElem?_eq_none (by simp; omega)] at hk;cases hk
 exact⟨b',e,by simpa using i⟩
theorem forM_then {f:β->Int->Option β}{R:Option δ->Prop} (I:Nat->β->Prop) (h0:I 0 b0) (hs:∀ k b,k<n->I k b->∃ b',f b (k:Int)=some b'/\I (k+1) b') (hk:∀ b,I n b->R (kk b)) :
  R ((L3.forM ((List.range n).map fun k=>((k:Nat):Int)) b0 f).bind kk):=by
 obtain⟨b,e,i⟩:=jam (f:=f) I h0 hs;rw[e];exact hk b i
theorem forM_thenL {R:Option δ->Prop} (I:Nat->β->Prop) (h0:I 0 b0) (hs:∀ k x b,l[k]?=some x->I k b->∃ b',f b x=some b'/\I (k+1) b') (hk:∀ b,I l.length b->R (kk b)) :
  R ((L3.forM l b0 f).bind kk):=by
 obtain⟨b,e,i⟩:=Zz (f:=f) I h0 hs;rw[e];exact hk b i
theorem jcs {f:β->α->Option (Fl β γ)}{x:α}{r:List α}{b b':β} (h:f b x=some (.nx b')):Yw (x::r) b f=Yw r b' f:=by
 show (f b x).bind _=_;rw[h];rfl
theorem forR_inv {f:β->α->Option (Fl β γ)} (I:Nat->β->Prop) (h0:I 0 b0) (hs:∀ k x b,l[k]?=some x->I k b->∃ b',f b x=some (.nx b')/\I (k+1) b'):∃ b',Yw l b0 f=some (.nx b')/\I l.length b':=by
 induction l generalizing b0 I with
 | nil=>exact ⟨b0,rfl,h0⟩
 | cons x r ih=>
  obtain⟨b1,e1,i1⟩:=hs 0 x b0 rfl h0;obtain⟨b2,e2,i2⟩:=ih (fun k b=>I (k+1) b) i1 fun k y b hk hi=>hs (k+1) y b (by simpa using hk) hi;exact⟨b2,by rw[jcs e1]; exact e2,by simpa using i2⟩
theorem jct {f:Unit->α->Option (Fl Unit γ)} (h:∀ x∈l,f () x=some (.nx ())):Yw l () f=some (.nx ()):=by
 obtain⟨b',e,_⟩:=forR_inv (f:=f) (l:=l) (b0:=()) (fun _ _=>True) trivial fun k x b hx _=>⟨(),h x (List.mem_of_getElem? hx),trivial⟩;cases b';exact e
theorem jfS {x:Int} (h:x∈(List.range n).map fun k=>((k:Nat):Int)):∃ k,k<n/\x=(k:Int):=by
 obtain⟨k,hk,e⟩:=List.mem_map.mp h;exact⟨k,List.mem_range.mp hk,e.symm⟩
theorem forR_rng {f:Unit->Int->Option (Fl Unit γ)} (h:∀ k:Nat,k<n->f () (k:Int)=some (.nx ())):Yw ((List.range n).map fun k=>((k:Nat):Int)) () f=some (.nx ()):=jct fun x hx=>by
 obtain⟨k,hk,rfl⟩:=jfS hx;exact h k hk
theorem shl1 {t:Nat} (h:t<=1000):jet 1 (t:Int)=some ((2 ^ t:Nat):Int):=by
 rw[jdx ⟨by omega,by omega,by decide⟩,Int.toNat_natCast];simp
theorem shr {b t:Nat}:jfk (b:Int) (t:Int)=some ((b / 2 ^ t:Nat):Int):=by
 rw[jdy (by omega),Int.toNat_natCast];simp[Int.natCast_ediv]
end
end MM
namespace L3
open PySem PySem.Spec L2
theorem Ext.xc {α:Type}{c:Cd α}{K:W.Frag}{F H F' H':Hp}{a:α}{v:V} (E:Ext F H F' H') (h:c.rep K F a v):c.rep K F' a v:=Cd.mono _ E.f h
theorem Ext.xd {G F H F' H':Hp} (E:Ext F H F' H') (h:Same G F):Same G F':=Same.trans h E.f
theorem Ext.xb {α:Type}{c:Cd α}{K:W.Frag}{He F H F' H':Hp}{a:List α}{v:V} (E:Ext F H F' H') (h:Bor K He F c a v):Bor K He F' c a v:=Bor.mono h E.f
end L3
namespace Lw
open PySem L2 L3
structure MOrder where
 many:Int
 beneath:(List Int)
 neighbours:(List (Int×Int))
def zH (u1 u2 u3:V):List (Str×V):=(Qq "neighbours" u3 (Qq "beneath" u2 (Qq "many" u1 [])))
def jA (C:Addr):Cd MOrder:=⟨fun K H o v=>∃ a dx u1 u2 u3,v=.ref a/\H a=some (.ins C dx (zH u1 u2 u3))/\cI.rep K H o.many u1/\(cT cI).rep K H o.beneath u2/\(cT (cP cI cI)).rep K H o.neighbours u3,fun s ⟨a,dx,u1,u2,u3,e,h,r1,r2,r3⟩=>⟨a,dx,u1,u2,u3,e,s _ _ h,Cd.mono _ s r1,Cd.mono _ s r2,Cd.mono _ s r3⟩⟩
structure Txt_Order (K:W.Frag) (mg:Str->Option Value) (C:Addr):Prop where
 cl:Cls K C
 n_many:NoAttr K C "many"
 n_beneath:NoAttr K C "beneath"
 n_neighbours:NoAttr K C "neighbours"
theorem Jn (T:Txt_Order K mg C):Uz K (jA C) "many" cI (fun o=>o.many):=fun⟨a,dx,u1,u2,u3,e,h,r1,r2,r3⟩=>⟨a,C,dx,_,u1,e,h,T.cl,T.n_many,by unfold zH; rw[jY,if_neg (by decide +kernel),jY,if_neg (by decide +kernel),jY,if_pos rfl],r1⟩
theorem xV (T:Txt_Order K mg C):Uz K (jA C) "beneath" (cT cI) (fun o=>o.beneath):=fun⟨a,dx,u1,u2,u3,e,h,r1,r2,r3⟩=>⟨a,C,dx,_,u2,e,h,T.cl,T.n_beneath,by unfold zH; rw[jY,if_neg (by decide +kernel),jY,if_pos rfl],r2⟩
theorem yT (T:Txt_Order K mg C):Uz K (jA C) "neighbours" (cT (cP cI cI)) (fun o=>o.neighbours):=fun⟨a,dx,u1,u2,u3,e,h,r1,r2,r3⟩=>⟨a,C,dx,_,u3,e,h,T.cl,T.n_neighbours,by unfold zH; rw[jY,if_pos rfl],r3⟩
theorem Gm:Zf (jA C) C "size":=fun⟨a,dx,u1,u2,u3,e,h,_⟩=>⟨a,dx,_,e,h,by unfold zH; rw[jY,if_neg (by decide +kernel),jY,if_neg (by decide +kernel),jY,if_neg (by decide +kernel)]; rfl⟩
theorem yU:Zf (jA C) C "check_thing":=fun⟨a,dx,u1,u2,u3,e,h,_⟩=>⟨a,dx,_,e,h,by unfold zH; rw[jY,if_neg (by decide +kernel),jY,if_neg (by decide +kernel),jY,if_neg (by decide +kernel)]; rfl⟩
theorem zh:Zf (jA C) C "just_above":=fun⟨a,dx,u1,u2,u3,e,h,_⟩=>⟨a,dx,_,e,h,by unfold zH; rw[jY,if_neg (by decide +kernel),jY,if_neg (by decide +kernel),jY,if_neg (by decide +kernel)]; rfl⟩
theorem zi:Zf (jA C) C "just_below":=fun⟨a,dx,u1,u2,u3,e,h,_⟩=>⟨a,dx,_,e,h,by unfold zH; rw[jY,if_neg (by decide +kernel),jY,if_neg (by decide +kernel),jY,if_neg (by decide +kernel)]; rfl⟩
structure MGreat where
 order:MOrder
def VA (u1:V):List (Str×V):=(Qq "order" u1 [])
def xz (jd:Addr) (C:Addr):Cd MGreat:=⟨fun K H o v=>∃ a dx u1,v=.ref a/\H a=some (.ins C dx (VA u1))/\(jA jd).rep K H o.order u1,fun s ⟨a,dx,u1,e,h,r1⟩=>⟨a,dx,u1,e,s _ _ h,Cd.mono _ s r1⟩⟩
structure Txt_Great (K:W.Frag) (mg:Str->Option Value) (C:Addr):Prop where
 cl:Cls K C
 n_order:NoAttr K C "order"
theorem Uf (T:Txt_Great K mg C):Uz K (xz jd C) "order" (jA jd) (fun o=>o.order):=fun⟨a,dx,u1,e,h,r1⟩=>⟨a,C,dx,_,u1,e,h,T.cl,T.n_order,by unfold VA; rw[jY,if_pos rfl],r1⟩
theorem JV:Zf (xz jd C) C "done":=fun⟨a,dx,u1,e,h,_⟩=>⟨a,dx,_,e,h,by unfold VA; rw[jY,if_neg (by decide +kernel)]; rfl⟩
structure MSlide where
 order:MOrder
def VB (u1:V):List (Str×V):=(Qq "order" u1 [])
def xr (jd:Addr) (C:Addr):Cd MSlide:=⟨fun K H o v=>∃ a dx u1,v=.ref a/\H a=some (.ins C dx (VB u1))/\(jA jd).rep K H o.order u1,fun s ⟨a,dx,u1,e,h,r1⟩=>⟨a,dx,u1,e,s _ _ h,Cd.mono _ s r1⟩⟩
structure Txt_Slide (K:W.Frag) (mg:Str->Option Value) (C:Addr):Prop where
 cl:Cls K C
 n_order:NoAttr K C "order"
theorem GK (T:Txt_Slide K mg C):Uz K (xr jd C) "order" (jA jd) (fun o=>o.order):=fun⟨a,dx,u1,e,h,r1⟩=>⟨a,C,dx,_,u1,e,h,T.cl,T.n_order,by unfold VB; rw[jY,if_pos rfl],r1⟩
theorem JW:Zf (xr jd C) C "done":=fun⟨a,dx,u1,e,h,_⟩=>⟨a,dx,_,e,h,by unfold VB; rw[jY,if_neg (by decide +kernel)]; rfl⟩
structure MAbove where
 order:MOrder
def VC (u1:V):List (Str×V):=(Qq "order" u1 [])
def xt (jd:Addr) (C:Addr):Cd MAbove:=⟨fun K H o v=>∃ a dx u1,v=.ref a/\H a=some (.ins C dx (VC u1))/\(jA jd).rep K H o.order u1,fun s ⟨a,dx,u1,e,h,r1⟩=>⟨a,dx,u1,e,s _ _ h,Cd.mono _ s r1⟩⟩
structure Txt_Above (K:W.Frag) (mg:Str->Option Value) (C:Addr):Prop where
 cl:Cls K C
 n_order:NoAttr K C "order"
theorem GL (T:Txt_Above K mg C):Uz K (xt jd C) "order" (jA jd) (fun o=>o.order):=fun⟨a,dx,u1,e,h,r1⟩=>⟨a,C,dx,_,u1,e,h,T.cl,T.n_order,by unfold VC; rw[jY,if_pos rfl],r1⟩
theorem JX:Zf (xt jd C) C "done":=fun⟨a,dx,u1,e,h,_⟩=>⟨a,dx,_,e,h,by unfold VC; rw[jY,if_neg (by decide +kernel)]; rfl⟩
structure MBelow where
 order:MOrder
def VD (u1:V):List (Str×V):=(Qq "order" u1 [])
def xu (jd:Addr) (C:Addr):Cd MBelow:=⟨fun K H o v=>∃ a dx u1,v=.ref a/\H a=some (.ins C dx (VD u1))/\(jA jd).rep K H o.order u1,fun s ⟨a,dx,u1,e,h,r1⟩=>⟨a,dx,u1,e,s _ _ h,Cd.mono _ s r1⟩⟩
structure Txt_Below (K:W.Frag) (mg:Str->Option Value) (C:Addr):Prop where
 cl:Cls K C
 n_order:NoAttr K C "order"
theorem GM (T:Txt_Below K mg C):Uz K (xu jd C) "order" (jA jd) (fun o=>o.order):=fun⟨a,dx,u1,e,h,r1⟩=>⟨a,C,dx,_,u1,e,h,T.cl,T.n_order,by unfold VD; rw[jY,if_pos rfl],r1⟩
theorem JY:Zf (xu jd C) C "done":=fun⟨a,dx,u1,e,h,_⟩=>⟨a,dx,_,e,h,by unfold VD; rw[jY,if_neg (by decide +kernel)]; rfl⟩
@[irreducible] def kz (script:(List Int)) (k_:Int):Option Int:=
 (some (0)).bind fun cell=>
 (bif (decide (0<(script.length:Int))) then
 (((some (script)).bind fun t1=>((WJ k_ (script.length:Int))).bind fun t2=>(pAt t1 t2))).bind fun cell=>
 some cell
 else
 some cell).bind fun cell=>
 (some ((((cell+(7919 * (k_+1))) * 6364136223846793005) % 2305843009213693951))).bind fun low=>
 some (((((cell % (10 ^ 60:Int)) / 2305843009213693951) * 2305843009213693951)+low))
@[irreducible] def Gn (script:(List Int)) (at_:Int) (n_:Int):Option (List (Int×Int)):=
 ((((((kz script at_)).bind fun t1=>some ((t1 / 10)))).bind fun t2=>some ((t2 % 6)))).bind fun kind=>
 bif ((decide (n_=1))||(decide (kind=0))) then
 some (([]:List (Int×Int)))
 else
 bif (decide (kind=1)) then
 (((yr 0 (n_-1))).bind fun l5=>qa l5 (fun _=>some true) (fun k_=>some ((k_,(k_+1)))))
 else
 (some (([]:List (Int×Int)))).bind fun pairs_here=>
 bif (decide (kind<4)) then
 ((kz script (at_+1))).bind fun cell=>
 (((yr 0 n_)).bind fun l17=>L3.forM l17 (pairs_here,cell) (fun z8 high=>
 (((yr 0 high)).bind fun l15=>L3.forM l15 (z8.1,z8.2) (fun z10 low=>
 (((((WJ z10.2 kind)).bind fun t11=>(some (1)).bind fun t12=>some ((decide (t11=t12))))).bind fun q14=>bif q14 then
 ((JN z10.1 (low,high))).bind fun pairs_here=>
 some pairs_here
 else
 some z10.1).bind fun pairs_here=>
 ((jfj z10.2 kind)).bind fun cell=>
 some (pairs_here,cell))).bind fun z16=>
 some (z16.1,z16.2))).bind fun z18=>
 some z18.1
 else
 ((((((some (1)).bind fun t21=>((((((kz script at_)).bind fun t19=>some ((t19 / 60)))).bind fun t20=>some ((t20 % 12)))).bind fun t22=>some ((t21+t22)))).bind fun t23=>(yr 0 t23))).bind fun l32=>L3.forM l32 pairs_here (fun pairs_here k_=>
 ((kz script ((at_+1)+k_))).bind fun cell=>
 ((WJ cell (n_-1))).bind fun low=>
 (((((some (low)).bind fun t29=>(((some ((low+1))).bind fun t27=>((WJ (cell / 9) ((n_-1)-low))).bind fun t28=>some ((t27+t28)))).bind fun t30=>some ((t29,t30)))).bind fun t31=>(JN pairs_here t31))).bind fun pairs_here=>
 some pairs_here)).bind fun pairs_here=>
 some pairs_here
@[irreducible] def yO (n_:Int) (pairs_here:(List (Int×Int))):Option (List (List Bool)):=
 (some (([]:List (List Bool)))).bind fun under_here=>
 (((yr 0 n_)).bind fun l18=>L3.forM l18 under_here (fun under_here k_=>
 ((((yr 0 n_)).bind fun l7=>qa l7 (fun _=>some true) (fun j_=>some (false)))).bind fun found=>
 (L3.forM pairs_here found (fun found z10=>
 (bif (decide (z10.2=k_)) then
 ((Z3 found z10.1 true)).bind fun found=>
 ((((yr 0 n_)).bind fun l15=>qa l15 (fun _=>some true) (fun j_=>(((pAt found j_)).bind fun q=>bif q then some true else (bif (decide (j_<k_)) then (((pAt under_here z10.1)).bind fun t13=>(some (j_)).bind fun t14=>(pAt t13 t14)) else some false))))).bind fun found=>
 some found
 else
 some found).bind fun found=>
 some found)).bind fun found=>
 ((JN under_here found)).bind fun under_here=>
 some under_here)).bind fun under_here=>
 some under_here
@[irreducible] def Jx (bits_here:Int) (k_:Int):Option Bool:=
 ((((((some (bits_here)).bind fun t1=>((pAt ([1,2,4,8,16,32,64,128,256]:List Int) k_)).bind fun t2=>(jfj t1 t2))).bind fun t3=>some ((t3 % 2)))).bind fun t4=>(some (1)).bind fun t5=>some ((decide (t4=t5))))
@[irreducible] def zI (zJ:(List Int)):Option Int:=
 (((qa zJ (fun _=>some true) (fun k_=>(pAt ([1,2,4,8,16,32,64,128,256]:List Int) k_)))).bind fun t3=>some ((t3.sum)))
@[irreducible] def GN (under_here:(List (List Bool))):Option (List Int):=
 (some (([0]:List Int))).bind fun found=>
 (((yr 0 (under_here.length:Int))).bind fun l17=>L3.forM l17 found (fun found k_=>
 (some (([]:List Int))).bind fun more=>
 (L3.forM found more (fun more bits_here=>
 (((((((yr 0 k_)).bind fun l9=>qa l9 (fun j_=>(((pAt under_here k_)).bind fun t7=>(some (j_)).bind fun t8=>(pAt t7 t8))) (fun j_=>(Jx bits_here j_)))).bind fun t10=>some ((t10.all id)))).bind fun q15=>bif q15 then
 (((((some (bits_here)).bind fun t11=>((zI ([k_]:List Int))).bind fun t12=>some ((t11+t12)))).bind fun t13=>(JN more t13))).bind fun more=>
 some more
 else
 some more).bind fun more=>
 some more)).bind fun more=>
 ((Vi found more)).bind fun found=>
 some found)).bind fun found=>
 (jdX found)
@[irreducible] def q_ (under_here:(List (List Bool))) (bits_here:Int):Option Int:=
 (some ((under_here.length:Int))).bind fun n_=>
 ((((yr 0 n_)).bind fun l3=>qa l3 (fun _=>some true) (fun k_=>some (false)))).bind fun made=>
 (((yr 0 n_)).bind fun l22=>L3.forM l22 made (fun made k_=>
 ((((yr 0 n_)).bind fun l10=>qa l10 (fun j_=>(((pAt under_here k_)).bind fun t8=>(some (j_)).bind fun t9=>(pAt t8 t9))) (fun j_=>some (j_)))).bind fun lows=>
 (((((((Jx bits_here k_)).bind fun t11=>some ((!t11)))).bind fun q=>bif q then (((qa lows (fun _=>some true) (fun j_=>(Jx bits_here j_)))).bind fun t14=>some ((t14.all id))) else some false)).bind fun q21=>bif q21 then
 ((((yr 0 n_)).bind fun l19=>qa l19 (fun _=>some true) (fun j_=>(((pAt made j_)).bind fun q=>bif q then some true else (bif (decide (j_=k_)) then some true else (((pAt under_here k_)).bind fun t17=>(some (j_)).bind fun t18=>(pAt t17 t18))))))).bind fun made=>
 some made
 else
 some made).bind fun made=>
 some made)).bind fun made=>
 (((((yr 0 n_)).bind fun l25=>qa l25 (fun k_=>(pAt made k_)) (fun k_=>some (k_)))).bind fun t26=>(zI t26))
@[irreducible] def y4 (under_here:(List (List Bool))) (one:Int) (which:Int):Option Int:=
 bif (decide (which=0)) then
 (q_ under_here one)
 else
 none
@[irreducible] def yu (under_here:(List (List Bool))) (one:Int) (which:Int):Option (List Int):=
 (some (([one]:List Int))).bind fun found=>
 ((y4 under_here one which)).bind fun here=>
 (pWh (fun z1=>some (!decide (z1.2=one))) (fun z1=>
 ((JN z1.1 z1.2)).bind fun found=>
 ((y4 under_here z1.2 which)).bind fun here=>
 some (found,here)) (found,here)).bind fun z2=>
 some z2.1
@[irreducible] def xG (under_here:(List (List Bool))) (kind:Int):Option (List Int):=
 ((GN under_here)).bind fun ones=>
 bif (decide ((kind % 3)=0)) then
 ((some (under_here)).bind fun t3=>(((some (ones)).bind fun t1=>((WJ (kind / 3) (ones.length:Int))).bind fun t2=>(pAt t1 t2))).bind fun t4=>(some (0)).bind fun t5=>(yu t3 t4 t5))
 else
 bif (decide ((kind % 3)=1)) then
 (((some (under_here)).bind fun t8=>(((some (ones)).bind fun t6=>((WJ (kind / 3) (ones.length:Int))).bind fun t7=>(pAt t6 t7))).bind fun t9=>(some (0)).bind fun t10=>(yu t8 t9 t10))).bind fun other=>
 ((some (other)).bind fun t19=>(((((some (under_here)).bind fun t13=>(((some (ones)).bind fun t11=>((WJ (kind / 400) (ones.length:Int))).bind fun t12=>(pAt t11 t12))).bind fun t14=>(some (0)).bind fun t15=>(yu t13 t14 t15))).bind fun l18=>qa l18 (fun bits_here=>some ((!QZ bits_here other))) (fun bits_here=>some (bits_here)))).bind fun t20=>(Vi t19 t20))
 else
 some (ones)
@[irreducible] def xH (under_here:(List (List Bool))):Option (List (List Int)):=
 (some (([([]:List Int)]:List (List Int)))).bind fun found=>
 (some ((under_here.length:Int))).bind fun n_=>
 (((yr 0 n_)).bind fun l24=>L3.forM l24 found (fun found turn_here=>
 (some (([]:List (List Int)))).bind fun longer=>
 (L3.forM found longer (fun longer line=>
 (((yr 0 n_)).bind fun l22=>L3.forM l22 longer (fun longer k_=>
 ((((yr 0 n_)).bind fun l15=>qa l15 (fun j_=>(((pAt under_here k_)).bind fun t13=>(some (j_)).bind fun t14=>(pAt t13 t14))) (fun j_=>some (j_)))).bind fun lows=>
 (((bif (!QZ k_ line) then (((qa lows (fun _=>some true) (fun j_=>some ((QZ j_ line))))).bind fun t18=>some ((t18.all id))) else some false)).bind fun q21=>bif q21 then
 ((((Vi line ([k_]:List Int))).bind fun t19=>(JN longer t19))).bind fun longer=>
 some longer
 else
 some longer).bind fun longer=>
 some longer)).bind fun longer=>
 some longer)).bind fun longer=>
 (some (longer)).bind fun found=>
 some found)).bind fun found=>
 some (found)
@[irreducible] def zj (ones:(List Int)) (cell:Int):Option (List Int):=
 (some (ones)).bind fun left=>
 (some (([]:List Int))).bind fun made=>
 (((yr 0 (ones.length:Int))).bind fun l7=>L3.forM l7 (cell,left,made) (fun z2 k_=>
 (some (((((z2.1 % 2147483646)+1) * 48271) % 2147483647))).bind fun cell=>
 (((WJ cell (z2.2.1.length:Int))).bind fun t4=>(Ue z2.2.1 t4).bind fun t5=>(JN z2.2.2 t5.1).bind fun t6=>some (t6,t5.2)).bind fun z3=>
 some (cell,z3.2,z3.1))).bind fun z8=>
 some z8.2.2
@[irreducible] def WY (under_here:(List (List Bool))) (ones:(List Int)) (which:Int):Option (List (List Int)):=
 (some (([]:List (List Int)))).bind fun found=>
 (L3.forM ones found (fun found one=>
 (((((((qa found (fun _=>some true) (fun circle=>some ((QZ one circle))))).bind fun t4=>some ((t4.any id)))).bind fun t5=>some ((!t5)))).bind fun q8=>bif q8 then
 ((((yu under_here one which)).bind fun t6=>(JN found t6))).bind fun found=>
 some found
 else
 some found).bind fun found=>
 some found)).bind fun found=>
 some found
@[irreducible] def qF (many:Int) (pairs:(List (Int×Int))):Option Unit:=
 bif (!((decide (1<=many))&&(decide (many<=9)))) then
 none
 else
 (L3.forM pairs () (fun (_:Unit) z3=>
 bif (!((decide (0<=z3.1))&&((decide (z3.1<z3.2))&&(decide (z3.2<many))))) then
 none
 else
 some ())).bind fun _=>
 some ()
@[irreducible] def xa (many:Int) (pairs:(List (Int×Int))):Option (List Int):=
 (some (([]:List Int))).bind fun found=>
 (((yr 0 many)).bind fun l14=>L3.forM l14 found (fun found thing=>
 (some (0)).bind fun bits=>
 (L3.forM pairs bits (fun bits z7=>
 (bif (decide (z7.2=thing)) then
 (((((some (bits)).bind fun t8=>((pAt found z7.1)).bind fun t9=>some ((Builtin.bitOr t8 t9)))).bind fun t10=>((jet 1 z7.1)).bind fun t11=>some ((Builtin.bitOr t10 t11)))).bind fun bits=>
 some bits
 else
 some bits).bind fun bits=>
 some bits)).bind fun bits=>
 ((JN found bits)).bind fun found=>
 some found)).bind fun found=>
 some (found)
@[irreducible] def Jj (bits:Int) (thing:Int):Option Bool:=
 (((((jfk bits thing)).bind fun t1=>(some (1)).bind fun t2=>some ((Builtin.bitAnd t1 t2)))).bind fun t3=>(some (1)).bind fun t4=>some ((decide (t3=t4))))
@[irreducible] def yh (beneath:(List Int)) (low:Int) (high:Int):Option Bool:=
 ((((((pAt beneath high)).bind fun t1=>(some (low)).bind fun t2=>(Jj t1 t2))).bind fun t3=>some ((!t3)))).bind fun q13=>bif q13 then
 some (false)
 else
 (((((((yr (low+1) high)).bind fun l10=>qa l10 (fun _=>some true) (fun mid=>(((((pAt beneath high)).bind fun t6=>(some (mid)).bind fun t7=>(Jj t6 t7))).bind fun q=>bif q then (((pAt beneath mid)).bind fun t8=>(some (low)).bind fun t9=>(Jj t8 t9)) else some false)))).bind fun t11=>some ((t11.any id)))).bind fun t12=>some ((!t12)))
@[irreducible] def qG (beneath:(List Int)):Option (List (Int×Int)):=
 (some (([]:List (Int×Int)))).bind fun found=>
 (((yr 0 (beneath.length:Int))).bind fun l7=>L3.forM l7 found (fun found low=>
 (((yr (low+1) (beneath.length:Int))).bind fun l6=>L3.forM l6 found (fun found high=>
 (((yh beneath low high)).bind fun q5=>bif q5 then
 ((JN found (low,high))).bind fun found=>
 some found
 else
 some found).bind fun found=>
 some found)).bind fun found=>
 some found)).bind fun found=>
 some (found)
@[irreducible] def qH (many:Int) (pairs:(List (Int×Int))):Option MOrder:=
 ((qF many pairs)).bind fun _=>
 (some (many)).bind fun f_many=>
 ((xa many pairs)).bind fun f_beneath=>
 ((qG f_beneath)).bind fun f_neighbours=>
 some (MOrder.mk f_many f_beneath f_neighbours)
@[irreducible] def xb (order:MOrder):Option MGreat:=
 (some (order)).bind fun f_order=>
 some (MGreat.mk f_order)
@[irreducible] def Ug (order:MOrder) (which:Int):Option MGreat:=
 bif (decide (which=0)) then
 (xb order)
 else
 none
@[irreducible] def kF (self:MOrder):Option Int:=
 some (self.many)
@[irreducible] def qi (bits:Int):Option (List Int):=
 (((yr 0 ((Builtin.Int.intBits bits:Nat):Int))).bind fun l3=>qa l3 (fun thing=>(Jj bits thing)) (fun thing=>some (thing)))
@[irreducible] def kO (bits:Int) (others:Int):Option Bool:=
 some ((decide ((Builtin.bitAnd bits others)=others)))
@[irreducible] def qI (order:MOrder) (bits:Int):Option Bool:=
 ((bif (decide (bits<0)) then some true else ((((some (bits)).bind fun t1=>((kF order)).bind fun t2=>(jfk t1 t2))).bind fun t3=>(some (0)).bind fun t4=>some ((decide (t4<t3)))))).bind fun q11=>bif q11 then
 some (false)
 else
 (((((qi bits)).bind fun l9=>qa l9 (fun _=>some true) (fun thing=>((some (bits)).bind fun t7=>((pAt order.beneath thing)).bind fun t8=>(kO t7 t8))))).bind fun t10=>some ((t10.all id)))
@[irreducible] def qc (order:MOrder) (bits:Int):Option Unit:=
 ((((qI order bits)).bind fun t1=>some ((!t1)))).bind fun q2=>bif q2 then
 none
 else
 some ()
@[irreducible] def zk (order:MOrder) (bits:Int) (thing:Int):Option Bool:=
 (((((Jj bits thing)).bind fun t1=>some ((!t1)))).bind fun q=>bif q then ((some (bits)).bind fun t2=>((pAt order.beneath thing)).bind fun t3=>(kO t2 t3)) else some false)
@[irreducible] def y6 (zJ:(List Int)):Option Int:=
 (some (0)).bind fun bits=>
 (L3.forM zJ bits (fun bits thing=>
 (((some (bits)).bind fun t2=>((jet 1 thing)).bind fun t3=>some ((Builtin.bitOr t2 t3)))).bind fun bits=>
 some bits)).bind fun bits=>
 some (bits)
@[irreducible] def GO (order:MOrder) (bits:Int):Option Int:=
 ((qc order bits)).bind fun _=>
 (((((((kF order)).bind fun t1=>(yr 0 t1))).bind fun l4=>qa l4 (fun thing=>(zk order bits thing)) (fun thing=>some (thing)))).bind fun t5=>(y6 t5))
@[irreducible] def xc (order:MOrder) (bits:Int):Option Int:=
 ((GO order bits)).bind fun entered=>
 (some (entered)).bind fun turned=>
 (((qi entered)).bind fun l4=>L3.forM l4 turned (fun turned thing=>
 (((some (turned)).bind fun t2=>((pAt order.beneath thing)).bind fun t3=>some ((Builtin.bitOr t2 t3)))).bind fun turned=>
 some turned)).bind fun turned=>
 some (turned)
@[irreducible] def qt (self:MGreat) (one:Int):Option Int:=
 (xc self.order one)
@[irreducible] def xw (turn:MGreat) (one:Int):Option (List Int):=
 (some (([one]:List Int))).bind fun circle=>
 ((qt turn one)).bind fun following=>
 (pWh (fun z1=>some (!decide (z1.2=one))) (fun z1=>
 ((JN z1.1 z1.2)).bind fun circle=>
 ((qt turn z1.2)).bind fun following=>
 some (circle,following)) (circle,following)).bind fun z2=>
 some z2.1
@[irreducible] def xf (turn:MGreat) (ones:(List Int)):Option (List (List Int)):=
 (some (([]:List (List Int)))).bind fun found=>
 (some (([]:(List (Int×Bool))))).bind fun gone_through=>
 (L3.forM ones (found,gone_through) (fun z4 one=>
 (bif (!isK one z4.2) then
 ((xw turn one)).bind fun circle=>
 ((JN z4.1 circle)).bind fun found=>
 (L3.forM circle z4.2 (fun gone_through other=>
 ((some (true)).bind fun t6=>(some (other)).bind fun t7=>WT gone_through t7 t6).bind fun gone_through=>
 some gone_through)).bind fun gone_through=>
 some (found,gone_through)
 else
 some (z4.1,z4.2)).bind fun z11=>
 some (z11.1,z11.2))).bind fun z13=>
 some z13.1
@[irreducible] def Jy (found:Int):Option Bool:=
 some ((true&&(!false)))
@[irreducible] def xI (circle:(List Int)) (which:Int):Option Bool:=
 bif (!true) then
 some (false)
 else
 bif (decide (which=0)) then
 (((qa circle (fun _=>some true) (fun one=>(Jy one)))).bind fun t3=>some ((t3.all id)))
 else
 none
@[irreducible] def x8 (rounds:(List (List Int))):Option (List (Int×Int)):=
 (some (([]:(List (Int×Int))))).bind fun counts=>
 (L3.forM rounds counts (fun counts circle=>
 ((some ((((Qe counts (circle.length:Int)).getD 0)+1))).bind fun t2=>(some ((circle.length:Int))).bind fun t3=>WT counts t3 t2).bind fun counts=>
 some counts)).bind fun counts=>
 some counts
@[irreducible] def xk (rounds:(List (List Int))):Option (List (Int×Int)):=
 (some (([]:(List (Int×Int))))).bind fun due_here=>
 (L3.forM rounds due_here (fun due_here circle=>
 ((some ((((Qe due_here (circle.length:Int)).getD 0)+1))).bind fun t2=>(some ((circle.length:Int))).bind fun t3=>WT due_here t3 t2).bind fun due_here=>
 some due_here)).bind fun due_here=>
 some due_here
@[irreducible] def yb (ones:(List (List Int))) (cell:Int):Option (List (List Int)):=
 (some (ones)).bind fun left=>
 (some (([]:List (List Int)))).bind fun made=>
 (((yr 0 (ones.length:Int))).bind fun l7=>L3.forM l7 (cell,left,made) (fun z2 k_=>
 (some (((((z2.1 % 2147483646)+1) * 48271) % 2147483647))).bind fun cell=>
 (((WJ cell (z2.2.1.length:Int))).bind fun t4=>(Ue z2.2.1 t4).bind fun t5=>(JN z2.2.2 t5.1).bind fun t6=>some (t6,t5.2)).bind fun z3=>
 some (cell,z3.2,z3.1))).bind fun z8=>
 some z8.2.2
@[irreducible] def xv (under_here:(List (List Bool))) (line:(List Int)) (at_:Int):Option (List Int):=
 (((((some (under_here)).bind fun t1=>((pAt line (at_+1))).bind fun t2=>(pAt t1 t2))).bind fun t3=>((pAt line at_)).bind fun t4=>(pAt t3 t4))).bind fun q13=>bif q13 then
 some (line)
 else
 ((((some ((cut line none (some at_)))).bind fun t9=>((((pAt line (at_+1))).bind fun t7=>(((pAt line at_)).bind fun t5=>(some ([]:List Int)).bind fun t6=>some (t5::t6)).bind fun t8=>some (t7::t8))).bind fun t10=>(Vi t9 t10))).bind fun t11=>(some ((cut line (some (at_+2)) none))).bind fun t12=>(Vi t11 t12))
@[irreducible] def Qw (under_here:(List (List Bool))) (line:(List Int)):Option (List Int):=
 (((yr 0 ((line.length:Int)-1))).bind fun l2=>L3.forM l2 line (fun line at_=>
 ((xv under_here line at_)).bind fun line=>
 some line)).bind fun line=>
 some (line)
@[irreducible] def qV (under_here:(List (List Bool))) (one:(List Int)) (which:Int):Option (List Int):=
 bif (decide (which=0)) then
 none
 else
 bif (decide (which=1)) then
 (Qw under_here one)
 else
 (some ((one.length:Int))).bind fun n_=>
 (((yr 0 (n_-1))).bind fun l8=>L3.forM l8 one (fun one k_=>
 (((yr 0 ((n_-1)-k_))).bind fun l7=>L3.forM l7 one (fun one j_=>
 (((some (under_here)).bind fun t4=>(some (one)).bind fun t5=>((pAt ([j_,((n_-2)-j_)]:List Int) (which-2))).bind fun t6=>(xv t4 t5 t6))).bind fun one=>
 some one)).bind fun one=>
 some one)).bind fun one=>
 some (one)
@[irreducible] def yI (under_here:(List (List Bool))) (one:(List Int)) (which:Int):Option (List (List Int)):=
 (some (([one]:List (List Int)))).bind fun found=>
 ((qV under_here one which)).bind fun here=>
 (pWh (fun z1=>some (!Ys z1.2 one)) (fun z1=>
 ((JN z1.1 z1.2)).bind fun found=>
 ((qV under_here z1.2 which)).bind fun here=>
 some (found,here)) (found,here)).bind fun z2=>
 some z2.1
@[irreducible] def GP (under_here:(List (List Bool))) (ones:(List (List Int))) (which:Int):Option (List (List (List Int))):=
 (some (([]:List (List (List Int))))).bind fun found=>
 (L3.forM ones found (fun found one=>
 (((((((qa found (fun _=>some true) (fun circle=>some ((QZ one circle))))).bind fun t4=>some ((t4.any id)))).bind fun t5=>some ((!t5)))).bind fun q8=>bif q8 then
 ((((yI under_here one which)).bind fun t6=>(JN found t6))).bind fun found=>
 some found
 else
 some found).bind fun found=>
 some found)).bind fun found=>
 some found
@[irreducible] def xJ (order:MOrder):Option MSlide:=
 (some (order)).bind fun f_order=>
 some (MSlide.mk f_order)
@[irreducible] def xK (order:MOrder):Option MAbove:=
 (some (order)).bind fun f_order=>
 some (MAbove.mk f_order)
@[irreducible] def xL (order:MOrder):Option MBelow:=
 (some (order)).bind fun f_order=>
 some (MBelow.mk f_order)
@[irreducible] def Go (order:MOrder) (which:Int):Option (MSlide ⊕ (MAbove ⊕ MBelow)):=
 bif (decide (which=0)) then
 none
 else
 bif (decide (which=1)) then
 (((xJ order)).bind fun t1=>some ((Sum.inl t1:(MSlide ⊕ (MAbove ⊕ MBelow)))))
 else
 bif (decide (which=2)) then
 (((((xK order)).bind fun t2=>some ((Sum.inl t2:(MAbove ⊕ MBelow))))).bind fun t3=>some ((Sum.inr t3:(MSlide ⊕ (MAbove ⊕ MBelow)))))
 else
 (((((xL order)).bind fun t4=>some ((Sum.inr t4:(MAbove ⊕ MBelow))))).bind fun t5=>some ((Sum.inr t5:(MSlide ⊕ (MAbove ⊕ MBelow)))))
@[irreducible] def xM (order:MOrder) (line:(List Int)):Option Bool:=
 ((((jg1 line)).bind fun t2=>((((kF order)).bind fun t1=>(jbY t1))).bind fun t3=>some ((!Ys t2 t3)))).bind fun q12=>bif q12 then
 some (false)
 else
 (some (0)).bind fun ahead=>
 (Yw line ahead (fun ahead thing=>
 (((((some (ahead)).bind fun t5=>((pAt order.beneath thing)).bind fun t6=>(kO t5 t6))).bind fun t7=>some ((!t7)))).bind fun q10=>bif q10 then
 (some (false)).bind fun y=>some (.rt y)
 else
 (((some (ahead)).bind fun t8=>((jet 1 thing)).bind fun t9=>some ((Builtin.bitOr t8 t9)))).bind fun ahead=>
 some (.nx ahead))).bind fun x_=>x_.el (fun c_=>some c_) (fun ahead=>
 some (true))
@[irreducible] def kx (order:MOrder) (line:(List Int)):Option Unit:=
 ((((xM order line)).bind fun t1=>some ((!t1)))).bind fun q2=>bif q2 then
 none
 else
 some ()
@[irreducible] def j8 (self:MOrder) (thing:Int):Option Unit:=
 bif (!((decide (0<=thing))&&(decide (thing<self.many)))) then
 none
 else
 some ()
@[irreducible] def kn (self:MOrder) (thing:Int):Option (List Int):=
 ((j8 self thing)).bind fun _=>
 (qa self.neighbours (fun z3=>some ((decide (z3.1=thing)))) (fun z3=>some (z3.2)))
@[irreducible] def j6 (row:(List Int)) (zJ:(List Int)):Option (List Int):=
 (qa zJ (fun thing=>some ((QZ thing row))) (fun thing=>(jaf row thing)))
@[irreducible] def Gd (order:MOrder) (row:(List Int)):Option (List Int):=
 (some (row)).bind fun moved=>
 ((pAt row 0)).bind fun gap=>
 (((some (row)).bind fun t1=>((kn order gap)).bind fun t2=>(j6 t1 t2))).bind fun higher=>
 (pWh (fun z4=>some (decide (0<(z4.2.2.length:Int)))) (fun z4=>
 ((jb6 z4.2.2)).bind fun place=>
 ((Z3 z4.1 place z4.2.1)).bind fun moved=>
 ((pAt row place)).bind fun gap=>
 (((some (row)).bind fun t5=>((kn order gap)).bind fun t6=>(j6 t5 t6))).bind fun higher=>
 some (moved,gap,higher)) (moved,gap,higher)).bind fun z7=>
 (((Vi (cut z7.1 (some 1) none) ([z7.2.1]:List Int))).bind fun t8=>some (t8))
@[irreducible] def qd (self:MSlide) (one:(List Int)):Option (List Int):=
 ((kx self.order one)).bind fun _=>
 (Gd self.order one)
@[irreducible] def qe (self:MAbove) (one:(List Int)):Option (List Int):=
 ((kx self.order one)).bind fun _=>
 (some (one)).bind fun row=>
 (((YI (one.length:Int) 1)).bind fun l4=>L3.forM l4 row (fun row end_=>
 ((((Gd self.order (cut row none (some end_)))).bind fun t2=>(some ((cut row (some end_) none))).bind fun t3=>(Vi t2 t3))).bind fun row=>
 some row)).bind fun row=>
 some (row)
@[irreducible] def ko (self:MOrder) (thing:Int):Option (List Int):=
 ((j8 self thing)).bind fun _=>
 (qa self.neighbours (fun z3=>some ((decide (z3.2=thing)))) (fun z3=>some (z3.1)))
@[irreducible] def qP (order:MOrder) (row:(List Int)):Option (List Int):=
 (some (row)).bind fun moved=>
 ((pAt row (-1))).bind fun gap=>
 (((some (row)).bind fun t1=>((ko order gap)).bind fun t2=>(j6 t1 t2))).bind fun lower=>
 (pWh (fun z4=>some (decide (0<(z4.2.2.length:Int)))) (fun z4=>
 ((jb7 z4.2.2)).bind fun place=>
 ((Z3 z4.1 place z4.2.1)).bind fun moved=>
 ((pAt row place)).bind fun gap=>
 (((some (row)).bind fun t5=>((ko order gap)).bind fun t6=>(j6 t5 t6))).bind fun lower=>
 some (moved,gap,lower)) (moved,gap,lower)).bind fun z7=>
 (((Vi ([z7.2.1]:List Int) (cut z7.1 none (some (-1))))).bind fun t8=>some (t8))
@[irreducible] def qf (self:MBelow) (one:(List Int)):Option (List Int):=
 ((kx self.order one)).bind fun _=>
 (some (one)).bind fun row=>
 (((yr 0 ((one.length:Int)-1))).bind fun l4=>L3.forM l4 row (fun row J_=>
 (((some ((cut row none (some J_)))).bind fun t2=>((qP self.order (cut row (some J_) none))).bind fun t3=>(Vi t2 t3))).bind fun row=>
 some row)).bind fun row=>
 some (row)
@[irreducible] def qu (turn:(MSlide ⊕ (MAbove ⊕ MBelow))) (one:(List Int)):Option (List (List Int)):=
 (some (([one]:List (List Int)))).bind fun circle=>
 ((Sum.elim (fun o1=>(qd o1 one)) (fun o2=>(Sum.elim (fun o3=>(qe o3 one)) (fun o4=>(qf o4 one)) o2)) turn)).bind fun following=>
 (pWh (fun z5=>some (!Ys z5.2 one)) (fun z5=>
 ((JN z5.1 z5.2)).bind fun circle=>
 ((Sum.elim (fun o6=>(qd o6 z5.2)) (fun o7=>(Sum.elim (fun o8=>(qe o8 z5.2)) (fun o9=>(qf o9 z5.2)) o7)) turn)).bind fun following=>
 some (circle,following)) (circle,following)).bind fun z10=>
 some z10.1
@[irreducible] def qv (turn:(MSlide ⊕ (MAbove ⊕ MBelow))) (ones:(List (List Int))):Option (List (List (List Int))):=
 (some (([]:List (List (List Int))))).bind fun found=>
 (some (([]:(List ((List Int)×Bool))))).bind fun gone_through=>
 (L3.forM ones (found,gone_through) (fun z4 one=>
 (bif (!isK one z4.2) then
 ((qu turn one)).bind fun circle=>
 ((JN z4.1 circle)).bind fun found=>
 (L3.forM circle z4.2 (fun gone_through other=>
 ((some (true)).bind fun t6=>(some (other)).bind fun t7=>WT gone_through t7 t6).bind fun gone_through=>
 some gone_through)).bind fun gone_through=>
 some (found,gone_through)
 else
 some (z4.1,z4.2)).bind fun z11=>
 some (z11.1,z11.2))).bind fun z13=>
 some z13.1
@[irreducible] def qQ (circle:(List (List Int))) (which:Int):Option Bool:=
 bif (!true) then
 some (false)
 else
 bif (decide (which=0)) then
 none
 else
 (((qa circle (fun _=>some true) (fun one=>some (true)))).bind fun t3=>some ((t3.all id)))
@[irreducible] def yc (rounds:(List (List (List Int)))):Option (List (Int×Int)):=
 (some (([]:(List (Int×Int))))).bind fun counts=>
 (L3.forM rounds counts (fun counts circle=>
 ((some ((((Qe counts (circle.length:Int)).getD 0)+1))).bind fun t2=>(some ((circle.length:Int))).bind fun t3=>WT counts t3 t2).bind fun counts=>
 some counts)).bind fun counts=>
 some counts
@[irreducible] def qx (rounds:(List (List (List Int)))):Option (List (Int×Int)):=
 (some (([]:(List (Int×Int))))).bind fun due_here=>
 (L3.forM rounds due_here (fun due_here circle=>
 ((some ((((Qe due_here (circle.length:Int)).getD 0)+1))).bind fun t2=>(some ((circle.length:Int))).bind fun t3=>WT due_here t3 t2).bind fun due_here=>
 some due_here)).bind fun due_here=>
 some due_here
@[irreducible] def WZ (script:(List Int)):Option Bool:=
 (((some (([0,0,0,1,2,3]:List Int))).bind fun t2=>((((kz script 22)).bind fun t1=>some ((t1 % 6)))).bind fun t3=>(pAt t2 t3))).bind fun which=>
 (((some (1)).bind fun t6=>((((kz script 0)).bind fun t4=>((pAt ([7,5]:List Int) (b2i (decide (0<which))))).bind fun t5=>(WJ t4 t5))).bind fun t7=>some ((t6+t7)))).bind fun n_=>
 ((Gn script 1 n_)).bind fun pairs_here=>
 ((yO n_ pairs_here)).bind fun under_here=>
 bif (decide (which=0)) then
 (((some (under_here)).bind fun t8=>((kz script 20)).bind fun t9=>(xG t8 t9))).bind fun ones=>
 (((some (ones)).bind fun t10=>((kz script 21)).bind fun t11=>(zj t10 t11))).bind fun ones=>
 ((WY under_here ones which)).bind fun due_here=>
 (some (ones)).bind fun handed=>
 (((yr 0 2)).bind fun l30=>Yw l30 () (fun (_:Unit) turn_here=>
 ((((((qH n_ pairs_here)).bind fun t16=>(some (which)).bind fun t17=>(Ug t16 t17))).bind fun t18=>(some (handed)).bind fun t19=>(xf t18 t19))).bind fun found=>
 bif ((!true)||((!Ys found due_here)||(!Ys handed ones))) then
 (some (false)).bind fun y=>some (.rt y)
 else
 ((((((qa found (fun _=>some true) (fun circle=>(xI circle which)))).bind fun t22=>some ((t22.all id)))).bind fun t23=>some ((!t23)))).bind fun q29=>bif q29 then
 (some (false)).bind fun y=>some (.rt y)
 else
 ((x8 found)).bind fun many=>
 ((bif (!true) then some true else ((some (many)).bind fun t24=>((xk due_here)).bind fun t25=>some ((!JU t24 t25))))).bind fun q28=>bif q28 then
 (some (false)).bind fun y=>some (.rt y)
 else
 (jgm found).bind fun _=>
 ((some (77)).bind fun t26=>(some (1)).bind fun t27=>WT many t27 t26).bind fun many=>
 some (.nx ()))).bind fun x_=>x_.el (fun c_=>some c_) (fun _=>
 (((x8 ([]:List (List Int)))).bind fun t31=>(some (([]:(List (Int×Int))))).bind fun t32=>some ((JU t31 t32))))
 else
 ((xH under_here)).bind fun ones=>
 (((some (ones)).bind fun t33=>((kz script 21)).bind fun t34=>(yb t33 t34))).bind fun ones=>
 ((GP under_here ones which)).bind fun due_here=>
 (some (ones)).bind fun handed=>
 (((yr 0 2)).bind fun l53=>Yw l53 () (fun (_:Unit) turn_here=>
 ((((((qH n_ pairs_here)).bind fun t39=>(some (which)).bind fun t40=>(Go t39 t40))).bind fun t41=>(some (handed)).bind fun t42=>(qv t41 t42))).bind fun found=>
 bif ((!true)||((!Ys found due_here)||(!Ys handed ones))) then
 (some (false)).bind fun y=>some (.rt y)
 else
 ((((((qa found (fun _=>some true) (fun circle=>(qQ circle which)))).bind fun t45=>some ((t45.all id)))).bind fun t46=>some ((!t46)))).bind fun q52=>bif q52 then
 (some (false)).bind fun y=>some (.rt y)
 else
 ((yc found)).bind fun many=>
 ((bif (!true) then some true else ((some (many)).bind fun t47=>((qx due_here)).bind fun t48=>some ((!JU t47 t48))))).bind fun q51=>bif q51 then
 (some (false)).bind fun y=>some (.rt y)
 else
 (jgm found).bind fun _=>
 ((some (77)).bind fun t49=>(some (1)).bind fun t50=>WT many t50 t49).bind fun many=>
 some (.nx ()))).bind fun x_=>x_.el (fun c_=>some c_) (fun _=>
 (((x8 ([]:List (List Int)))).bind fun t54=>(some (([]:(List (Int×Int))))).bind fun t55=>some ((JU t54 t55))))
end Lw
namespace MM
open PySem L2 L3 M01
theorem forM_map (c:γ->α):∀ (l:List γ) (b:β),L3.forM (l.map c) b f=L3.forM l b (fun b x=>f b (c x))
 | [],_=>rfl
 | x::r,b=>by
  rw[List.map_cons,forM_cons,forM_cons];congr 1
  funext b'
  exact forM_map c r b'
theorem UY (c:γ->β) (g:γ->α->γ):∀ {l:List α}{b:γ},(∀ b,∀ x∈l,f (c b) x=some (c (g b x)))->L3.forM l (c b) f=some (c (l.foldl g b))
 | [],_,_=>rfl
 | x::r,b,h=>by
  rw[forM_cons,h b x List.mem_cons_self,bs,List.foldl_cons];exact UY c g fun b y hy=>h b y (List.mem_cons_of_mem _ hy)
theorem forM_cast (c:γ->β) (g:γ->α->γ) (b:γ) (e:b0=c b) (h:∀ b,∀ x∈l,f (c b) x=some (c (g b x))):L3.forM l b0 f=some (c (l.foldl g b)):=by
 rw[e];exact UY c g h
theorem ZA (a b:Nat):(a &&& b) / 2=(a / 2) &&& (b / 2):=by
 refine Nat.eq_of_testBit_eq fun i=>?_;rw[Nat.testBit_and,Nat.testBit_div_two,Nat.testBit_div_two,Nat.testBit_div_two,Nat.testBit_and]
theorem ZB (a b:Nat):(a &&& b) % 2=(a % 2) * (b % 2):=by
 have h:=Nat.testBit_and a b 0;simp only[Nat.testBit_zero] at h;have h1:a % 2=0 \/ a % 2=1:=by omega
 have h2:b % 2=0 \/ b % 2=1:=by omega
 have h3:(a &&& b) % 2=0 \/ (a &&& b) % 2=1:=by omega
 rcases h1 with h1 | h1 <;> rcases h2 with h2 | h2 <;> rcases h3 with h3 | h3 <;> rw[h1,h2,h3] at h <;> simp_all
theorem minus_bit (b c i:Nat):(b-(b &&& c)).testBit i=(b.testBit i&&!c.testBit i):=by
 induction i generalizing b c with
 | zero=>
  have h:b &&& c<=b:=Nat.and_le_left;have hm:=ZB b c;have hd:=ZA b c;rw[Nat.testBit_zero,Nat.testBit_zero,Nat.testBit_zero];have h1:b % 2=0 \/ b % 2=1:=by omega
  have h2:c % 2=0 \/ c % 2=1:=by omega
  rcases h1 with h1 | h1 <;> rcases h2 with h2 | h2 <;> rw[h1,h2] at hm <;> simp[h1,h2] <;> omega
 | succ i ih=>
  have h:b &&& c<=b:=Nat.and_le_left;have hm:=ZB b c;have hd:=ZA b c;have h2:(b / 2) &&& (c / 2)<=b / 2:=Nat.and_le_left;have e:(b-(b &&& c)) / 2=b / 2-((b / 2) &&& (c / 2)):=by
   have h1:b % 2=0 \/ b % 2=1:=by omega
   have h3:c % 2=0 \/ c % 2=1:=by omega
   rcases h1 with h1 | h1 <;> rcases h3 with h3 | h3 <;> rw[h1,h3] at hm <;> omega
  rw[Nat.testBit_succ,e,ih,<- Nat.testBit_succ,<- Nat.testBit_succ]
theorem eq_of_bits {a b:Nat} (ha:a<2 ^ n) (hb:b<2 ^ n) (h:∀ t,t<n->a.testBit t=b.testBit t):a=b:=by
 refine Nat.eq_of_testBit_eq fun i=>?_;by_cases hi:i<n
 ·exact h i hi
 ·rw[Nat.testBit_lt_two_pow (Nat.lt_of_lt_of_le ha (Nat.pow_le_pow_right (by decide) (by omega))),Nat.testBit_lt_two_pow (Nat.lt_of_lt_of_le hb (Nat.pow_le_pow_right (by decide) (by omega)))]
end MM
namespace Lw
open PySem L2 L3 M01
def zp (P:List (Nat×Nat)):List (Int×Int):=P.map fun p=>((p.1:Int),(p.2:Int))
theorem W0 (P:List (Nat×Nat)):(zp P).length=P.length:=by simp[zp]
theorem jeP (P Q:List (Nat×Nat)):zp (P++Q)=zp P++zp Q:=by simp[zp]
def zn (l:List Nat):List Int:=l.map fun t=>((t:Nat):Int)
theorem qy (l:List Nat):(zn l).length=l.length:=by simp[zn]
theorem jfT {l:List Nat}{t:Nat} (h:t<l.length):pAt (zn l) (t:Int)=some ((l.getD t 0:Nat):Int):=by
 refine MM.at_nat ?_;unfold zn;rw[XG,XV,Xc h];rfl
def ths (n b:Nat):List Nat:=(List.range n).filter fun t=>b.testBit t
theorem jfU (n b:Nat):(ths n b).length<=n:=by
 have:=XQ (fun t=>b.testBit t) (List.range n);rw[XL] at this;exact this
theorem jcu {b t:Nat} (h:t∈ths n b):t<n/\b.testBit t=true:=by
 obtain⟨h1,h2⟩:=XA.mp h;exact⟨Xp.mp h1,h2⟩
theorem mem_ths {b t:Nat}:t∈ths n b ↔ t<n/\b.testBit t=true:=by
 unfold ths;rw[XA,Xp]
theorem W1 {f:Unit->α->Option Unit}:∀ {l:List α},(∀ x∈l,f () x=some ())->L3.forM l () f=some ()
 | [],_=>rfl
 | x::r,h=>by
  rw[MM.forM_cons,h x Xg,MM.bs];exact W1 fun y hy=>h y (Xe _ hy)
theorem jhl (l:List Nat) (f:Nat->Bool):(l.map f).all id=l.all f:=by
 rw[List.all_map];rfl
theorem Qx (l:List Nat) (f:Nat->Nat) (a i:Nat):(l.foldl (fun a t=>a ||| f t) a).testBit i=(a.testBit i||l.any fun t=>(f t).testBit i):=by
 induction l generalizing a with
 | nil=>simp
 | cons x r ih=>rw[wt,ih,Nat.testBit_or,List.any_cons,Bool.or_assoc]
theorem jiY (h9:n<=9):2 ^ n<=512:=by
 have:2 ^ n<=2 ^ 9:=Nat.pow_le_pow_right (by decide) h9;exact this
theorem jcv:Ok [] n:=fun p h=>by cases h
theorem jeQ {Q:List (Nat×Nat)} (h:Ok P n) (h':Ok Q n):Ok (P++Q) n:=fun p hp=>(List.mem_append.mp hp).elim (h p) (h' p)
theorem jeR {a b:Nat} (h:a<b) (h':b<n):Ok [(a,b)] n:=fun p hp=>by
 have:p=(a,b):=by simpa using hp
 subst this;exact⟨h,h'⟩
theorem YN (h:i<n):ixN n (i:Int)=some i:=by
 unfold ixN;rw[if_pos (by omega),if_pos (by omega),X7]
theorem jcw {f:Nat->α}{j:Nat}{y:α} (h:j<n):((List.range n).map f).set j y=(List.range n).map fun k=>if k=j then y else f k:=by
 refine List.ext_getElem? fun k=>?_;by_cases hk:k<n
 ·rw[XG,List.getElem?_range hk];by_cases e:k=j
  ·subst e;rw[List.getElem?_set_self (by simpa using hk)];simp
  ·rw[List.getElem?_set_ne (fun z=>e z.symm),XG,List.getElem?_range hk];simp[e]
 ·rw[List.getElem?_eq_none (by simp; omega),List.getElem?_eq_none (by simp; omega)]
def bl (P:List (Nat×Nat)) (n i j:Nat):Bool:=((bel P n).getD j 0).testBit i
theorem JZ {j:Nat} (o:Ok P n) (hj:j<n):bl P n i j=true ↔ Lt P i j:=jbl o j n hj i
theorem UZ {t:Nat} (h:t<n):pAt (zn (bel P n)) (t:Int)=some (((bel P n).getD t 0:Nat):Int):=jfT (by rw[GE]; exact h)
theorem VE {b t:Nat} (o:Ok P n) (ht:t<n):(b &&& (bel P n).getD t 0=(bel P n).getD t 0) ↔ ∀ s,s<n->bl P n s t=true->b.testBit s=true:=by
 constructor
 ·intro h s hs hb;unfold bl at hb;rw[<- h,Nat.testBit_and,XF] at hb;exact hb.1
 ·intro h;refine Nat.eq_of_testBit_eq fun i=>?_;rw[Nat.testBit_and];cases hb:((bel P n).getD t 0).testBit i with
  | false=>simp
  | true=>
   have:=Lt.lt o ((jbl o t n ht i).mp hb);rw[h i (by omega) hb];rfl
def cvB (P:List (Nat×Nat)) (n l h:Nat):Bool:=bl P n l h&&!((List.range (h-(l+1))).any fun d=>bl P n (l+1+d) h&&bl P n l (l+1+d))
def cvL (P:List (Nat×Nat)) (n l:Nat):List (Nat×Nat):=(((List.range (n-(l+1))).map fun d=>l+1+d).filter fun h=>cvB P n l h).map fun h=>(l,h)
def cvs (P:List (Nat×Nat)) (n:Nat):List (Nat×Nat):=(List.range n).flatMap (cvL P n)
def dsB (P:List (Nat×Nat)) (n b:Nat):Bool:=decide (b<2 ^ n)&&(ths n b).all fun t=>decide (b &&& (bel P n).getD t 0=(bel P n).getD t 0)
def cov (P:List (Nat×Nat)) (n b:Nat):Nat:=(ths n b).foldl (fun a t=>a ||| (bel P n).getD t 0) 0
theorem jfV {S:List Nat} (h:0<S.length):pAt (zn S) (-1)=some ((S.getD (S.length-1) 0:Nat):Int):=by
 obtain⟨s,b,rfl⟩:∃ s b,S=s++[b]:=⟨S.dropLast,S.getLast (by intro e; rw[e] at h; simp at h),(List.dropLast_concat_getLast _).symm⟩;unfold pAt;have:zn (s++[b])=zn s++[(b:Int)]:=by simp[zn]
 rw[this,jdi];simp
theorem getD_mem {S:List Nat}{j:Nat} (h:j<S.length):S.getD j 0∈S:=by
 rw[XV,Xc h];exact List.getElem_mem h
theorem Ge (f:Nat->Nat):∀ {A B:List Nat},A.Nodup->(∀ x∈A,f x∈B)->(∀ x∈A,∀ y∈A,f x=f y->x=y)->A.length<=B.length
 | [],_,_,_,_=>wg _
 | a::r,B,hA,hm,hi=>by
  obtain⟨ha,hr⟩:=List.nodup_cons.mp hA;have h1:=hm a Xg;have h2:=Ge f (A:=r) (B:=B.erase (f a)) hr (fun x hx=>(List.mem_erase_of_ne (fun e=>ha (hi x (Xe _ hx) a Xg e ▸ hx))).mpr (hm x (Xe _ hx))) fun x hx y hy=>hi x (Xe _ hx) y (Xe _ hy);rw[List.length_erase_of_mem h1] at h2;have:0<B.length:=List.length_pos_of_mem h1;rw[Xv];omega
def bN (n:Nat) (p:Nat->Bool):Nat:=(((List.range n).filter p).map fun i=>2 ^ i).sum
theorem jd0 (n:Nat) (p:Nat->Bool):bN n p<2 ^ n:=(MB.sum_bits p n).1
theorem jeS {p:Nat->Bool}{t:Nat} (h:t<n):(bN n p).testBit t=p t:=(MB.sum_bits p n).2 t h
theorem jcx {b:Nat} (o:Ok P n):dsB P n b=true ↔ b<2 ^ n/\∀ s t,t<n->b.testBit t=true->bl P n s t=true->b.testBit s=true:=by
 unfold dsB;rw[XF,Xu,X6];refine and_congr_right fun hb=>⟨fun h s t ht hbt hst=>?_,fun h t ht=>?_⟩
 ·have:=wd (h t (mem_ths.mpr ⟨ht,hbt⟩));rw[VE o ht] at this;have hlt:=Lt.lt o ((JZ o ht).mp hst);exact this s (by omega) hst
 ·obtain⟨h1,h2⟩:=jcu ht;rw[Xu,VE o h1];exact fun s _ hst=>h s t h1 h2 hst
structure Ris (L:List Nat) (n:Nat):Prop where
 up:L.Pairwise (· < ·)
 lt:∀ t∈L,t<n
namespace Ris
variable {L:List Nat}
theorem mem (R:Ris L n) {s:Nat} (h:s∈L):∃ i,i<L.length/\L.getD i 0=s:=by
 obtain⟨i,hi,e⟩:=List.mem_iff_getElem.mp h;refine⟨i,hi,?_⟩;rw[XV,Xc hi];exact e
end Ris
def Dr (P:List (Nat×Nat)) (n b:Nat):List Nat:=(List.range n).filter fun t=>!b.testBit t&&decide (b &&& (bel P n).getD t 0=(bel P n).getD t 0)
def Br (P:List (Nat×Nat)) (n b:Nat):List Nat:=ths n (b-(b &&& cov P n b))
theorem yJ {b t:Nat} (o:Ok P n):t∈Dr P n b ↔ t<n/\b.testBit t=false/\∀ s,s<n->bl P n s t=true->b.testBit s=true:=by
 unfold Dr;rw[XA,Xp,XF,Bool.not_eq_true',Xu];exact and_congr_right fun h=>by rw[VE o h]
theorem mem_Br {b t:Nat}:t∈Br P n b ↔ t<n/\b.testBit t=true/\∀ s,s<n->b.testBit s=true->bl P n t s=false:=by
 unfold Br;rw[mem_ths,MM.minus_bit,XF,Bool.not_eq_true'];refine and_congr_right fun h=>and_congr_right fun hb=>?_;unfold cov;rw[Qx,Nat.zero_testBit,Bool.false_or,List.any_eq_false];constructor
 ·intro k s hs hbs;have:=k s (mem_ths.mpr ⟨hs,hbs⟩);exact Bool.eq_false_iff.mpr this
 ·intro k s hs;obtain⟨h1,h2⟩:=jcu hs;have:=k s h1 h2;exact Bool.eq_false_iff.mp this
theorem jhm {b:Nat} (o:Ok P n) (h:Dr P n b=[]):∀ t,t<n->b.testBit t=true:=by
 intro t
 induction t using Nat.strongRecOn with
 | _ t ih=>
  intro ht;cases e:b.testBit t with
  | true=>rfl
  | false=>
   have:t∈Dr P n b:=(yJ o).mpr ⟨ht,e,fun s hs hst=>ih s (Lt.lt o ((JZ o ht).mp hst)).1 hs⟩;rw[h] at this;cases this
theorem eln (b:β) (f:γ->δ) (g:β->δ):(Fl.nx b:Fl β γ).el f g=g b:=rfl
theorem mem_zn {l:List Nat}{x:Int}:x∈zn l ↔ ∃ t∈l,x=(t:Int):=by
 unfold zn;rw[XM];exact⟨fun⟨t,h,e⟩=>⟨t,h,e.symm⟩,fun⟨t,h,e⟩=>⟨t,h,e.symm⟩⟩
theorem jfW {l:List Nat}{t:Nat}:((t:Int)∈zn l) ↔ t∈l:=by
 rw[mem_zn];exact⟨fun⟨s,h,e⟩=>by
   have:t=s:=by omega
   rw[this]; exact h,fun h=>⟨t,h,rfl⟩⟩
theorem VF {l:List Nat}{t:Nat}:QZ (t:Int) (zn l)=decide (t∈l):=by
 rw[XN,MM.isIn_iff,jfW,Xu]
theorem ZC {l:List Nat} (h:l.Nodup):(zn l).Nodup:=by
 unfold zn;rw[List.nodup_iff_pairwise_ne,List.pairwise_map];exact h.imp fun hn e=>hn (by omega)
theorem jij {l:List Nat} (h:l.Pairwise (· < ·)):(zn l).Pairwise (·<=·):=by
 unfold zn;rw[List.pairwise_map];exact h.imp fun hn=>by omega
theorem jd1 {l:List Nat} (h:l.Pairwise (· < ·)):l.Nodup:=h.imp fun hn=>X2 hn
theorem jd2 {l m:List Int} (hl:l.Nodup) (hm:m.Nodup) (h:∀ x,x∈l ↔ x∈m):l.Perm m:=by
 have a:l.length<=m.length:=by
  have:∀ {l m:List Int},l.Nodup->(∀ x,x∈l->x∈m)->l.length<=m.length:=by
   intro l
   induction l with
   | nil=>intro m _ _; exact wg _
   | cons y l ih=>
    intro m nd sub;obtain⟨ny,nl⟩:=List.nodup_cons.mp nd;have hy:=sub y Xg;have:=ih (m:=m.erase y) nl fun z hz=>(List.mem_erase_of_ne (a:=z) (b:=y) (fun e=>ny (by rw[<- e]; exact hz))).mpr (sub z (Xe _ hz));rw[List.length_erase_of_mem hy] at this;have:=List.length_pos_of_mem hy;rw[Xv];omega
  exact this hl fun x hx=>(h x).mp hx
 have b:m.length<=l.length:=by
  have:∀ {l m:List Int},l.Nodup->(∀ x,x∈l->x∈m)->l.length<=m.length:=by
   intro l
   induction l with
   | nil=>intro m _ _; exact wg _
   | cons y l ih=>
    intro m nd sub;obtain⟨ny,nl⟩:=List.nodup_cons.mp nd;have hy:=sub y Xg;have:=ih (m:=m.erase y) nl fun z hz=>(List.mem_erase_of_ne (a:=z) (b:=y) (fun e=>ny (by rw[<- e]; exact hz))).mpr (sub z (Xe _ hz));rw[List.length_erase_of_mem hy] at this;have:=List.length_pos_of_mem hy;rw[Xv];omega
  exact this hm fun x hx=>(h x).mpr hx
 exact Q6 hm (fun z hz=>(h z).mpr hz) (by omega)
theorem jhn {l:List Int}{m:List Nat} (hl:l.Nodup) (hm:m.Pairwise (· < ·)) (h:∀ x:Int,x∈l ↔ ∃ t∈m,x=(t:Int)):srt l=zn m:=
 (jeB (jd2 (ZC (jd1 hm)) hl fun x=>by rw[h x,mem_zn]) (jij hm)).symm
theorem jd3 {l:List Int}{m:List Nat} (hd:l.Nodup) (hm:m.Pairwise (· < ·)) (h:∀ x:Int,x∈l ↔ ∃ t∈m,x=(t:Int)) (hl:l.length<64):jg1 l=some (zn m):=by
 unfold jg1;rw[if_pos hl,jhn hd hm h]
theorem jfX {l:List Nat}{p:Int->Option Bool}{f:Int->Option β} (q:Nat->Bool) (g:Nat->β) (hl:l.length<=16777216) (hp:∀ k∈l,p (k:Int)=some (q k)) (hf:∀ k∈l,q k=true->f (k:Int)=some (g k)) :
  qa (zn l) p f=some ((l.filter q).map g):=by
 rw[MM.comp (fun x:Int=>q x.toNat) (fun x:Int=>g x.toNat) (by rw[qy]; exact hl) (fun x hx=>by
   obtain⟨t,ht,rfl⟩:=mem_zn.mp hx;rw[hp t ht]; rfl) (fun x hx e=>by
   obtain⟨t,ht,rfl⟩:=mem_zn.mp hx;rw[hf t ht e]; rfl)]
 congr 1;unfold zn;rw[List.filter_map,List.map_map];rfl
theorem ZD {l:List Nat}{f:Int->Option β} (g:Nat->β) (hl:l.length<=16777216) (hf:∀ k∈l,f (k:Int)=some (g k)):qa (zn l) (fun _=>some true) f=some (l.map g):=by
 rw[jfX (fun _=>true) g hl (fun _ _=>rfl) fun k hk _=>hf k hk,List.filter_eq_self.mpr (fun _ _=>rfl)]
theorem Jz {j:Nat} (o:Ok P n) (hj:j<n) (h:bl P n i j=true):i<j:=(((JZ o hj).mp h).lt o).1
theorem VG {j k:Nat} (o:Ok P n) (hk:k<n) (h:bl P n i j=true) (h':bl P n j k=true):bl P n i k=true:=by
 have hj:j<n:=Nat.lt_trans (Jz o hk h') hk;exact(JZ o hk).mpr (((JZ o hj).mp h).trans ((JZ o hk).mp h'))
theorem jik {b:Nat} (hd:dsB P n b=true):b<2 ^ n:=by
 unfold dsB at hd;rw[XF] at hd;exact wd hd.1
theorem J0 {t:Nat} (o:Ok P n) (ht:t<n):bl P n t t=false:=by
 cases h:bl P n t t with
 | false=>rfl
 | true=>exact absurd (Jz o ht h) (Nat.lt_irrefl _)
def gr (P:List (Nat×Nat)) (n b:Nat):Nat:=bN n fun s=>(Dr P n b).any fun t=>decide (s=t)||bl P n s t
def gb (P:List (Nat×Nat)) (n b:Nat):Nat:=bN n fun s=>!((Br P n b).any fun t=>decide (s=t)||bl P n t s)
theorem Qy {b s:Nat} (hs:s<n):(gr P n b).testBit s=true ↔ ∃ t∈Dr P n b,s=t \/ bl P n s t=true:=by
 unfold gr;rw[jeS hs,List.any_eq_true];simp only[wp,Xu]
theorem jho {b s:Nat} (hs:s<n):(gb P n b).testBit s=true ↔ ∀ t∈Br P n b,s≠t/\bl P n t s=false:=by
 unfold gb;rw[jeS hs,Bool.not_eq_true',List.any_eq_false];constructor
 ·intro h t ht;have:=h t ht;rw[Bool.not_eq_true,Bool.or_eq_false_iff,decide_eq_false_iff_not] at this;exact this
 ·intro h t ht;rw[Bool.not_eq_true,Bool.or_eq_false_iff,decide_eq_false_iff_not];exact h t ht
theorem jhp {b:Nat} (o:Ok P n):dsB P n (gr P n b)=true:=by
 refine(jcx o).mpr ⟨jd0 _ _,fun s t ht h1 h2=>?_⟩;have hs:s<n:=Nat.lt_trans (Jz o ht h2) ht;obtain⟨d,hd,r⟩:=(Qy ht).mp h1;refine(Qy hs).mpr ⟨d,hd,.inr ?_⟩;rcases r with rfl | r
 ·exact h2
 ·exact VG o ((yJ o).mp hd).1 h2 r
theorem jan {b:Nat} (o:Ok P n):∀ (k s:Nat),s<=k->s<n->b.testBit s=false->∃ d∈Dr P n b,s=d \/ bl P n d s=true:=by
 intro k
 induction k with
 | zero=>
  intro s hk hs hb;refine⟨s,(yJ o).mpr ⟨hs,hb,fun r hr h=>?_⟩,.inl rfl⟩;have:=Jz o hs h;omega
 | succ k ih=>
  intro s hk hs hb;by_cases h:s∈Dr P n b
  ·exact⟨s,h,.inl rfl⟩
  ·obtain⟨r,hr,hrb,hrs⟩:∃ r,r<n/\b.testBit r=false/\bl P n r s=true:=by
    apply Classical.byContradiction;intro hn;refine h ((yJ o).mpr ⟨hs,hb,fun r hr hrs=>?_⟩);cases hz:b.testBit r with
    | true=>rfl
    | false=>exact absurd ⟨r,hr,hz,hrs⟩ hn
   have:=Jz o hs hrs;obtain⟨d,hd,q⟩:=ih r (by omega) hr hrb;refine⟨d,hd,.inr ?_⟩;rcases q with rfl | q
   ·exact hrs
   ·exact VG o hs q hrs
theorem jhq {b t:Nat} (o:Ok P n):t∈Br P n (gr P n b) ↔ t∈Dr P n b:=by
 constructor
 ·intro h;obtain⟨ht,h1,h2⟩:=mem_Br.mp h;obtain⟨d,hd,r⟩:=(Qy ht).mp h1;rcases r with rfl | r
  ·exact hd
  ·have hdn:=((yJ o).mp hd).1;rw[h2 d hdn ((Qy hdn).mpr ⟨d,hd,.inl rfl⟩)] at r; cases r
 ·intro h;obtain⟨ht,h1,h2⟩:=(yJ o).mp h;refine mem_Br.mpr ⟨ht,(Qy ht).mpr ⟨t,h,.inl rfl⟩,fun s hs hsb=>?_⟩;cases hz:bl P n t s with
  | false=>rfl
  | true=>
   obtain⟨d,hd,r⟩:=(Qy hs).mp hsb;obtain⟨hdn,d1,d2⟩:=(yJ o).mp hd;have:bl P n t d=true:=by
    rcases r with rfl | r
    ·exact hz
    ·exact VG o hdn hz r
   rw[d2 t ht this] at h1; cases h1
theorem jil {b:Nat} (o:Ok P n) (hd:dsB P n b=true):gb P n (gr P n b)=b:=by
 obtain⟨hb,dc⟩:=(jcx o).mp hd;refine MM.eq_of_bits (jd0 _ _) hb fun s hs=>?_;show (gb P n (gr P n b)).testBit s=_;rw[XN,jho hs];constructor
 ·intro h;cases hz:b.testBit s with
  | true=>rfl
  | false=>
   obtain⟨d,hdd,r⟩:=jan o s s (Xm _) hs hz;obtain⟨a1,a2⟩:=h d ((jhq o).mpr hdd);rcases r with r | r
   ·exact absurd r a1
   ·rw[a2] at r; cases r
 ·intro h m hm;obtain⟨hmn,m1,m2⟩:=(yJ o).mp ((jhq o).mp hm);constructor
  ·intro e; subst e; rw[m1] at h; cases h
  ·cases hz:bl P n m s with
   | false=>rfl
   | true=>rw[dc m s hs h hz] at m1; cases m1
theorem ZE {l:List Nat} (h:∀ t∈l,t<n):MB.setN l<2 ^ n:=by
 refine Nat.lt_pow_two_of_testBit _ fun i hi=>?_;rw[MB.setN_bit];exact Xf fun hm=>by have:=h i hm; omega
theorem jim {b:Nat} (o:Ok P n):(Dr P n b).foldl (fun a t=>a ||| (bel P n).getD t 0) (MB.setN (Dr P n b))=gr P n b:=by
 have hdl:∀ t∈Dr P n b,t<n:=fun t ht=>((yJ o).mp ht).1;have bit:∀ i,((Dr P n b).foldl (fun a t=>a ||| (bel P n).getD t 0) (MB.setN (Dr P n b))).testBit i=(decide (i∈Dr P n b)||(Dr P n b).any fun t=>bl P n i t):=fun i=>by
  rw[Qx,MB.setN_bit];rfl
 refine MM.eq_of_bits (Nat.lt_pow_two_of_testBit _ fun i hi=>?_) (jd0 _ _) fun s hs=>?_
 ·rw[bit,Bool.or_eq_false_iff];refine⟨Xf fun hm=>by have:=hdl i hm; omega,List.any_eq_false.mpr fun t ht=>?_⟩;intro hz;have:=Jz o (hdl t ht) hz;have:=hdl t ht;omega
 ·rw[bit];show _=(gr P n b).testBit s;rw[XN,Qy hs,wp,Xu,List.any_eq_true];constructor
  ·rintro (h | ⟨t,ht,h⟩)
   ·exact⟨s,h,.inl rfl⟩
   ·exact⟨t,ht,.inr h⟩
  ·rintro⟨t,ht,rfl | h⟩
   ·exact .inl ht
   ·exact .inr ⟨t,ht,h⟩
theorem jcy {b:Nat}:ths n (MB.setN (Dr P n b))=Dr P n b:=by
 unfold ths
 conv=>rhs; unfold Dr
 refine List.filter_congr fun t ht=>?_;rw[MB.setN_bit,XN,Xu];unfold Dr;rw[XA];exact and_iff_right ht
theorem jcz {c:β->Option Bool}{f:β->Option β} (I:Nat->β->Prop) {R:β->Prop} (h:∀ k b,I k b->(c b=some false/\R b) \/ (c b=some true/\∃ b' k',f b=some b'/\k'<k/\I k' b')):∀ (m k:Nat) (b:β),k<m->I k b->∃ b',whM c f m b=some b'/\R b'
 | 0,k,b,hk,_=>absurd hk (Nat.not_lt_zero _)
 | m+1,k,b,hk,hI=>by
  rcases h k b hI with⟨h1,h2⟩ | ⟨h1,b',k',h2,h3,h4⟩
  ·exact⟨b,by rw[whM,h1,MM.bs,MM.cf],h2⟩
  ·obtain⟨b1,e1,r1⟩:=jcz I h m k' b' (by omega) h4;exact⟨b1,by rw[whM,h1,MM.bs,MM.ct,h2,MM.bs]; exact e1,r1⟩
theorem VH {c:β->Option Bool}{f:β->Option β}{T:Option δ->Prop}{b:β} (I:Nat->β->Prop) (R:β->Prop) (k:Nat) (hk:k<100000) (hI:I k b)
  (h:∀ k b,I k b->(c b=some false/\R b) \/ (c b=some true/\∃ b' k',f b=some b'/\k'<k/\I k' b')) (hT:∀ b,R b->T (kk b)):T ((pWh c f b).bind kk):=by
 obtain⟨b',e,r⟩:=jcz I h 100000 k b hk hI;unfold pWh;rw[e,MM.bs];exact hT b' r
theorem jao {f:β->α->Option (Fl β γ)}{kk:Fl β γ->Option δ}{R:Option δ->Prop} (I:Nat->β->Prop) (h0:I 0 b0) (hs:∀ k x b,l[k]?=some x->I k b->∃ b',f b x=some (.nx b')/\I (k+1) b')
  (hk:∀ b,I l.length b->R (kk (.nx b))):R ((Yw l b0 f).bind kk):=by
 obtain⟨b',e,h⟩:=MM.forR_inv I h0 hs;rw[e,MM.bs];exact hk b' h
structure Ln (P:List (Nat×Nat)) (n:Nat) (l:List Nat):Prop where
 nd:l.Nodup
 mem:∀ t,t∈l ↔ t<n
 pw:l.Pairwise fun x y=>bl P n y x=false
theorem Ln.len {l:List Nat} (h:Ln P n l):l.length=n:=by
 have a:=Ge id h.nd (fun x hx=>Xp.mpr ((h.mem x).mp hx)) (fun _ _ _ _ e=>e);have b:=Ge id (List.nodup_range (n:=n)) (fun x hx=>(h.mem x).mpr (Xp.mp hx)) (fun _ _ _ _ e=>e);rw[XL] at a b;omega
theorem Ln.before {l a:List Nat}{s t:Nat} (h:Ln P n l) (o:Ok P n) (e:l=a++t::c) (hb:bl P n s t=true):s∈a:=by
 have ht:t<n:=(h.mem t).mp (by rw[e]; simp);have hs:s<n:=Nat.lt_trans (Jz o ht hb) ht;have hm:=(h.mem s).mpr hs;rw[e] at hm;have pw:=h.pw;rw[e,XU] at pw;rcases List.mem_append.mp hm with hm | hm
 ·exact hm
 ·rcases List.mem_cons.mp hm with rfl | hm
  ·rw[J0 o ht] at hb; cases hb
  ·rw[(wf.mp pw.2.1).1 s hm] at hb; cases hb
theorem GQ {l:List Nat} (h:i+1<l.length):∃ a x y c,l=a++x::y::c/\a.length=i:=
 ⟨l.take i,l[i],l[i+1],l.drop (i+2),by rw[<- wA h,<- wA,List.take_append_drop],by rw[wx]; omega⟩
def swp (P:List (Nat×Nat)) (n:Nat) (l:List Nat) (i:Nat):List Nat:=if bl P n (l.getD i 0) (l.getD (i+1) 0)=true then l else (l.set i (l.getD (i+1) 0)).set (i+1) (l.getD i 0)
theorem jhr {a:List Nat}{x:Nat}:(a++x::c).getD a.length 0=x:=by simp
theorem jhs {a:List Nat}{x:Nat}:(a++x::y::c).getD (a.length+1) 0=y:=by simp
theorem jin {a:List Nat}{x:Nat}:((a++x::y::c).set a.length y).set (a.length+1) x=a++y::x::c:=by
 simp[List.set_append]
theorem Jo {a:List Nat}{x:Nat}:swp P n (a++x::y::c) a.length=if bl P n x y=true then a++x::y::c else a++y::x::c:=by
 unfold swp;rw[jhr,jhs,jin]
theorem Ln.exch {a:List Nat}{x:Nat} (h:Ln P n (a++x::y::c)) (hb:bl P n x y=false):Ln P n (a++y::x::c):=by
 have pm:(a++y::x::c).Perm (a++x::y::c):=List.Perm.append_left _ (List.Perm.swap _ _ _);obtain⟨nd,mem,pw⟩:=h;refine⟨pm.nodup_iff.mpr nd,fun t=>(pm.mem_iff).trans (mem t),?_⟩;rw[XU] at pw ⊢;obtain⟨h1,h2,h3⟩:=pw;rw[wf,wf] at h2;obtain⟨h4,h5,h6⟩:=h2;refine⟨h1,?_,fun p hp q hq=>h3 p hp q ?_⟩
 ·rw[wf,wf];refine⟨fun q hq=>?_,fun q hq=>h4 q (Xe _ hq),h6⟩;rcases List.mem_cons.mp hq with rfl | hq
  ·exact hb
  ·exact h5 q hq
 ·rcases List.mem_cons.mp hq with rfl | hq
  ·exact Xe _ Xg
  ·rcases List.mem_cons.mp hq with rfl | hq
   ·exact Xg
   ·exact Xe _ (Xe _ hq)
theorem Ln.swp {l:List Nat} (h:Ln P n l) (hi:i+1<n):Ln P n (swp P n l i):=by
 obtain⟨a,x,y,c,e,rfl⟩:=GQ (l:=l) (i:=i) (by rw[h.len]; exact hi);subst e;rw[Jo];split
 ·exact h
 ·rename_i hb
  exact h.exch (by simpa using hb)
theorem Ln.nb {a:List Nat}{x:Nat} (h:Ln P n (a++x::y::c)):bl P n y x=false:=by
 have pw:=h.pw;rw[XU,wf] at pw;exact pw.2.1.1 y Xg
theorem jfY {l:List Nat} (h:Ln P n l) (hi:i+1<n):Lw.swp P n (Lw.swp P n l i) i=l:=by
 obtain⟨a,x,y,c,e,rfl⟩:=GQ (l:=l) (i:=i) (by rw[h.len]; exact hi);subst e;rw[Jo];cases hb:bl P n x y with
 | true=>rw[if_pos rfl,Jo,if_pos hb]
 | false=>rw[if_neg (by decide),Jo,if_neg (by rw[h.nb]; decide)]
theorem jfZ {l:List Nat}{j:Nat} (hl:l.length=n) (hij:i+1<j) (hj:j+1<n):Lw.swp P n (Lw.swp P n l j) i=Lw.swp P n (Lw.swp P n l i) j:=by
 obtain⟨a,x,y,c,e,rfl⟩:=GQ (l:=l) (i:=i) (by omega);subst e;simp only[Xt,Xv] at hl;obtain⟨b,u,v,d,e,hb⟩:=GQ (l:=c) (i:=j-(a.length+2)) (by omega);subst e;have e1:∀ p q:Nat,a++p::q::(b++u::v::d)=(a++p::q::b)++u::v::d:=fun p q=>by simp
 have ej:∀ p q:Nat,j=(a++p::q::b).length:=fun p q=>by simp; omega
 have s1:∀ p q:Nat,Lw.swp P n (a++p::q::(b++u::v::d)) j=a++p::q::(b++if bl P n u v=true then u::v::d else v::u::d):=fun p q=>by
  rw[e1,ej p q,Jo];split <;> simp
 have s2:∀ r:List Nat,Lw.swp P n (a++x::y::r) a.length=if bl P n x y=true then a++x::y::r else a++y::x::r:=fun r=>Jo;rw[s1,s2,s2];split
 ·rw[s1]
 ·rw[s1]
theorem jcA:cut l none (some (i:Int))=l.take i:=by
 unfold cut;rw[HT.sIx_none,HT.sIx_nat,List.drop_zero,Nat.sub_zero];by_cases h:i<=l.length
 ·rw[Nat.min_eq_left h]
 ·rw[Nat.min_eq_right (by omega),List.take_of_length_le (Xm _),List.take_of_length_le (by omega)]
theorem QF:cut l (some (i:Int)) none=l.drop i:=by
 unfold cut;rw[HT.sIx_none,HT.sIx_nat];by_cases h:i<=l.length
 ·rw[Nat.min_eq_left h,List.take_of_length_le (by rw[List.length_drop]; omega)]
 ·rw[Nat.min_eq_right (by omega),Nat.sub_self,List.take_zero,List.drop_eq_nil_of_le (by omega)]
theorem W2 (l m:List Nat):zn (l++m)=zn l++zn m:=by simp[zn]
theorem jcB (t:Nat) (l:List Nat):zn (t::l)=(t:Int)::zn l:=rfl
theorem VI (l:List Nat) (i:Nat):(zn l).take i=zn (l.take i):=by simp[zn,List.map_take]
theorem VJ (l:List Nat) (i:Nat):(zn l).drop i=zn (l.drop i):=by simp[zn,List.map_drop]
theorem VL {a:List Nat}{x:Nat}:pAt (zn (a++x::c)) ((a.length:Nat):Int)=some (x:Int):=MM.at_nat (by simp[zn])
theorem jf0 {a:List Nat}{x:Nat}:pAt (zn (a++x::y::c)) (((a.length:Nat):Int)+1)=some (y:Int):=by
 have:((a.length:Nat):Int)+1=((a.length+1:Nat):Int):=by omega
 rw[this];exact MM.at_nat (by simp[zn])
theorem jio (h9:n<=100):jbY (n:Int)=some (zn (List.range n)):=by
 unfold jbY;rw[if_pos ⟨⟨by omega,by omega⟩,by omega⟩];unfold Jm;rw[Int.sub_zero,X7];congr 1;unfold zn;refine List.map_congr_left fun k _=>?_;omega
theorem W3 (f:α->List β) (k:Nat):∀ l:List α,(∀ x∈l,(f x).length<=k)->(l.flatMap f).length<=l.length * k
 | [],_=>by simp
 | a::l,h=>by
  have h1:=h a Xg;have h2:=W3 f k l fun x hx=>h x (Xe _ hx);rw[List.flatMap_cons,Xt,Xv,Nat.succ_mul];omega
theorem QG (P:List (Nat×Nat)) (h9:n<=9):(cvs P n).length<=81:=by
 unfold cvs;have:=W3 (cvL P n) n (List.range n) fun x _=>by
  unfold cvL;rw[Xr];have:=XQ (fun h=>cvB P n x h) ((List.range (n-(x+1))).map fun d=>x+1+d);rw[Xr,XL] at this;omega
 rw[XL] at this;have:n * n<=9 * 9:=Nat.mul_le_mul h9 h9;omega
theorem jcC {l h:Nat} (o:Ok P n):(l,h)∈cvs P n ↔ h<n/\bl P n l h=true/\∀ m,bl P n l m=true->bl P n m h=false:=by
 unfold cvs;rw[List.mem_flatMap];constructor
 ·rintro⟨x,hx,hm⟩;unfold cvL at hm;obtain⟨y,hy,e⟩:=XM.mp hm;obtain⟨h1,h2⟩:=XA.mp hy;obtain⟨d,hd,e2⟩:=XM.mp h1;have:=Xp.mp hd;injection e with e3 e4
  subst e3; subst e4; subst e2;unfold cvB at h2;rw[XF,Bool.not_eq_true',List.any_eq_false] at h2;refine⟨by omega,h2.1,fun m hm1=>?_⟩;cases hz:bl P n m (x+1+d) with
  | false=>rfl
  | true=>
   have l2:=Jz o (by omega) hz;have l1:=Jz o (by omega) hm1;have:=h2.2 (m-(x+1)) (Xp.mpr (by omega));have em:x+1+(m-(x+1))=m:=by omega
   rw[em,hz,hm1] at this;simp at this
 ·rintro⟨hh,hb,hm⟩;have lt:=Jz o hh hb;refine⟨l,Xp.mpr (by omega),?_⟩;unfold cvL;refine XM.mpr ⟨h,XA.mpr ⟨XM.mpr ⟨h-(l+1),Xp.mpr (by omega),by omega⟩,?_⟩,rfl⟩;unfold cvB;rw[XF,Bool.not_eq_true',List.any_eq_false];refine⟨hb,fun d hd=>?_⟩;rw[XF];rintro⟨z1,z2⟩;rw[hm _ z2] at z1; cases z1
def ja (P:List (Nat×Nat)) (n g:Nat):List Nat:=((cvs P n).filter fun p=>decide (p.1=g)).map (·.2)
def jw (P:List (Nat×Nat)) (n g:Nat):List Nat:=((cvs P n).filter fun p=>decide (p.2=g)).map (·.1)
theorem jcD {g h:Nat} (o:Ok P n):h∈ja P n g ↔ h<n/\bl P n g h=true/\∀ m,bl P n g m=true->bl P n m h=false:=by
 unfold ja;rw[<- jcC o,XM];constructor
 ·rintro⟨p,hp,rfl⟩;obtain⟨h1,h2⟩:=XA.mp hp;have:p.1=g:=wd h2;subst this;exact h1
 ·intro h1;exact⟨(g,h),XA.mpr ⟨h1,Xl rfl⟩,rfl⟩
theorem jcE {g l:Nat} (o:Ok P n):l∈jw P n g ↔ g<n/\bl P n l g=true/\∀ m,bl P n l m=true->bl P n m g=false:=by
 unfold jw;rw[<- jcC o,XM];constructor
 ·rintro⟨p,hp,rfl⟩;obtain⟨h1,h2⟩:=XA.mp hp;have:p.2=g:=wd h2;subst this;exact h1
 ·intro h1;exact⟨(l,g),XA.mpr ⟨h1,Xl rfl⟩,rfl⟩
structure Sg (P:List (Nat×Nat)) (n:Nat) (r:List Nat):Prop where
 nd:r.Nodup
 lt:∀ t∈r,t<n
 pw:r.Pairwise fun x y=>bl P n y x=false
 cv:∀ x y m,x∈r->y∈r->bl P n x m=true->bl P n m y=true->m∈r
theorem Ln.sg {l:List Nat} (o:Ok P n) (h:Ln P n l):Sg P n l:=
 ⟨h.nd,fun t ht=>(h.mem t).mp ht,h.pw,fun x y m _ hy _ h2=>(h.mem m).mpr (Nat.lt_trans (Jz o ((h.mem y).mp hy) h2) ((h.mem y).mp hy))⟩
theorem U0 {u v:List Nat}{k:Nat} (h:k∉u):jaf (zn (u++k::v)) (k:Int)=some (u.length:Int):=by
 have e:(zn (u++k::v)).findIdx? (fun x=>decide (x=(k:Int)))=some u.length:=by
  rw[List.findIdx?_eq_some_iff_getElem];refine⟨by rw[qy]; simp,?_,fun i hi=>?_⟩
  ·simp[zn]
  ·have hi2:i<u.length:=hi;simp only[zn,List.getElem_map,Xu];rw[List.getElem_append_left hi2];intro q;have:u[i]=k:=by omega
   exact h (this ▸ List.getElem_mem hi2)
 unfold jaf;rw[e];rfl
def hgh (r tt:List Nat):List Int:=(tt.filter fun k=>decide (k∈r)).map fun (k:Nat)=>(jaf (zn r) (k:Int)).getD 0
theorem mem_hgh {r:List Nat}{x:Int}:x∈hgh r tt ↔ ∃ k∈tt,k∈r/\x=(jaf (zn r) (k:Int)).getD 0:=by
 unfold hgh;rw[XM];constructor
 ·rintro⟨k,hk,rfl⟩;obtain⟨h1,h2⟩:=XA.mp hk;exact⟨k,h1,wd h2,rfl⟩
 ·rintro⟨k,h1,h2,rfl⟩;exact⟨k,XA.mpr ⟨h1,Xl h2⟩,rfl⟩
theorem QH {u v:List Nat}{k:Nat} (h:(u++k::v).Nodup):k∉u:=fun z=>by
 rw[List.nodup_append] at h;exact h.2.2 k z k Xg rfl
theorem jap {g:Nat}{u v:List Nat} (o:Ok P n) (S:Sg P n (u++g::v)) (h:∀ x∈v,bl P n g x=false):hgh (u++g::v) (ja P n g)=[]:=by
 rw[List.eq_nil_iff_forall_not_mem];intro x hx;obtain⟨k,hk,hkr,_⟩:=mem_hgh.mp hx;obtain⟨k1,k2,k3⟩:=(jcD o).mp hk;have pw:=S.pw;rw[XU] at pw;rcases List.mem_append.mp hkr with z | z
 ·rw[pw.2.2 k z g Xg] at k2; cases k2
 ·rcases List.mem_cons.mp z with rfl | z
  ·rw[J0 o k1] at k2; cases k2
  ·rw[h k z] at k2; cases k2
theorem jaq {g x:Nat}{u a b:List Nat} (o:Ok P n) (S:Sg P n (u++g::(a++x::b))) (ha:∀ y∈a,bl P n g y=false) (hx:bl P n g x=true) :
  hgh (u++g::(a++x::b)) (ja P n g)≠[]/\jag (hgh (u++g::(a++x::b)) (ja P n g))=((u.length+1+a.length:Nat):Int):=by
 have e1:u++g::(a++x::b)=(u++g::a)++x::b:=by simp
 have pw:=S.pw;have nd:=S.nd;have hxn:x<n:=S.lt x (by simp);have pw1:=pw;rw[XU] at pw1;have pw2:=pw;rw[e1,XU] at pw2;have hxr:x∈u++g::(a++x::b):=by simp
 have hgr:g∈u++g::(a++x::b):=by simp
 have jx:x∈ja P n g:=(jcD o).mpr ⟨hxn,hx,fun m hm=>by
  cases hz:bl P n m x with
  | false=>rfl
  | true=>
   have hmr:=S.cv g x m hgr hxr hm hz;rw[e1] at hmr;rcases List.mem_append.mp hmr with z | z
   ·rcases List.mem_append.mp z with z | z
    ·rw[pw1.2.2 m z g Xg] at hm; cases hm
    ·rcases List.mem_cons.mp z with rfl | z
     ·rw[J0 o (S.lt m hgr)] at hm; cases hm
     ·rw[ha m z] at hm; cases hm
   ·rcases List.mem_cons.mp z with rfl | z
    ·rw[J0 o hxn] at hz; cases hz
    ·rw[(wf.mp pw2.2.1).1 m z] at hz; cases hz⟩
 have ix:(jaf (zn (u++g::(a++x::b))) (x:Int)).getD 0=((u.length+1+a.length:Nat):Int):=by
  rw[e1,U0 (QH (by rw[<- e1]; exact nd))];simp;omega
 have mx:((u.length+1+a.length:Nat):Int)∈hgh (u++g::(a++x::b)) (ja P n g):=mem_hgh.mpr ⟨x,jx,hxr,ix.symm⟩;have ne:hgh (u++g::(a++x::b)) (ja P n g)≠[]:=List.ne_nil_of_mem mx;obtain⟨m1,m2⟩:=Q7 ne;refine⟨ne,Int.le_antisymm (m2 _ mx) ?_⟩;obtain⟨k,hk,hkr,ek⟩:=mem_hgh.mp m1;obtain⟨k1,k2,k3⟩:=(jcD o).mp hk;rw[ek];rw[e1] at hkr;rcases List.mem_append.mp hkr with z | z
 ·rcases List.mem_append.mp z with z | z
  ·rw[pw1.2.2 k z g Xg] at k2; cases k2
  ·rcases List.mem_cons.mp z with rfl | z
   ·rw[J0 o k1] at k2; cases k2
   ·rw[ha k z] at k2; cases k2
 ·rcases List.mem_cons.mp z with rfl | z
  ·rw[ix]; exact Int.le_refl _
  ·obtain⟨c,d,rfl⟩:=List.append_of_mem z;have e3:u++g::(a++x::(c++k::d))=(u++g::(a++x::c))++k::d:=by simp
   rw[e3,U0 (QH (by rw[<- e3]; exact nd))];simp;omega
theorem jar {g:Nat}{u v:List Nat} (o:Ok P n) (S:Sg P n (u++g::v)) (h:∀ x∈u,bl P n x g=false):hgh (u++g::v) (jw P n g)=[]:=by
 rw[List.eq_nil_iff_forall_not_mem];intro x hx;obtain⟨k,hk,hkr,_⟩:=mem_hgh.mp hx;obtain⟨k1,k2,k3⟩:=(jcE o).mp hk;have pw:=S.pw;rw[XU,wf] at pw;rcases List.mem_append.mp hkr with z | z
 ·rw[h k z] at k2; cases k2
 ·rcases List.mem_cons.mp z with rfl | z
  ·rw[J0 o k1] at k2; cases k2
  ·rw[pw.2.1.1 k z] at k2; cases k2
theorem jas {g x:Nat}{a b v:List Nat} (o:Ok P n) (S:Sg P n ((a++x::b)++g::v)) (hb:∀ y∈b,bl P n y g=false) (hx:bl P n x g=true) :
  hgh ((a++x::b)++g::v) (jw P n g)≠[]/\jah (hgh ((a++x::b)++g::v) (jw P n g))=((a.length:Nat):Int):=by
 have e1:(a++x::b)++g::v=a++x::(b++g::v):=by simp
 have pw:=S.pw;have nd:=S.nd;have hxr:x∈(a++x::b)++g::v:=by simp
 have hgr:g∈(a++x::b)++g::v:=by simp
 have hgn:g<n:=S.lt g hgr;have pw1:=pw;rw[XU,wf] at pw1;have pw2:=pw;rw[e1,XU] at pw2;have jx:x∈jw P n g:=(jcE o).mpr ⟨hgn,hx,fun m hm=>by
  cases hz:bl P n m g with
  | false=>rfl
  | true=>
   have hmr:=S.cv x g m hxr hgr hm hz;rcases List.mem_append.mp hmr with z | z
   ·rcases List.mem_append.mp z with z | z
    ·rw[pw2.2.2 m z x Xg] at hm; cases hm
    ·rcases List.mem_cons.mp z with rfl | z
     ·rw[J0 o (S.lt m hxr)] at hm; cases hm
     ·rw[hb m z] at hz; cases hz
   ·rcases List.mem_cons.mp z with rfl | z
    ·rw[J0 o hgn] at hz; cases hz
    ·rw[pw1.2.1.1 m z] at hz; cases hz⟩
 have ix:(jaf (zn ((a++x::b)++g::v)) (x:Int)).getD 0=((a.length:Nat):Int):=by
  rw[e1,U0 (QH (by rw[<- e1]; exact nd))];rfl
 have mx:((a.length:Nat):Int)∈hgh ((a++x::b)++g::v) (jw P n g):=mem_hgh.mpr ⟨x,jx,hxr,ix.symm⟩;have ne:hgh ((a++x::b)++g::v) (jw P n g)≠[]:=List.ne_nil_of_mem mx;obtain⟨m1,m2⟩:=Q8 ne;refine⟨ne,Int.le_antisymm ?_ (m2 _ mx)⟩;obtain⟨k,hk,hkr,ek⟩:=mem_hgh.mp m1;obtain⟨k1,k2,k3⟩:=(jcE o).mp hk;rw[ek];rcases List.mem_append.mp hkr with z | z
 ·rcases List.mem_append.mp z with z | z
  ·obtain⟨c,d,rfl⟩:=List.append_of_mem z;have e3:(c++k::d++x::b)++g::v=c++k::(d++x::b++g::v):=by simp
   rw[e3,U0 (QH (by rw[<- e3]; exact nd))];simp;omega
  ·rcases List.mem_cons.mp z with rfl | z
   ·rw[ix]; exact Int.le_refl _
   ·rw[hb k z] at k2; cases k2
 ·rcases List.mem_cons.mp z with rfl | z
  ·rw[J0 o hgn] at k2; cases k2
  ·rw[pw1.2.1.1 k z] at k2; cases k2
def QA (P:List (Nat×Nat)) (n:Nat):Nat->List Nat->List Nat
 | g,[]=>[g]
 | g,x::r=>if bl P n g x=true then g::QA P n x r else x::QA P n g r
def dmr (P:List (Nat×Nat)) (n:Nat):Nat->List Nat->List Nat
 | g,[]=>[g]
 | g,x::r=>if bl P n x g=true then dmr P n x r++[g] else dmr P n g r++[x]
def dm (P:List (Nat×Nat)) (n:Nat) (u:List Nat) (g:Nat):List Nat:=dmr P n g u.reverse
theorem W4 {g:Nat}:∀ {v:List Nat},(∀ x∈v,bl P n g x=false)->QA P n g v=v++[g]
 | [],_=>rfl
 | x::v,h=>by
  unfold QA;rw[if_neg (by rw[h x Xg]; decide),W4 fun y hy=>h y (Xe _ hy)];rfl
theorem W5 {g x:Nat}{b:List Nat} (hx:bl P n g x=true):∀ {a:List Nat},(∀ y∈a,bl P n g y=false)->QA P n g (a++x::b)=a++g::QA P n x b
 | [],_=>by
  show QA P n g (x::b)=_
  conv=>lhs; unfold QA
  rw[if_pos hx];rfl
 | y::a,h=>by
  show QA P n g (y::(a++x::b))=_
  conv=>lhs; unfold QA
  rw[if_neg (by rw[h y Xg]; decide),W5 hx fun z hz=>h z (Xe _ hz)];rfl
theorem jcF {g:Nat}{r:List Nat}:∀ {b:List Nat},(∀ y∈b,bl P n y g=false)->dmr P n g (b++r)=dmr P n g r++b.reverse
 | [],_=>by simp
 | y::b,h=>by
  show dmr P n g (y::(b++r))=_
  conv=>lhs; unfold dmr
  rw[if_neg (by rw[h y Xg]; decide),jcF fun z hz=>h z (Xe _ hz)];simp
theorem jf1 {g:Nat}{u:List Nat} (h:∀ x∈u,bl P n x g=false):dm P n u g=g::u:=by
 have:=jcF (r:=[]) (b:=u.reverse) fun y hy=>h y (List.mem_reverse.mp hy);rw[List.append_nil,List.reverse_reverse] at this;unfold dm;rw[this];rfl
theorem jf2 {g x:Nat}{a b:List Nat} (hx:bl P n x g=true) (h:∀ y∈b,bl P n y g=false):dm P n (a++x::b) g=dm P n a x++g::b:=by
 have e:(a++x::b).reverse=b.reverse++x::a.reverse:=by simp
 unfold dm;rw[e,jcF (fun y hy=>h y (List.mem_reverse.mp hy)),List.reverse_reverse]
 conv=>lhs; lhs; unfold dmr
 rw[if_pos hx];simp
theorem Uh (P:List (Nat×Nat)) (n g:Nat):∀ v:List Nat,(∀ x∈v,bl P n g x=false) \/ ∃ a x b,v=a++x::b/\(∀ y∈a,bl P n g y=false)/\bl P n g x=true
 | []=>.inl (by simp)
 | y::v=>by
  cases hy:bl P n g y with
  | true=>exact .inr ⟨[],y,v,rfl,by simp,hy⟩
  | false=>
   rcases Uh P n g v with h | ⟨a,x,b,rfl,h1,h2⟩
   ·left
    intro x hx;rcases List.mem_cons.mp hx with rfl | hx
    ·exact hy
    ·exact h x hx
   ·right
    refine⟨y::a,x,b,rfl,fun z hz=>?_,h2⟩;rcases List.mem_cons.mp hz with rfl | hz
    ·exact hy
    ·exact h1 z hz
theorem jat (P:List (Nat×Nat)) (n g:Nat) (u:List Nat):(∀ x∈u,bl P n x g=false) \/ ∃ a x b,u=a++x::b/\(∀ y∈b,bl P n y g=false)/\bl P n x g=true:=by
 have key:∀ r:List Nat,(∀ x∈r,bl P n x g=false) \/ ∃ a x b,r=a++x::b/\(∀ y∈a,bl P n y g=false)/\bl P n x g=true:=by
  intro r
  induction r with
  | nil=>exact .inl (by simp)
  | cons y v ih=>
   cases hy:bl P n y g with
   | true=>exact .inr ⟨[],y,v,rfl,by simp,hy⟩
   | false=>
    rcases ih with h | ⟨a,x,b,rfl,h1,h2⟩
    ·left
     intro x hx;rcases List.mem_cons.mp hx with rfl | hx
     ·exact hy
     ·exact h x hx
    ·right
     refine⟨y::a,x,b,rfl,fun z hz=>?_,h2⟩;rcases List.mem_cons.mp hz with rfl | hz
     ·exact hy
     ·exact h1 z hz
 rcases key u.reverse with h | ⟨a,x,b,e,h1,h2⟩
 ·exact .inl fun x hx=>h x (List.mem_reverse.mpr hx)
 ·refine .inr ⟨b.reverse,x,a.reverse,?_,fun y hy=>h1 y (List.mem_reverse.mp hy),h2⟩;have:=congrArg List.reverse e;rw[List.reverse_reverse] at this;rw[this];simp
theorem Qg {P:List (Nat×Nat)}{n:Nat}:∀ (v a:List Nat) (g:Nat),(List.range' a.length v.length).foldl (swp P n) (a++g::v)=a++QA P n g v
 | [],a,g=>rfl
 | x::v,a,g=>by
  rw[Xv,List.range'_succ,wt,Jo]
  conv=>rhs; unfold QA
  split
  ·have:=Qg (P:=P) (n:=n) v (a++[g]) x;simp only[Xt,wq,List.append_assoc,List.singleton_append] at this;exact this
  ·have:=Qg (P:=P) (n:=n) v (a++[x]) g;simp only[Xt,wq,List.append_assoc,List.singleton_append] at this;exact this
theorem jd4 {l:List Nat} (L:Ln P n l) (h1:1<=n):∃ g v,l=g::v/\(List.range (n-1)).foldl (swp P n) l=QA P n g v:=by
 have hlen:=L.len;cases l with
 | nil=>simp at hlen; omega
 | cons g v=>
  refine⟨g,v,rfl,?_⟩;have:=Qg (P:=P) (n:=n) v [] g;rw[Xv] at hlen;have e:List.range (n-1)=List.range' 0 v.length:=by rw[List.range_eq_range']; congr 1; omega
  rw[e];exact this
section
variable {X:Type}{f:Nat->X->X}{S:X->Prop}{N:Nat}
def act (f:Nat->X->X) (w:List Nat) (x:X):X:=w.foldl (fun x i=>f i x) x
structure Far (f:Nat->X->X) (S:X->Prop) (N:Nat):Prop where
 st:∀ {x:X}{i:Nat},S x->i<N->S (f i x)
 far:∀ {x:X}{i j:Nat},S x->i+1<j->j<N->f i (f j x)=f j (f i x)
theorem jcG (f:Nat->X->X) (u v:List Nat) (x:X):act f (u++v) x=act f v (act f u x):=List.foldl_append
theorem jd5 (f:Nat->X->X) (i:Nat) (v:List Nat) (x:X):act f (i::v) x=act f v (f i x):=rfl
def eW (N m:Nat):List Nat:=List.range' m (N-m)
def rW (N m:Nat):List Nat:=(eW N m).reverse
def bW (N m:Nat):List Nat:=(List.range' m (N-m)).flatMap (rW N)
theorem jht {m:Nat} (h:i∈eW N m):m<=i/\i<N:=by
 unfold eW at h;have:=List.mem_range'_1.mp h;omega
theorem jeT {m:Nat} (h:i∈rW N m):m<=i/\i<N:=jht (List.mem_reverse.mp h)
def dW (k:Nat):List Nat:=(List.range' 1 k).reverse.flatMap List.range
theorem jhu {k:Nat} (h:i∈dW k):i<k:=by
 obtain⟨m,hm,hi⟩:=List.mem_flatMap.mp h;have:=List.mem_range'_1.mp (List.mem_reverse.mp hm);have:=Xp.mp hi;omega
theorem jcH:(List.range N).map (fun i=>N-i)=(List.range' 1 N).reverse:=by
 refine List.ext_getElem (by simp) fun i h1 h2=>?_;simp at h1;simp;omega
theorem jip:dW N=(List.range N).flatMap fun i=>List.range (N-i):=by
 unfold dW;rw[<- jcH,List.flatMap_map]
theorem jf3:bW N 0=(List.range N).flatMap (rW N):=by
 unfold bW;rw[Nat.sub_zero,List.range_eq_range']
theorem Far.rev (F:Far f S N) (hi:∀ {x:X}{i:Nat},S x->i<N->f i (f i x)=x):∀ {w:List Nat}{x:X},(∀ i∈w,i<N)->S x->Lw.act f (w++w.reverse) x=x
 | [],x,_,_=>rfl
 | i::w,x,hw,hx=>by
  have h1:=hw i Xg;rw[List.cons_append,jd5,List.reverse_cons,<- List.append_assoc,jcG,Far.rev F hi (fun j hj=>hw j (Xe _ hj)) (F.st hx h1)];exact hi hx h1
end
theorem jd6:Far (fun i l=>swp P n l i) (Ln P n) (n-1) where
 st:=fun h hi=>h.swp (by omega)
 far:=fun h h1 h2=>jfZ h.len h1 (by omega)
end Lw
namespace MM
open PySem L2 L3
section
variable [DecidableEq κ]
theorem isK_iff {l:List (κ×α)}{k:κ}:isK k l=true ↔ k∈l.map (·.1):=by
 unfold isK Qe;rw[Option.isSome_map,List.find?_isSome];simp only[decide_eq_true_eq,List.mem_map]
theorem jf4 {l:List (κ×α)}{k b:κ}{v:α}:b∈(Zt l k v).map (·.1) ↔ b=k \/ b∈l.map (·.1):=by
 unfold Zt;cases h:l.any (fun p=>decide (p.1=k)) with
 | true=>
  rw[cond_true];have e:(l.map fun p=>bif decide (p.1=k) then (p.1,v) else p).map (·.1)=l.map (·.1):=by
   rw[List.map_map];refine List.map_congr_left fun p _=>?_;show (bif decide (p.1=k) then (p.1,v) else p).1=p.1;cases decide (p.1=k) <;> rfl
  rw[e];constructor
  ·exact Or.inr
  ·rintro (rfl | h')
   ·obtain⟨p,hp,e⟩:=List.any_eq_true.mp h;exact List.mem_map.mpr ⟨p,hp,of_decide_eq_true e⟩
   ·exact h'
 | false=>
  rw[cond_false,List.map_append,List.mem_append,List.map_singleton,List.mem_singleton];exact Or.comm
theorem put_len {l:List (κ×α)}{k:κ}{v:α}:(Zt l k v).length<=l.length+1:=by
 unfold Zt;cases l.any (fun p=>decide (p.1=k)) with
 | true=>rw[cond_true,List.length_map]; omega
 | false=>rw[cond_false,List.length_append]; simp
theorem pPut_some {l:List (κ×α)}{k:κ}{v:α} (h:l.length<16777216):WT l k v=some (Zt l k v):=by unfold WT; exact if_pos h
theorem put_all {v:α}{f:List (κ×α)->κ->Option (List (κ×α))}:∀ {l:List κ}{d:List (κ×α)},l.length+d.length<16777216->(∀ d k,d.length<16777216->f d k=some (Zt d k v))->∃ d',L3.forM l d f=some d'/\(∀ k,k∈d'.map (·.1) ↔ k∈l \/ k∈d.map (·.1))/\d'.length<=l.length+d.length
 | [],d,_,_=>⟨d,rfl,fun k=>by simp,by simp⟩
 | x::r,d,h,hf=>by
  have hl:=put_len (l:=d) (k:=x) (v:=v);rw[List.length_cons] at h;obtain⟨d',e,hk,hn⟩:=put_all (v:=v) (l:=r) (d:=Zt d x v) (by omega) hf;refine⟨d',?_,fun k=>?_,by rw[List.length_cons]; omega⟩
  ·rw[forM_cons,hf d x (by omega),bs];exact e
  ·rw[hk,jf4,List.mem_cons];constructor
   ·rintro (h | h | h)
    ·exact .inl (.inr h)
    ·exact .inl (.inl h)
    ·exact .inr h
   ·rintro ((h | h) | h)
    ·exact .inr (.inl h)
    ·exact .inl h
    ·exact .inr (.inr h)
end
end MM
namespace Lw
theorem jhV (c:Int) {m:Nat} (h:0<m):∃ k:Nat,k<m/\c % (m:Int)=(k:Int):=by
 have h1:=Int.emod_nonneg c (show (m:Int)≠0 by omega);have h2:=Int.emod_lt_of_pos c (show (0:Int)<(m:Int) by omega);exact⟨(c % (m:Int)).toNat,by omega,by omega⟩
end Lw
namespace Lw
open PySem L2 L3 M01
theorem jhv {l:List Nat} (o:Ok P n) (hlt:l.length<n):0<(Dr P n (MB.setN l)).length/\(Dr P n (MB.setN l)).length<=n:=by
 have hb:∀ s,(MB.setN l).testBit s=true ↔ s∈l:=fun s=>by rw[MB.setN_bit,Xu]
 have hdl:(Dr P n (MB.setN l)).length<=n:=by
  have:=XQ (fun t=>!(MB.setN l).testBit t&&decide ((MB.setN l) &&& (bel P n).getD t 0=(bel P n).getD t 0)) (List.range n);rw[XL] at this;exact this
 refine⟨?_,hdl⟩;rcases Nat.eq_zero_or_pos (Dr P n (MB.setN l)).length with h0 | h0
 ·have:=jhm o (List.length_eq_zero_iff.mp h0);have b:=Ge id (List.nodup_range (n:=n)) (fun x hx=>(hb x).mp (this x (Xp.mp hx))) (fun _ _ _ _ e=>e);rw[XL] at b;omega
 ·exact h0
structure Bg (P:List (Nat×Nat)) (n:Nat) (l:List Nat):Prop where
 nd:l.Nodup
 lt:∀ t∈l,t<n
 pw:l.Pairwise fun x y=>bl P n y x=false
 dc:∀ t∈l,∀ s,bl P n s t=true->s∈l
theorem Bg.snoc {d:Nat}{l:List Nat} (o:Ok P n) (b:Bg P n l) (hd:d∈Dr P n (MB.setN l)):Bg P n (l++[d]):=by
 have hb:∀ s,(MB.setN l).testBit s=true ↔ s∈l:=fun s=>by rw[MB.setN_bit,Xu]
 obtain⟨d1,d2,d3⟩:=(yJ o).mp hd;have dn:d∉l:=fun z=>by rw[(hb d).mpr z] at d2; cases d2
 have dlow:∀ s,bl P n s d=true->s∈l:=fun s hs=>(hb s).mp (d3 s (Nat.lt_trans (Jz o d1 hs) d1) hs);refine⟨?_,fun t ht=>?_,?_,fun t ht s hs=>?_⟩
 ·rw[List.nodup_append];exact⟨b.nd,by simp,fun a ha b hb e=>by rw[wz] at hb; subst hb; subst e; exact dn ha⟩
 ·rcases List.mem_append.mp ht with ht | ht
  ·exact b.lt t ht
  ·rw[wz.mp ht]; exact d1
 ·rw[XU];refine⟨b.pw,by simp,fun a ha x hx=>?_⟩;rw[wz] at hx;subst hx;cases hz:bl P n x a with
  | false=>rfl
  | true=>exact absurd (b.dc a ha x hz) dn
 ·rcases List.mem_append.mp ht with ht | ht
  ·exact List.mem_append_left _ (b.dc t ht s hs)
  ·rw[wz.mp ht] at hs;exact List.mem_append_left _ (dlow s hs)
theorem Bg.ln {l:List Nat} (b:Bg P n l) (hl:l.length=n):Ln P n l:=by
 refine⟨b.nd,fun t=>⟨b.lt t,fun ht=>?_⟩,b.pw⟩;apply Classical.byContradiction;intro hn;have a:=Ge id (A:=t::l) (B:=List.range n) (List.nodup_cons.mpr ⟨hn,b.nd⟩) (fun x hx=>Xp.mpr (by
  rcases List.mem_cons.mp hx with rfl | hx
  ·exact ht
  ·exact b.lt x hx)) (fun _ _ _ _ e=>e)
 rw[XL,Xv] at a;omega
theorem jhw {l m:List Nat} (h:zn l=zn m):l=m:=by
 unfold zn at h;exact(List.map_inj_right (fun a b e=>Int.ofNat.inj e)).mp h
theorem bsI (x:Option α):x.bind some=x:=by cases x <;> rfl
section
def itr (f:α->α):Nat->α->α
 | 0,x=>x
 | k+1,x=>f (itr f k x)
theorem jcI (f:α->α) (i:Nat):∀ (j:Nat) (x:α),itr f (j+i) x=itr f j (itr f i x)
 | 0,x=>by rw[Nat.zero_add]; rfl
 | j+1,x=>by rw[Nat.succ_add]; exact congrArg f (jcI f i j x)
theorem GR {S:α->Prop}{f:α->α} (hf:∀ x,S x->S (f x)) {x:α} (hx:S x):∀ k,S (itr f k x)
 | 0=>hx
 | k+1=>hf _ (GR hf hx k)
theorem ZF {S:α->Prop}{f g:α->α} (hf:∀ x,S x->S (f x)) (hg:∀ x,S x->g (f x)=x) {x y:α} (hx:S x) (hy:S y):∀ k,itr f k x=itr f k y->x=y
 | 0,h=>h
 | k+1,h=>by
  have h':f (itr f k x)=f (itr f k y):=h;have e:=congrArg g h';rw[hg _ (GR hf hx k),hg _ (GR hf hy k)] at e;exact ZF hf hg hx hy k e
theorem jhx {p:Nat->Prop}:∀ (m:Nat),(∃ k,0<k/\k<=m/\p k)->∃ k,0<k/\k<=m/\p k/\∀ i,0<i->i<k->¬ p i
 | 0,⟨k,h1,h2,_⟩=>by omega
 | m+1,h=>by
  by_cases q:∃ k,0<k/\k<=m/\p k
  ·obtain⟨k,h1,h2,h3,h4⟩:=jhx m q;exact⟨k,h1,by omega,h3,h4⟩
  ·obtain⟨k,h1,h2,h3⟩:=h;refine⟨k,h1,h2,h3,fun i hi hik hp=>q ⟨i,hi,by omega,hp⟩⟩
theorem jeU {S:α->Prop}{f g:α->α} (hf:∀ x,S x->S (f x)) (hg:∀ x,S x->g (f x)=x) (c:α->Nat) {M:Nat} (hc:∀ x y,S x->S y->c x=c y->x=y) (hM:∀ x,S x->c x<M) {x:α} (hx:S x) :
  ∃ p,0<p/\p<=M/\itr f p x=x/\∀ i,0<i->i<p->itr f i x≠x:=by
 refine jhx (p:=fun k=>itr f k x=x) M ?_;by_cases q:∃ k,0<k/\k<=M/\itr f k x=x
 ·exact q
 ·exfalso
  have key:∀ i j,i<j->j<=M->itr f i x≠itr f j x:=fun i j hij hj e=>by
   have e2:itr f j x=itr f i (itr f (j-i) x):=by rw[<- jcI]; congr 1; omega
   rw[e2] at e;have:=ZF hf hg hx (GR hf hx (j-i)) i e;exact q ⟨j-i,by omega,by omega,this.symm⟩
  have h:=Ge (fun k=>c (itr f k x)) (A:=List.range (M+1)) (B:=List.range M) List.nodup_range (fun k _=>Xp.mpr (hM _ (GR hf hx k))) (fun i hi j hj e=>by
   have hi:=Xp.mp hi;have hj:=Xp.mp hj;have e:=hc _ _ (GR hf hx i) (GR hf hx j) e;rcases Nat.lt_trichotomy i j with z | z | z
   ·exact absurd e (key i j z (by omega))
   ·exact z
   ·exact absurd e.symm (key j i z (by omega)))
  rw[XL,XL] at h;omega
def rnd (e:α->β) (f:α->α) (p:Nat) (x:α):List β:=(List.range p).map fun i=>e (itr f i x)
theorem VM (e:α->β) (f:α->α) (p:Nat) (x:α):(rnd e f p x).length=p:=by simp[rnd]
theorem QI {S:α->Prop}{f:α->α} (e:α->β) {done:β->Option β}{T:β->Bool}{x:α}{p:Nat} (hf:∀ x,S x->S (f x)) (hx:S x) (hd:∀ y,S y->done (e y)=some (e (f y))) (hT:∀ y,S y->(T (e y)=false ↔ y=x))
  (hp:0<p) (hM:p<=50000) (h1:itr f p x=x) (h2:∀ i,0<i->i<p->itr f i x≠x) :
  ((pWh (fun (z:List β×β)=>some (T z.2)) (fun z=>(JN z.1 z.2).bind fun circle=>(done z.2).bind fun following=>some (circle,following)) ([e x],e (f x))).bind fun z2=>some z2.1)=some (rnd e f p x):=by
 refine VH (T:=fun r=>r=some (rnd e f p x)) (fun k (z:List β×β)=>∃ i,k+i=p/\0<i/\z.1=rnd e f i x/\z.2=e (itr f i x)) (fun z=>z.1=rnd e f p x) (p-1) (by omega) ⟨1,by omega,by omega,rfl,rfl⟩ ?_ ?_
 ·rintro k ⟨z1,z2⟩ ⟨i,hk,hi,rfl,rfl⟩;dsimp only;by_cases q:i=p
  ·left
   subst q;refine⟨?_,rfl⟩;rw[(hT _ (GR hf hx i)).mpr h1]
  ·right
   have ht:T (e (itr f i x))=true:=by
    cases c:T (e (itr f i x)) with
    | true=>rfl
    | false=>exact absurd ((hT _ (GR hf hx i)).mp c) (h2 i hi (by omega))
   refine⟨by rw[ht],?_⟩;rw[MM.app (by rw[VM]; omega),MM.bs,hd _ (GR hf hx i),MM.bs];refine⟨_,k-1,rfl,by omega,i+1,by omega,by omega,?_,rfl⟩;unfold rnd;rw[wa,wb];rfl
 ·rintro⟨z1,z2⟩ rfl;rfl
end
def cod (n:Nat) (l:List Nat):Nat:=l.foldl (fun a t=>a * n+t) 0
theorem ZG:∀ (l:List Nat) (a:Nat),(∀ t∈l,t<n)->∃ r,r<n ^ l.length/\l.foldl (fun a t=>a * n+t) a=a * n ^ l.length+r
 | [],a,_=>⟨0,by simp,by simp⟩
 | t::l,a,h=>by
  obtain⟨r,h1,h2⟩:=ZG l (a * n+t) fun s hs=>h s (Xe _ hs);have ht:=h t Xg;refine⟨t * n ^ l.length+r,?_,?_⟩
  ·rw[Xv,Nat.pow_succ,Nat.mul_comm (n ^ l.length) n];have h3:(t+1) * n ^ l.length<=n * n ^ l.length:=Nat.mul_le_mul_right _ ht;rw[Nat.add_mul,Nat.one_mul] at h3;omega
  ·rw[wt,h2,Xv,Nat.pow_succ,Nat.add_mul,Nat.mul_assoc,Nat.mul_comm n,Nat.add_assoc]
theorem jcJ {n:Nat}:∀ {l m:List Nat}{a b:Nat},l.length=m.length->(∀ t∈l,t<n)->(∀ t∈m,t<n)->l.foldl (fun a t=>a * n+t) a=m.foldl (fun a t=>a * n+t) b->a=b/\l=m
 | [],[],a,b,_,_,_,h=>⟨h,rfl⟩
 | [],_::_,_,_,h,_,_,_=>by simp at h
 | _::_,[],_,_,h,_,_,_=>by simp at h
 | t::l,u::m,a,b,hl,h1,h2,h=>by
  have ht:=h1 t Xg;have hu:=h2 u Xg;obtain⟨e1,e2⟩:=jcJ (l:=l) (m:=m) (a:=a * n+t) (b:=b * n+u) (by simpa using hl) (fun s hs=>h1 s (Xe _ hs)) (fun s hs=>h2 s (Xe _ hs)) h;have e3:t=u:=by
   have:=congrArg (· % n) e1;simp only[Nat.mul_add_mod_self_right,Nat.mod_eq_of_lt ht,Nat.mod_eq_of_lt hu] at this;exact this
  subst e3;subst e2;have e4:a * n=b * n:=by omega
  exact⟨Nat.eq_of_mul_eq_mul_right (by omega) e4,rfl⟩
theorem jhy {l:List Nat} (h:∀ t∈l,t<n):cod n l<n ^ l.length:=by
 obtain⟨r,h1,h2⟩:=ZG l 0 h;unfold cod;rw[h2];omega
theorem zl (ns:List Int) (k:Nat):∃ c,kz ns (k:Int)=some c:=by
 unfold kz;simp only[MM.bs];by_cases h:0<ns.length
 ·have e:decide ((0:Int)<(ns.length:Int))=true:=Xl (by omega);have h2:k % ns.length<ns.length:=Nat.mod_lt _ h;have e2:(k:Int) % (ns.length:Int)=((k % ns.length:Nat):Int):=by simp
  rw[e,MM.modP (by omega),e2];simp only[MM.ct,MM.bs,MM.at_get h2];exact⟨_,rfl⟩
 ·have e:decide ((0:Int)<(ns.length:Int))=false:=Xf (by omega);rw[e];exact⟨_,rfl⟩
theorem jhz (b t:Nat):Jj (b:Int) (t:Int)=some (b.testBit t):=by
 unfold Jj;rw[MM.shr];simp only[MM.bs];congr 1;have e1:Builtin.bitAnd ((b / 2 ^ t:Nat):Int) 1=(((b / 2 ^ t) &&& 1:Nat):Int):=MB.and_nat _ 1;rw[e1,Nat.and_one_is_mod,XN,Xu,Nat.testBit_eq_decide_div_mod_eq,Xu];omega
theorem zJ {b:Nat} (h:b<2 ^ n) (hn:n<=100):qi (b:Int)=some (zn (ths n b)):=by
 unfold qi;have h1:=MB.bits_le h;rw[MM.rng (by omega)];simp only[MM.bs];rw[MM.compR (fun t=>b.testBit t) (fun t=>((t:Nat):Int)) (by omega) (fun k hk=>jhz b k) (fun k hk _=>rfl),MB.things_eq h];rfl
theorem jiq {l:List Nat} (h:∀ t∈l,t<=1000):y6 (zn l)=some ((MB.setN l:Nat):Int):=by
 unfold y6 zn;simp only[MM.bs];rw[MM.forM_map,MM.forM_cast (b0:=(0:Int)) (fun b:Nat=>(b:Int)) (fun a t=>a ||| 2 ^ t) 0 rfl (fun b t ht=>by
  rw[MM.shl1 (h t ht)];simp only[MM.bs];rw[MB.or_nat])]
 rfl
theorem YO (o:Ok P n) (h1:1<=n) (h9:n<=9):qF (n:Int) (zp P)=some ():=by
 unfold qF;have e:(!((decide ((1:Int)<=(n:Int)))&&(decide ((n:Int)<=9))))=false:=by
  rw[Xl (by omega),Xl (by omega)]; rfl
 rw[e,MM.cf,W1,MM.bs];intro x hx;obtain⟨p,hp,rfl⟩:=XM.mp hx;obtain⟨h2,h3⟩:=o p hp;have e2:(!((decide ((0:Int)<=(p.1:Int)))&&((decide ((p.1:Int)<(p.2:Int)))&&(decide ((p.2:Int)<(n:Int))))))=false:=by
  rw[Xl (by omega),Xl (by omega),Xl (by omega)]; rfl
 rw[e2,MM.cf]
theorem jau (o:Ok P n) (h9:n<=9):xa (n:Int) (zp P)=some (zn (bel P n)):=by
 unfold xa;rw[MM.rng (by omega)];simp only[MM.bs];refine MM.forM_then (R:=fun r=>r=some (zn (bel P n))) (fun k z=>z=zn (bel P k)) rfl ?_ ?_
 ·rintro k z hk rfl;unfold zp;rw[MM.forM_map,MM.forM_cast (b0:=(0:Int)) (fun b:Nat=>(b:Int)) (fun acc p=>if p.2=k then acc ||| (bel P k).getD p.1 0 ||| 2 ^ p.1 else acc) 0 rfl (fun b p hp=>by
   obtain⟨h2,h3⟩:=o p hp;by_cases h:p.2=k
   ·have e:decide ((p.2:Int)=(k:Int))=true:=Xl (by omega);rw[e,jfT (by rw[GE]; omega),MM.shl1 (by omega)];simp only[MM.ct,MM.bs];rw[MB.or_nat,MB.or_nat,if_pos h]
   ·have e:decide ((p.2:Int)=(k:Int))=false:=Xf (by omega);rw[e];simp only[MM.cf,MM.bs];rw[if_neg h])]
  simp only[MM.bs];rw[MM.app (by rw[qy,GE]; omega)];simp only[MM.bs];refine⟨_,rfl,?_⟩;show zn (bel P k)++[_]=zn (bel P k++[QX P (bel P k) k]);unfold zn QX;rw[wb];rfl
 ·rintro z rfl;rfl
theorem jd7 {l h:Nat} (hl:l<n) (hh:h<n) (h9:n<=9):yh (zn (bel P n)) (l:Int) (h:Int)=some (cvB P n l h):=by
 unfold yh;rw[UZ hh];simp only[MM.bs,jhz];show (bif (!bl P n l h) then some false else _)=some (bl P n l h&&_);cases hb:bl P n l h with
 | false=>
  rw[Bool.not_false,MM.ct,Bool.false_and]
 | true=>
  rw[XJ,MM.cf,Bool.true_and];have e:(l:Int)+1=((l+1:Nat):Int):=by omega
  rw[e,MM.rng2 (by omega) (by omega)];simp only[MM.bs];rw[MM.comp1 (fun x=>bl P n x.toNat h&&bl P n l x.toNat) (by simp; omega) (fun x hx=>by
   obtain⟨d,hd,rfl⟩:=XM.mp hx;have:=Xp.mp hd;rw[jhz];simp only[MM.bs];rw[UZ (by omega),X7];simp only[MM.bs,jhz];show (bif bl P n (l+1+d) h then some (bl P n l (l+1+d)) else some false)=_;cases bl P n (l+1+d) h <;> rfl)]
  simp only[MM.bs];congr 2;rw[List.map_map,List.any_map];congr 1
theorem YQ (h9:n<=9):qG (zn (bel P n))=some (zp (cvs P n)):=by
 unfold qG;rw[qy,GE,MM.rng (by omega)];simp only[MM.bs];refine MM.forM_then (R:=fun r=>r=some (zp (cvs P n))) (fun k z=>z=zp ((List.range k).flatMap (cvL P n))/\z.length<=9 * k) ⟨rfl,Xm _⟩ ?_ ?_
 ·rintro k z hk ⟨rfl,hlen⟩;have e:(k:Int)+1=((k+1:Nat):Int):=by omega
  rw[e,MM.rng2 (by omega) (by omega)];simp only[MM.bs];refine MM.forM_thenL (R:=fun r=>∃ b',r=some b'/\b'=zp ((List.range (k+1)).flatMap (cvL P n))/\b'.length<=9 * (k+1)) (fun j z=>z=zp ((List.range k).flatMap (cvL P n)++((((List.range j).map fun d=>k+1+d).filter fun h=>cvB P n k h).map fun h=>(k,h)))/\z.length<=9 * k+j)
   ⟨by simp,hlen⟩ ?_ ?_
  ·rintro j x z hx ⟨rfl,hz⟩;rw[XG] at hx;cases hr:(List.range (n-(k+1)))[j]? with
   | none=>rw[hr] at hx; cases hx
   | some d=>
    rw[hr] at hx;have hjn:j<n-(k+1):=by
     have:=(List.getElem?_eq_some_iff.mp hr).1;simpa using this
    have hd:d=j:=by
     rw[List.getElem?_range hjn] at hr;exact(Option.some.inj hr).symm
    subst hd;obtain rfl:((k+1+d:Nat):Int)=x:=Option.some.inj hx;rw[jd7 hk (by omega) h9];simp only[MM.bs];rw[wa,wb,List.filter_append,wb];cases hc:cvB P n k (k+1+d) with
    | false=>
     simp only[MM.cf,MM.bs];refine⟨_,rfl,?_,by omega⟩;simp[hc]
    | true=>
     simp only[MM.ct];rw[MM.app (by omega)];simp only[MM.bs];refine⟨_,rfl,?_,by simp; omega⟩;simp[hc,zp]
  ·rintro z ⟨rfl,hz⟩;refine⟨_,rfl,?_,?_⟩
   ·rw[Xr,XL,wa,List.flatMap_append];simp[cvL]
   ·rw[Xr,XL] at hz ⊢;omega
 ·rintro z ⟨rfl,_⟩;rfl
def zX (P:List (Nat×Nat)) (n:Nat):MOrder:=⟨(n:Int),zn (bel P n),zp (cvs P n)⟩
theorem jav (o:Ok P n) (h1:1<=n) (h9:n<=9):qH (n:Int) (zp P)=some (zX P n):=by
 unfold qH;rw[YO o h1 h9,jau o h9];simp only[MM.bs];rw[YQ h9];rfl
theorem size (P:List (Nat×Nat)) (n:Nat):kF (zX P n)=some (n:Int):=by
 unfold kF;rfl
theorem Ui (b c:Nat):kO (b:Int) (c:Int)=some (decide (b &&& c=c)):=by
 unfold kO;congr 1;rw[MB.and_nat,XN,Xu,Xu];omega
theorem UC (P:List (Nat×Nat)) (h9:n<=9) (b:Nat):qI (zX P n) (b:Int)=some (dsB P n b):=by
 unfold qI;rw[size];simp only[MM.bs];have e0:decide ((b:Int)<0)=false:=Xf (by omega);rw[e0,MM.cf,MM.shr];simp only[MM.bs];unfold dsB;have hp:0<2 ^ n:=Nat.pow_pos (by decide);by_cases hb:b<2 ^ n
 ·have e1:decide ((0:Int)<((b / 2 ^ n:Nat):Int))=false:=Xf (by rw[Nat.div_eq_of_lt hb]; omega);rw[e1,MM.cf,zJ hb (by omega),Xl hb,Bool.true_and];simp only[MM.bs];unfold zn;rw[MM.comp1 (fun x=>decide (b &&& (bel P n).getD x.toNat 0=(bel P n).getD x.toNat 0)) (by rw[Xr]; have:=jfU n b; omega) (fun x hx=>by
   obtain⟨t,ht,rfl⟩:=XM.mp hx;have:=(jcu ht).1;show (pAt (zn (bel P n)) (t:Int)).bind _=_;rw[UZ this];simp only[MM.bs];rw[Ui,X7])]
  simp only[MM.bs];congr 1;rw[List.map_map,jhl];rfl
 ·have h2:0<b / 2 ^ n:=Nat.div_pos (by omega) hp;have e1:decide ((0:Int)<((b / 2 ^ n:Nat):Int))=true:=Xl (by omega);rw[e1,MM.ct,Xf hb];rfl
theorem VN {b:Nat} (h9:n<=9) (hd:dsB P n b=true):qc (zX P n) (b:Int)=some ():=by
 unfold qc;rw[UC P h9,hd];simp only[MM.bs];rw[XJ,MM.cf]
theorem jd8 {b:Nat} (h9:n<=9) (hd:dsB P n b=true) :
  GO (zX P n) (b:Int)=some ((MB.setN ((List.range n).filter fun t=>!b.testBit t&&decide (b &&& (bel P n).getD t 0=(bel P n).getD t 0)):Nat):Int):=by
 unfold GO;rw[VN h9 hd,size];simp only[MM.bs];rw[MM.rng (by omega)];simp only[MM.bs];rw[MM.compR (fun t=>!b.testBit t&&decide (b &&& (bel P n).getD t 0=(bel P n).getD t 0)) (fun t=>((t:Nat):Int)) (by omega) (fun t ht=>by
  unfold zk;rw[jhz];simp only[MM.bs];cases b.testBit t with
  | true=>rw[XJ,MM.cf]; rfl
  | false=>
   rw[Bool.not_false,MM.ct,Bool.true_and];show (pAt (zn (bel P n)) (t:Int)).bind _=_;rw[UZ ht];simp only[MM.bs];rw[Ui]) (fun k hk _=>rfl)]
 simp only[MM.bs];have:=jiq (l:=(List.range n).filter fun t=>!b.testBit t&&decide (b &&& (bel P n).getD t 0=(bel P n).getD t 0)) (fun t ht=>by
  have:=Xp.mp (XA.mp ht).1;omega)
 exact this
theorem Uj {t:Nat} (ht:t<n):j8 (zX P n) (t:Int)=some ():=by
 unfold j8;have e:(decide ((0:Int)<=(t:Int))&&decide ((t:Int)<(zX P n).many))=true:=by
  rw[XF];exact⟨Xl (by omega),Xl (by show (t:Int)<(n:Int); omega)⟩
 rw[e,XJ,MM.cf]
theorem jd9 {b:Nat} (o:Ok P n) (h9:n<=9) (hd:dsB P n b=true):xc (zX P n) (b:Int)=some ((gr P n b:Nat):Int):=by
 have hdl:∀ t∈Dr P n b,t<n:=fun t ht=>((yJ o).mp ht).1;unfold xc;rw[jd8 h9 hd];simp only[MM.bs];have e1:qi ((MB.setN ((List.range n).filter fun t=>!b.testBit t&&decide (b &&& (bel P n).getD t 0=(bel P n).getD t 0)):Nat):Int)=some (zn (Dr P n b)):=by
  have:=zJ (n:=n) (b:=MB.setN (Dr P n b)) (ZE hdl) (by omega);rw[jcy] at this;exact this
 rw[e1];simp only[MM.bs];refine MM.forM_thenL (R:=fun r=>r=some ((gr P n b:Nat):Int)) (fun j (z:Int)=>z=((((Dr P n b).take j).foldl (fun a t=>a ||| (bel P n).getD t 0) (MB.setN (Dr P n b)):Nat):Int)) rfl ?_ ?_
 ·rintro j x z hx rfl;obtain⟨t,ht,rfl⟩:∃ t,(Dr P n b)[j]?=some t/\x=(t:Int):=by
   unfold zn at hx;rw[XG] at hx;obtain⟨p,hp,e⟩:=Option.map_eq_some_iff.mp hx;exact⟨p,hp,e.symm⟩
  have htn:=hdl t (X8 ht);have eb:(zX P n).beneath=zn (bel P n):=rfl;rw[eb,UZ htn];simp only[MM.bs];refine⟨_,rfl,?_⟩;rw[MB.or_nat,List.take_add_one,ht,List.foldl_append];rfl
 ·rintro z rfl;rw[qy,List.take_of_length_le (Xm _),jim o]
theorem U1 {b:Nat} (o:Ok P n) (h9:n<=9) (hd:dsB P n b=true):qt ⟨zX P n⟩ (b:Int)=some ((gr P n b:Nat):Int):=by
 unfold qt;exact jd9 o h9 hd
theorem jaw (m:MOrder):xb m=some ⟨m⟩:=by
 unfold xb;rw[MM.bs]
theorem W6 {l:List Nat} (o:Ok P n) (h9:n<=9) (h:Ln P n l):xM (zX P n) (zn l)=some true:=by
 have hlen:=h.len;unfold xM;rw[size,jd3 (m:=List.range n) (ZC h.nd) List.pairwise_lt_range (fun x=>by
  rw[mem_zn];constructor
  ·rintro⟨t,ht,rfl⟩; exact ⟨t,Xp.mpr ((h.mem t).mp ht),rfl⟩
  ·rintro⟨t,ht,rfl⟩; exact ⟨t,(h.mem t).mpr (Xp.mp ht),rfl⟩) (by rw[qy]; omega)]
 simp only[MM.bs];rw[jio (by omega)];simp only[MM.bs];rw[MM.isEq_self,XJ,MM.cf];refine jao (R:=fun r=>r=some true) (fun k (z:Int)=>z=((MB.setN (l.take k):Nat):Int)) rfl (fun k x z hx hz=>?_) (fun z _=>by rw[eln])
 ·subst hz;obtain⟨t,ht,rfl⟩:∃ t,l[k]?=some t/\x=(t:Int):=by
   unfold zn at hx;rw[XG] at hx;obtain⟨p,hp,e⟩:=Option.map_eq_some_iff.mp hx;exact⟨p,hp,e.symm⟩
  have htn:t<n:=(h.mem t).mp (X8 ht);obtain⟨hk,ek⟩:=List.getElem?_eq_some_iff.mp ht;have es:l=l.take k++t::l.drop (k+1):=by
   rw[<- ek,<- wA hk,List.take_append_drop]
  have eb:(zX P n).beneath=zn (bel P n):=rfl;rw[eb,UZ htn];simp only[MM.bs];rw[Ui,Xl ((VE o htn).mpr fun s hs hst=>by rw[MB.setN_bit]; exact Xl (h.before o es hst))];simp only[MM.bs,XJ,MM.cf];rw[MM.shl1 (by omega)];simp only[MM.bs];refine⟨_,rfl,?_⟩;rw[MB.or_nat,List.take_add_one,ht];unfold MB.setN;rw[List.foldl_append];rfl
theorem VO {l:List Nat} (o:Ok P n) (h9:n<=9) (h:Ln P n l):((((xM (zX P n) (zn l))).bind fun t1=>some ((!t1)))).bind (fun q2=>bif q2 then (none:Option Unit) else some ())=some ():=by
 rw[W6 o h9 h];simp only[MM.bs,XJ,MM.cf]
theorem Qh {l:List Nat} (o:Ok P n) (h9:n<=9) (h:Ln P n l):kx (zX P n) (zn l)=some ():=by
 unfold kx;exact VO o h9 h
theorem Jg:∀ (w:List Nat) {l:List Nat},(∀ i∈w,i+1<n)->Ln P n l->Ln P n (w.foldl (swp P n) l)
 | [],_,_,h=>h
 | i::w,_,hw,h=>Jg w (fun j hj=>hw j (Xe _ hj)) (h.swp (hw i Xg))
theorem VP {g:Nat} (h9:n<=9) (hg:g<n):kn (zX P n) (g:Int)=some (zn (ja P n g)):=by
 unfold kn;have en:(zX P n).neighbours=zp (cvs P n):=rfl;have hl:=QG P h9;rw[Uj hg,MM.bs,en,MM.comp (fun z:Int×Int=>decide (z.1=(g:Int))) (fun z=>z.2) (by rw[W0]; omega) (fun _ _=>rfl) (fun _ _ _=>rfl)];congr 1;unfold zp zn ja;rw[List.filter_map,List.map_map,List.map_map];have:((fun z:Int×Int=>decide (z.1=(g:Int))) ∘ fun p:Nat×Nat=>((p.1:Int),(p.2:Int)))=fun p=>decide (p.1=g):=by
  funext p
  simp only[Function.comp_def];rw[decide_eq_decide];omega
 rw[this];rfl
theorem jcK {r:List Nat} (hl:tt.length<=1000):j6 (zn r) (zn tt)=some (hgh r tt):=by
 unfold j6;rw[jfX (fun k=>decide (k∈r)) (fun k=>(jaf (zn r) (k:Int)).getD 0) (by omega) (fun k _=>by rw[VF]) (fun k _ hk=>by
  have hm:=wd hk;obtain⟨u,v,hu,e⟩:∃ u v,k∉u/\r=u++k::v:=by
   obtain⟨u,v,e,h⟩:=List.eq_append_cons_of_mem hm;exact⟨u,v,h,e⟩
  rw[e,U0 hu];rfl)]
 rfl
theorem jhA {g:Nat} (h9:n<=9):(ja P n g).length<=1000:=by
 unfold ja;rw[Xr];have:=XQ (fun p:Nat×Nat=>decide (p.1=g)) (cvs P n);have:=QG P h9;omega
theorem jcL {g0:Nat}{v0:List Nat} (o:Ok P n) (h9:n<=9) (S:Sg P n (g0::v0)) (hl:v0.length<=9):Gd (zX P n) (zn (g0::v0))=some (zn (QA P n g0 v0)):=by
 unfold Gd;have e0:pAt (zn (g0::v0)) 0=some (g0:Int):=VL (a:=[]);simp only[MM.bs,e0];have step:∀ g,g<n->((kn (zX P n) (g:Int)).bind fun t2=>j6 (zn (g0::v0)) t2)=some (hgh (g0::v0) (ja P n g)):=fun g hg=>by
  rw[VP h9 hg,MM.bs,jcK (jhA h9)]
 rw[step g0 (S.lt g0 Xg)];simp only[MM.bs];refine VH (T:=fun r=>r=some (zn (QA P n g0 v0)))
  (fun k (z:List Int×Int×List Int)=>∃ (u:List Nat) (g:Nat) (v w:List Nat),g0::v0=u++g::v/\z=(zn (w++v),(g:Int),hgh (g0::v0) (ja P n g))/\w.length=u.length+1/\w.drop 1++QA P n g v=QA P n g0 v0/\k=v.length)
  (fun z=>∃ (g:Nat) (v w:List Nat),z.1=zn (w++v)/\z.2.1=((g:Nat):Int)/\1<=w.length/\w.drop 1++(v++[g])=QA P n g0 v0/\(w++v).length<=100)
  v0.length (by omega) ⟨[],g0,v0,[g0],rfl,rfl,rfl,rfl,rfl⟩ ?_ ?_
 ·rintro k z ⟨u,g,v,w,er,rfl,hw,ht,rfl⟩;have hgn:g<n:=S.lt g (by rw[er]; simp);have hlr:=congrArg List.length er;rw[Xv,Xt,Xv] at hlr;have S':=S;rw[er] at S';rcases Uh P n g v with h | ⟨a,x,b,rfl,ha,hx⟩
  ·left
   have:=jap o S' h;rw[<- er] at this;rw[this];refine⟨rfl,g,v,w,rfl,rfl,by omega,?_,by rw[Xt]; omega⟩;rw[<- W4 h];exact ht
  ·right
   obtain⟨ne,mn⟩:=jaq o S' ha hx;rw[<- er] at ne mn;have hxn:x<n:=S.lt x (by rw[er]; simp);refine⟨by
    have:(hgh (g0::v0) (ja P n g)).length≠0:=fun z=>ne (List.length_eq_zero_iff.mp z);exact congrArg some (Xl (by show (0:Int)<((hgh (g0::v0) (ja P n g)).length:Int); omega)),(zn ((w++a++[g])++b),(x:Int),hgh (g0::v0) (ja P n x)),b.length,?_,by simp; omega,u++g::a,x,b,w++a++[g],by rw[er]; simp,rfl,by simp; omega,?_,rfl⟩
   ·have em:jb6 (hgh (g0::v0) (ja P n g))=some ((u.length+1+a.length:Nat):Int):=by
     unfold jb6;rw[if_neg ne,mn]
    rw[em];simp only[MM.bs];have es:Z3 (zn (w++(a++x::b))) ((u.length+1+a.length:Nat):Int) (g:Int)=some (zn ((w++a++[g])++b)):=by
     unfold Z3;rw[qy,YN (by rw[Xt,Xt,Xv]; omega),MM.bs];congr 1;have e1:w++(a++x::b)=(w++a)++x::b:=by simp
     have e2:u.length+1+a.length=(w++a).length:=by simp; omega
     unfold zn;rw[<- List.map_set,e1,e2,List.set_append_right _ _ (Xm _),Nat.sub_self];simp
    have eg:pAt (zn (g0::v0)) ((u.length+1+a.length:Nat):Int)=some (x:Int):=by
     have e1:g0::v0=(u++g::a)++x::b:=by rw[er]; simp
     have e2:u.length+1+a.length=(u++g::a).length:=by simp; omega
     rw[e1,e2];exact VL
    rw[es];simp only[MM.bs];rw[eg];simp only[MM.bs];rw[step x hxn];simp only[MM.bs]
   ·rw[<- ht,W5 hx ha];cases w with
    | nil=>simp at hw
    | cons w0 w=>simp
 ·rintro⟨z1,z2,z3⟩ ⟨g,v,w,rfl,rfl,hw,ht,hlen⟩;dsimp only;have ec:cut (zn (w++v)) (some 1) none=zn ((w++v).drop 1):=by
   rw[<- VJ];exact QF (i:=1)
  rw[ec,MM.cat (by rw[qy,List.length_drop,wq]; omega)];simp only[MM.bs];rw[<- ht];congr 1;cases w with
  | nil=>simp at hw
  | cons w0 w=>simp[zn]
theorem VQ {g:Nat} (h9:n<=9) (hg:g<n):ko (zX P n) (g:Int)=some (zn (jw P n g)):=by
 unfold ko;have en:(zX P n).neighbours=zp (cvs P n):=rfl;have hl:=QG P h9;rw[Uj hg,MM.bs,en,MM.comp (fun z:Int×Int=>decide (z.2=(g:Int))) (fun z=>z.1) (by rw[W0]; omega) (fun _ _=>rfl) (fun _ _ _=>rfl)];congr 1;unfold zp zn jw;rw[List.filter_map,List.map_map,List.map_map];have:((fun z:Int×Int=>decide (z.2=(g:Int))) ∘ fun p:Nat×Nat=>((p.1:Int),(p.2:Int)))=fun p=>decide (p.2=g):=by
  funext p
  simp only[Function.comp_def];rw[decide_eq_decide];omega
 rw[this];rfl
theorem jax {r:List Nat} (hl:tt.length<=1000):j6 (zn r) (zn tt)=some (hgh r tt):=by
 unfold j6;rw[jfX (fun k=>decide (k∈r)) (fun k=>(jaf (zn r) (k:Int)).getD 0) (by omega) (fun k _=>by rw[VF]) (fun k _ hk=>by
  have hm:=wd hk;obtain⟨u,v,hu,e⟩:∃ u v,k∉u/\r=u++k::v:=by
   obtain⟨u,v,e,h⟩:=List.eq_append_cons_of_mem hm;exact⟨u,v,h,e⟩
  rw[e,U0 hu];rfl)]
 rfl
theorem jhB {g:Nat} (h9:n<=9):(jw P n g).length<=1000:=by
 unfold jw;rw[Xr];have:=XQ (fun p:Nat×Nat=>decide (p.2=g)) (cvs P n);have:=QG P h9;omega
theorem W7 {g0:Nat}{u0:List Nat} (o:Ok P n) (h9:n<=9) (S:Sg P n (u0++[g0])) (hl:u0.length<=9):qP (zX P n) (zn (u0++[g0]))=some (zn (dm P n u0 g0)):=by
 unfold qP;have e0:pAt (zn (u0++[g0])) (-1)=some (g0:Int):=by
  have:=jfV (S:=u0++[g0]) (by simp);rw[this];simp
 simp only[MM.bs,e0];have step:∀ g,g<n->((ko (zX P n) (g:Int)).bind fun t2=>j6 (zn (u0++[g0])) t2)=some (hgh (u0++[g0]) (jw P n g)):=fun g hg=>by
  rw[VQ h9 hg,MM.bs,jax (jhB h9)]
 rw[step g0 (S.lt g0 (by simp))];simp only[MM.bs];refine VH (T:=fun r=>r=some (zn (dm P n u0 g0)))
  (fun k (z:List Int×Int×List Int)=>∃ (u:List Nat) (g:Nat) (v w:List Nat),u0++[g0]=u++g::v/\z=(zn (u++w),(g:Int),hgh (u0++[g0]) (jw P n g))/\w.length=v.length+1/\dm P n u g++w.dropLast=dm P n u0 g0/\k=u.length)
  (fun z=>∃ (g:Nat) (u w:List Nat),z.1=zn (u++w)/\z.2.1=((g:Nat):Int)/\1<=w.length/\(g::u)++w.dropLast=dm P n u0 g0/\(u++w).length<=100)
  u0.length (by omega) ⟨u0,g0,[],[g0],rfl,rfl,rfl,by simp,rfl⟩ ?_ ?_
 ·rintro k z ⟨u,g,v,w,er,rfl,hw,ht,rfl⟩;have hgn:g<n:=S.lt g (by rw[er]; simp);have hlr:=congrArg List.length er;simp only[Xt,Xv,List.length_nil] at hlr;have S':=S;rw[er] at S';rcases jat P n g u with h | ⟨a,x,b,rfl,hb,hx⟩
  ·left
   have:=jar o S' h;rw[<- er] at this;rw[this];refine⟨rfl,g,u,w,rfl,rfl,by omega,?_,by rw[Xt]; omega⟩;rw[<- jf1 h];exact ht
  ·right
   obtain⟨ne,mn⟩:=jas o S' hb hx;rw[<- er] at ne mn;have hxn:x<n:=S.lt x (by rw[er]; simp);refine⟨by
    have:(hgh (u0++[g0]) (jw P n g)).length≠0:=fun z=>ne (List.length_eq_zero_iff.mp z);exact congrArg some (Xl (by show (0:Int)<((hgh (u0++[g0]) (jw P n g)).length:Int); omega)),(zn (a++(g::b++w)),(x:Int),hgh (u0++[g0]) (jw P n x)),a.length,?_,by simp,a,x,b++g::v,g::b++w,by rw[er]; simp,rfl,by simp; omega,?_,rfl⟩
   ·have em:jb7 (hgh (u0++[g0]) (jw P n g))=some ((a.length:Nat):Int):=by
     unfold jb7;rw[if_neg ne,mn]
    rw[em];simp only[MM.bs];have es:Z3 (zn ((a++x::b)++w)) ((a.length:Nat):Int) (g:Int)=some (zn (a++(g::b++w))):=by
     unfold Z3;rw[qy,YN (by simp),MM.bs];congr 1;have e1:(a++x::b)++w=a++x::(b++w):=by simp
     unfold zn;rw[<- List.map_set,e1,List.set_append_right _ _ (Xm _),Nat.sub_self];simp
    have eg:pAt (zn (u0++[g0])) ((a.length:Nat):Int)=some (x:Int):=by
     have e1:u0++[g0]=a++x::(b++g::v):=by rw[er]; simp
     rw[e1];exact VL
    rw[es];simp only[MM.bs];rw[eg];simp only[MM.bs];rw[step x hxn];simp only[MM.bs]
   ·rw[<- ht,jf2 hx hb];have:w≠[]:=fun z=>by rw[z] at hw; simp at hw
    rw[List.dropLast_append_of_ne_nil this];simp
 ·rintro⟨z1,z2,z3⟩ ⟨g,u,w,rfl,rfl,hw,ht,hlen⟩;dsimp only;have ec:cut (zn (u++w)) none (some (-1))=zn ((u++w).dropLast):=by
   have hp:0<(u++w).length:=by rw[Xt]; omega
   unfold cut;rw[HT.sIx_none,List.drop_zero,Nat.sub_zero,qy];have:HT.sIx (u++w).length (u++w).length (some (-1))=(u++w).length-1:=by
    show (if (-1:Int)<0 then ((-1:Int)+((u++w).length:Int)).toNat else min (-1:Int).toNat (u++w).length)=_;rw[if_pos (by decide)];omega
   rw[this,VI,List.dropLast_eq_take]
  rw[ec,MM.cat (by rw[qy,List.length_dropLast,wq]; omega)];simp only[MM.bs];rw[<- ht];congr 1;have:w≠[]:=fun z=>by rw[z] at hw; simp at hw
  rw[List.dropLast_append_of_ne_nil this];simp[zn]
theorem JA {P:List (Nat×Nat)}{n:Nat}{c:List Nat}:∀ (v a:List Nat) (g:Nat),(List.range' a.length v.length).foldl (swp P n) (a++g::(v++c))=a++QA P n g v++c
 | [],a,g=>by simp[QA]
 | x::v,a,g=>by
  rw[Xv,List.range'_succ,wt,List.cons_append,Jo]
  conv=>rhs; unfold QA
  split
  ·have:=JA (P:=P) (n:=n) (c:=c) v (a++[g]) x;simp only[Xt,wq,List.append_assoc,List.singleton_append,List.cons_append,List.nil_append] at this ⊢;exact this
  ·have:=JA (P:=P) (n:=n) (c:=c) v (a++[x]) g;simp only[Xt,wq,List.append_assoc,List.singleton_append,List.cons_append,List.nil_append] at this ⊢;exact this
theorem Uk {a:List Nat}:∀ (r:List Nat) (c:List Nat) (g:Nat),((List.range' a.length r.length).reverse).foldl (swp P n) (a++r.reverse++g::c)=a++dmr P n g r++c
 | [],c,g=>by simp[dmr]
 | x::r,c,g=>by
  rw[Xv,List.range'_1_concat,List.reverse_append,List.reverse_singleton,List.singleton_append,wt,List.reverse_cons];have el:a.length+r.length=(a++r.reverse).length:=by simp
  have es:swp P n (a++(r.reverse++[x])++g::c) (a.length+r.length)=if bl P n x g=true then a++r.reverse++x::g::c else a++r.reverse++g::x::c:=by
   rw[el,show a++(r.reverse++[x])++g::c=(a++r.reverse)++x::g::c by simp];exact Jo
  rw[es]
  conv=>rhs; unfold dmr
  split
  ·rw[Uk r (g::c) x]; simp
  ·rw[Uk r (x::c) g]; simp
theorem Ln.sgT {a:List Nat} (o:Ok P n) (h:Ln P n (a++c)):Sg P n a:=by
 have s:=h.sg o;obtain⟨p1,p2,p3⟩:=XU.mp h.pw;refine⟨(List.nodup_append.mp h.nd).1,fun t ht=>s.lt t (List.mem_append_left _ ht),p1,fun x y m hx hy h1 h2=>?_⟩;rcases List.mem_append.mp (s.cv x y m (List.mem_append_left _ hx) (List.mem_append_left _ hy) h1 h2) with hm | hm
 ·exact hm
 ·rw[p3 y hy m hm] at h2; cases h2
theorem Ln.sgD {a:List Nat} (o:Ok P n) (h:Ln P n (a++c)):Sg P n c:=by
 have s:=h.sg o;obtain⟨p1,p2,p3⟩:=XU.mp h.pw;refine⟨(List.nodup_append.mp h.nd).2.1,fun t ht=>s.lt t (XS _ ht),p2,fun x y m hx hy h1 h2=>?_⟩;rcases List.mem_append.mp (s.cv x y m (XS _ hx) (XS _ hy) h1 h2) with hm | hm
 ·rw[p3 m hm x hx] at h1; cases h1
 ·exact hm
theorem VR:∀ (v:List Nat) (g:Nat),(QA P n g v).length=v.length+1
 | [],g=>rfl
 | x::v,g=>by
  unfold QA;split
  ·rw[Xv,VR v x,Xv]
  ·rw[Xv,VR v g,Xv]
theorem YR:∀ (r:List Nat) (g:Nat),(dmr P n g r).length=r.length+1
 | [],g=>rfl
 | x::r,g=>by
  unfold dmr;split
  ·rw[Xt,YR r x]; rfl
  ·rw[Xt,YR r g]; rfl
theorem jay {l:List Nat}{e:Nat} (hsl:∀ g v,Sg P n (g::v)->v.length<=9->sl (zn (g::v))=some (zn (QA P n g v))) (o:Ok P n) (h9:n<=9) (L:Ln P n l) (h1:1<=e) (hn:e<=n) :
  (((sl (cut (zn l) none (some (e:Int)))).bind fun t2=>(some (cut (zn l) (some (e:Int)) none)).bind fun t3=>Vi t2 t3).bind fun row=>some row)=some (zn ((List.range (e-1)).foldl (swp P n) l)):=by
 have hlen:=L.len;rw[jcA,QF,VI,VJ];obtain⟨g,v,ev⟩:∃ g v,l.take e=g::v:=by
  cases q:l.take e with
  | nil=>
   have:=congrArg List.length q;rw[wx,List.length_nil] at this;omega
  | cons g v=>exact ⟨g,v,rfl⟩
 have hv:v.length=e-1:=by
  have:=congrArg List.length ev;rw[wx,Xv] at this;omega
 have el:l=(g::v)++l.drop e:=by rw[<- ev,List.take_append_drop]
 have L':Ln P n ((g::v)++l.drop e):=el ▸ L;rw[ev,hsl g v (L'.sgT o) (by omega),MM.bs,MM.bs,MM.cat (by rw[qy,qy,VR,List.length_drop]; omega),MM.bs,<- W2];have:=JA (P:=P) (n:=n) (c:=l.drop e) v [] g;rw[hv,List.length_nil,List.nil_append,List.nil_append,<- List.range_eq_range',<- List.cons_append,<- el] at this;rw[this]
theorem jaz {l:List Nat}{k:Nat} (hsl:∀ u g,Sg P n (u++[g])->u.length<=9->sl (zn (u++[g]))=some (zn (dm P n u g))) (o:Ok P n) (h9:n<=9) (L:Ln P n l) (hk:k<n) :
  (((some (cut (zn l) none (some (k:Int)))).bind fun t2=>(sl (cut (zn l) (some (k:Int)) none)).bind fun t3=>Vi t2 t3).bind fun row=>some row)=some (zn ((rW (n-1) k).foldl (swp P n) l)):=by
 have hlen:=L.len;rw[jcA,QF,VI,VJ];obtain⟨u,g,ev⟩:∃ u g,l.drop k=u++[g]:=by
  rcases List.eq_nil_or_concat (l.drop k) with q | ⟨u,g,q⟩
  ·have:=congrArg List.length q;rw[List.length_drop,List.length_nil] at this;omega
  ·exact⟨u,g,by rw[q,List.concat_eq_append]⟩
 have hu:u.length=n-1-k:=by
  have:=congrArg List.length ev;rw[List.length_drop,Xt,wq] at this;omega
 have el:l=l.take k++(u++[g]):=by rw[<- ev,List.take_append_drop]
 have L':Ln P n (l.take k++(u++[g])):=el ▸ L;have hdl:(dm P n u g).length=u.length+1:=by unfold dm; rw[YR,List.length_reverse]
 rw[ev,hsl u g (L'.sgD o) (by omega),MM.bs,MM.bs,MM.cat (by rw[qy,qy,hdl,wx]; omega),MM.bs,<- W2];have:=Uk (P:=P) (n:=n) (a:=l.take k) u.reverse [] g;rw[List.length_reverse,hu,List.reverse_reverse,List.append_nil,wx,hlen,show min k n=k by omega,List.append_assoc,<- el] at this;unfold rW eW;rw[this];rfl
theorem jaA {l:List Nat} (hsl:∀ g v,Sg P n (g::v)->v.length<=9->sl (zn (g::v))=some (zn (QA P n g v))) (o:Ok P n) (h9:n<=9) (L:Ln P n l) :
  ((YI (n:Int) 1).bind fun l4=>L3.forM l4 (zn l) (fun row end_=>(((sl (cut row none (some end_))).bind fun t2=>(some (cut row (some end_) none)).bind fun t3=>Vi t2 t3).bind fun row=>some row)))=some (zn ((dW (n-1)).foldl (swp P n) l)):=by
 have er:YI (n:Int) 1=some ((List.range (n-1)).map fun k=>(((n-k:Nat):Nat):Int)):=by
  unfold YI;rw[if_pos ⟨by omega,by omega,by omega,by omega⟩];unfold UU;rw[show ((n:Int)-1).toNat=n-1 by omega];congr 1;refine List.map_congr_left fun k hk=>?_;have:=Xp.mp hk;omega
 rw[er,MM.bs,<- Option.bind_fun_some (L3.forM _ _ _)];refine MM.forM_thenL (R:=fun x=>x=some (zn ((dW (n-1)).foldl (swp P n) l))) (fun k row=>row=zn (((List.range k).flatMap fun i=>List.range (n-1-i)).foldl (swp P n) l)) rfl (fun k x row hx hrow=>?_) (fun row hrow=>?_)
 ·subst hrow;rw[XG] at hx;cases q:(List.range (n-1))[k]? with
  | none=>rw[q] at hx; cases hx
  | some j=>
   rw[q] at hx;obtain⟨hk,ek⟩:=List.getElem?_eq_some_iff.mp q;rw[XL] at hk;rw[List.getElem_range] at ek;subst ek;cases hx;have L1:=Jg (P:=P) (n:=n) ((List.range k).flatMap fun i=>List.range (n-1-i)) (fun i hi=>by
    obtain⟨j,_,hj⟩:=List.mem_flatMap.mp hi;have:=Xp.mp hj;omega) L
   refine⟨_,jay hsl o h9 L1 (by omega) (by omega),?_⟩;rw[wa,List.flatMap_append,List.flatMap_singleton,List.foldl_append,show n-k-1=n-1-k by omega]
 ·subst hrow;rw[Xr,XL,jip]
theorem jaB {l:List Nat} (hsl:∀ u g,Sg P n (u++[g])->u.length<=9->sl (zn (u++[g]))=some (zn (dm P n u g))) (o:Ok P n) (h9:n<=9) (h1:1<=n) (L:Ln P n l) :
  ((yr 0 ((n:Int)-1)).bind fun l4=>L3.forM l4 (zn l) (fun row first=>(((some (cut row none (some first))).bind fun t2=>(sl (cut row (some first) none)).bind fun t3=>Vi t2 t3).bind fun row=>some row)))=some (zn ((bW (n-1) 0).foldl (swp P n) l)):=by
 rw[show (n:Int)-1=((n-1:Nat):Int) by omega,MM.rng (by omega),MM.bs,<- Option.bind_fun_some (L3.forM _ _ _)];refine MM.forM_then (R:=fun x=>x=some (zn ((bW (n-1) 0).foldl (swp P n) l))) (fun k row=>row=zn (((List.range k).flatMap (rW (n-1))).foldl (swp P n) l)) rfl (fun k row hk hrow=>?_) (fun row hrow=>?_)
 ·subst hrow;have L1:=Jg (P:=P) (n:=n) ((List.range k).flatMap (rW (n-1))) (fun i hi=>by
   obtain⟨j,_,hj⟩:=List.mem_flatMap.mp hi;have:=(jeT hj).2;omega) L
  refine⟨_,jaz hsl o h9 L1 (by omega),?_⟩;rw[wa,List.flatMap_append,List.flatMap_singleton,List.foldl_append]
 ·subst hrow;rw[jf3]
theorem jd_ {l:List Nat} (o:Ok P n) (h9:n<=9) (L:Ln P n l):qe ⟨zX P n⟩ (zn l)=some (zn ((dW (n-1)).foldl (swp P n) l)):=by
 have hlen:=L.len;unfold qe;have e:=jaA (sl:=Gd (zX P n)) (fun g v S hv=>jcL o h9 S hv) o h9 L;rw[Qh o h9 L,MM.bs,MM.bs,qy,hlen,e,MM.bs]
theorem jcM {l:List Nat} (o:Ok P n) (h9:n<=9) (h1:1<=n) (L:Ln P n l):qf ⟨zX P n⟩ (zn l)=some (zn ((bW (n-1) 0).foldl (swp P n) l)):=by
 have hlen:=L.len;unfold qf;have e:=jaB (sl:=qP (zX P n)) (fun u g S hu=>W7 o h9 S hu) o h9 h1 L;rw[Qh o h9 L,MM.bs,MM.bs,qy,hlen,e,MM.bs]
theorem jaC {l:List Nat} (o:Ok P n) (h9:n<=9) (h1:1<=n) (L:Ln P n l):qd ⟨zX P n⟩ (zn l)=some (zn ((List.range (n-1)).foldl (swp P n) l)):=by
 have hlen:=L.len;unfold qd;rw[Qh o h9 L,MM.bs];obtain⟨g,v,rfl,ef⟩:=jd4 L h1;rw[ef];exact jcL o h9 (L.sg o) (by simp at hlen; omega)
theorem jir (c:Int):∃ k:Nat,k<6/\c / 10 % 6=(k:Int):=⟨(c / 10 % 6).toNat,by omega,by omega⟩
theorem jf5 (ns:List Int) (at_:Nat) (h1:1<=n) (h9:n<=9):∃ P,Gn ns (at_:Int) (n:Int)=some (zp P)/\Ok P n/\P.length<=300:=by
 unfold Gn;obtain⟨c0,e0⟩:=zl ns at_;obtain⟨c1,e1⟩:=zl ns (at_+1);have e1:kz ns ((at_:Int)+1)=some c1:=e1;rw[e0,e1];simp only[MM.bs];obtain⟨kd,hk,ek⟩:=jir c0;rw[ek];by_cases q0:n=1 \/ kd=0
 ·have:(decide ((n:Int)=1)||decide ((kd:Int)=0))=true:=by
   rw[wp,Xu,Xu]; omega
  rw[this,MM.ct];exact⟨[],rfl,jcv,by simp⟩
 ·have:(decide ((n:Int)=1)||decide ((kd:Int)=0))=false:=by
   rw[Bool.or_eq_false_iff,decide_eq_false_iff_not,decide_eq_false_iff_not]; omega
  rw[this,MM.cf];by_cases q1:kd=1
  ·rw[Xl (by omega),MM.ct,show (n:Int)-1=((n-1:Nat):Int) by omega,MM.rng (by omega),MM.bs,MM.compR1 (fun k=>(((k:Nat):Int),(((k+1:Nat)):Int))) (by omega) (fun k hk=>by simp)];refine⟨(List.range (n-1)).map fun k=>(k,k+1),?_,fun p hp=>?_,by simp; omega⟩
   ·simp[zp,Function.comp_def]
   ·obtain⟨k,hk,rfl⟩:=XM.mp hp;have:=Xp.mp hk;exact⟨by simp,by simp; omega⟩
  ·rw[Xf (by omega),MM.cf];by_cases q4:kd<4
   ·rw[Xl (by omega),MM.ct,MM.rng (by omega),MM.bs];have h250:(2:Int) ^ 250 > 1000:=by decide
    refine MM.forM_then (R:=fun r=>∃ P,r=some (zp P)/\Ok P n/\P.length<=300) (fun k (z:List (Int×Int)×Int)=>∃ P,z.1=zp P/\Ok P n/\P.length<=9 * k) ⟨[],rfl,jcv,by simp⟩ ?_ ?_
    ·rintro k ⟨z1,z2⟩ hk ⟨P,rfl,ho,hl⟩;dsimp only;rw[MM.rng (by omega),MM.bs];refine MM.forM_then (R:=fun r=>∃ b':List (Int×Int)×Int,r=some b'/\∃ P,b'.1=zp P/\Ok P n/\P.length<=9 * (k+1)) (fun j (z:List (Int×Int)×Int)=>∃ P,z.1=zp P/\Ok P n/\P.length<=9 * k+j) ⟨P,rfl,ho,by omega⟩ ?_ ?_
     ·rintro j ⟨y1,y2⟩ hj ⟨P,rfl,ho,hl⟩;dsimp only;rw[MM.modP (by omega),MM.divP (by omega) (by omega)];simp only[MM.bs];cases decide (y2 % (kd:Int)=1) with
      | true=>
       rw[MM.ct,MM.app (by rw[W0]; omega)];simp only[MM.bs];exact⟨_,rfl,P++[(j,k)],by rw[jeP]; rfl,jeQ ho (jeR (by omega) (by omega)),by simp; omega⟩
      | false=>
       rw[MM.cf];simp only[MM.bs];exact⟨_,rfl,P,rfl,ho,by omega⟩
     ·rintro⟨y1,y2⟩ ⟨P,rfl,ho,hl⟩;exact⟨_,rfl,P,rfl,ho,by omega⟩
    ·rintro⟨z1,z2⟩ ⟨P,rfl,ho,hl⟩;exact⟨P,rfl,ho,by omega⟩
   ·rw[Xf (by omega),MM.cf];obtain⟨m,hm,em⟩:∃ m:Nat,m<12/\c0 / 60 % 12=(m:Int):=⟨(c0 / 60 % 12).toNat,by omega,by omega⟩;rw[em,show (1:Int)+(m:Int)=((1+m:Nat):Int) by omega,MM.rng (by omega),MM.bs];refine MM.forM_then (R:=fun r=>∃ P,r=some (zp P)/\Ok P n/\P.length<=300) (fun k (st:List (Int×Int))=>∃ P,st=zp P/\Ok P n/\P.length<=k) ⟨[],rfl,jcv,Xm _⟩ ?_ ?_
    ·rintro k st hk ⟨P,rfl,ho,hl⟩;obtain⟨c,ec⟩:=zl ns (at_+1+k);have ec:kz ns ((at_:Int)+1+(k:Int))=some c:=by
      rw[show ((at_:Int)+1+(k:Int))=((at_+1+k:Nat):Int) by omega];exact ec
     obtain⟨lo,hlo,elo⟩:∃ lo:Nat,lo<n-1/\c % ((n-1:Nat):Int)=(lo:Int):=⟨(c % ((n-1:Nat):Int)).toNat,by
      have a:=Int.emod_nonneg c (show ((n-1:Nat):Int)≠0 by omega);have b:=Int.emod_lt_of_pos c (show (0:Int)<((n-1:Nat):Int) by omega);omega,by
      have a:=Int.emod_nonneg c (show ((n-1:Nat):Int)≠0 by omega);omega⟩
     obtain⟨d,hd,ed⟩:∃ d:Nat,d<n-1-lo/\c / 9 % ((n-1-lo:Nat):Int)=(d:Int):=⟨(c / 9 % ((n-1-lo:Nat):Int)).toNat,by
      have a:=Int.emod_nonneg (c / 9) (show ((n-1-lo:Nat):Int)≠0 by omega);have b:=Int.emod_lt_of_pos (c / 9) (show (0:Int)<((n-1-lo:Nat):Int) by omega);omega,by
      have a:=Int.emod_nonneg (c / 9) (show ((n-1-lo:Nat):Int)≠0 by omega);omega⟩
     rw[ec,MM.bs,show (n:Int)-1=((n-1:Nat):Int) by omega,MM.modP (by omega),elo,MM.bs,show ((n-1:Nat):Int)-(lo:Int)=((n-1-lo:Nat):Int) by omega,MM.modP (by omega),ed];simp only[MM.bs];rw[MM.app (by rw[W0]; omega),MM.bs];exact⟨_,rfl,P++[(lo,lo+1+d)],by rw[jeP]; rfl,jeQ ho (jeR (by omega) (by omega)),by simp; omega⟩
    ·rintro st ⟨P,rfl,ho,hl⟩;exact⟨P,rfl,ho,by omega⟩
def um (P:List (Nat×Nat)) (n:Nat):List (List Bool):=(List.range n).map fun k=>(List.range n).map fun j=>bl P n j k
theorem jcN (P:List (Nat×Nat)) (n:Nat):(um P n).length=n:=by simp[um]
theorem U2 {k:Nat} (f:Nat->α) (hk:k<n):pAt ((List.range n).map f) (k:Int)=some (f k):=by
 refine MM.at_nat ?_;rw[XG,List.getElem?_range hk];rfl
theorem ZH {k:Nat} (hk:k<n):pAt (um P n) (k:Int)=some ((List.range n).map fun j=>bl P n j k):=U2 _ hk
theorem jcO {k j:Nat} (hj:j<n):pAt ((List.range n).map fun j=>bl P n j k) (j:Int)=some (bl P n j k):=U2 _ hj
theorem jea {t h:Nat} (o:Ok P n) (hh:h<n):bl P n t h=true ↔ ∃ p∈P,p.2=h/\(t=p.1 \/ bl P n t p.1=true):=by
 rw[JZ o hh];constructor
 ·intro L;cases L with
  | one hp=>exact ⟨_,hp,rfl,.inl rfl⟩
  | step L' hp=>
   have:=(o _ hp).1;exact⟨_,hp,rfl,.inr ((JZ o (Nat.lt_trans this hh)).mpr L')⟩
 ·rintro⟨⟨a,b⟩,hp,rfl,rfl | hb⟩
  ·exact .one hp
  ·have:=(o _ hp).1;exact .step ((JZ o (Nat.lt_trans this hh)).mp hb) hp
def jaD (P Q:List (Nat×Nat)) (n k j:Nat):Bool:=Q.any fun p=>decide (p.2=k)&&(decide (j=p.1)||bl P n j p.1)
theorem jf6 (o:Ok P n) (h9:n<=9):yO (n:Int) (zp P)=some (um P n):=by
 unfold yO;simp only[MM.bs];rw[MM.rng (by omega),MM.bs];refine MM.forM_then (R:=fun r=>r=some (um P n)) (fun k (z:List (List Bool))=>z=(List.range k).map fun k=>(List.range n).map fun j=>bl P n j k) rfl ?_ ?_
 ·rintro k z hk rfl;simp only[MM.bs];rw[MM.compR1 (fun _=>false) (by omega) (fun _ _=>rfl),MM.bs];refine MM.forM_thenL (R:=fun r=>∃ b',r=some b'/\b'=(List.range (k+1)).map fun k=>(List.range n).map fun j=>bl P n j k) (fun i (z:List Bool)=>z=(List.range n).map fun j=>jaD P (P.take i) n k j) (by simp[jaD]) ?_ ?_
  ·rintro i x z hx rfl;unfold zp at hx;rw[XG] at hx;obtain⟨p,hp,rfl⟩:=Option.map_eq_some_iff.mp hx;have hpm:=X8 hp;obtain⟨o1,o2⟩:=o p hpm;have et:∀ j,jaD P (P.take (i+1)) n k j=(jaD P (P.take i) n k j||(decide (p.2=k)&&(decide (j=p.1)||bl P n j p.1))):=fun j=>by
    unfold jaD;rw[List.take_add_one,hp,List.any_append];simp
   dsimp only;by_cases q:p.2=k
   ·rw[Xl (show ((p.2:Nat):Int)=(k:Int) by omega),MM.ct];have e1:Z3 ((List.range n).map fun j=>jaD P (P.take i) n k j) ((p.1:Nat):Int) true=some ((List.range n).map fun j=>if j=p.1 then true else jaD P (P.take i) n k j):=by
     unfold Z3;rw[show ((List.range n).map fun j=>jaD P (P.take i) n k j).length=n by simp,YN (by omega),MM.bs,jcw (by omega)]
    rw[e1,MM.bs,MM.compR1 (fun j=>jaD P (P.take (i+1)) n k j) (by omega) (fun j hj=>by
     rw[U2 (fun j=>if j=p.1 then true else jaD P (P.take i) n k j) hj,MM.bs,et j,Xl q,Bool.true_and];by_cases c1:j=p.1
     ·rw[if_pos c1,MM.ct,Xl c1];simp
     ·rw[if_neg c1,Xf c1,Bool.false_or];cases c2:jaD P (P.take i) n k j with
      | true=>rw[MM.ct]; rfl
      | false=>
       rw[MM.cf,Bool.false_or];by_cases c3:j<k
       ·rw[Xl (show ((j:Nat):Int)<(k:Int) by omega),MM.ct,U2 (n:=k) (fun k=>(List.range n).map fun j=>bl P n j k) (by omega),MM.bs,jcO hj]
       ·rw[Xf (show ¬ ((j:Nat):Int)<(k:Int) by omega),MM.cf];congr 1;cases c4:bl P n j p.1 with
        | false=>rfl
        | true=>have:=Jz o (by omega) c4; omega)]
    simp only[MM.bs];exact⟨_,rfl,rfl⟩
   ·rw[Xf (show ¬ ((p.2:Nat):Int)=(k:Int) by omega),MM.cf];simp only[MM.bs];refine⟨_,rfl,?_⟩;refine List.map_congr_left fun j _=>?_;rw[et j,Xf q,Bool.false_and,Bool.or_false]
  ·rintro z rfl;have e:((List.range n).map fun j=>jaD P (P.take (zp P).length) n k j)=(List.range n).map fun j=>bl P n j k:=by
    refine List.map_congr_left fun j _=>?_;rw[W0,List.take_length,XN,jea o hk];unfold jaD;rw[List.any_eq_true];constructor
    ·rintro⟨p,hp,h⟩;rw[XF,Xu,wp,Xu] at h;exact⟨p,hp,h.1,h.2⟩
    ·rintro⟨p,hp,h1,h2⟩;refine⟨p,hp,?_⟩;rw[XF,Xu,wp,Xu];exact⟨h1,h2⟩
   rw[e,MM.app (by simp; omega),MM.bs];refine⟨_,rfl,?_⟩;rw[wa,wb];rfl
 ·rintro z rfl;rfl
theorem jf7:∀ k,k<9->pAt ([1,2,4,8,16,32,64,128,256]:List Int) ((k:Nat):Int)=some (((2 ^ k:Nat):Nat):Int):=by decide +kernel
theorem jf8 {b k:Nat} (hk:k<9):Jx (b:Int) (k:Int)=some (b.testBit k):=by
 unfold Jx;have hp:0<2 ^ k:=Nat.two_pow_pos k;have hb:2 ^ k<1000:=wy (Nat.pow_le_pow_right (by decide) (show k<=8 by omega)) (by decide);have h250:(1000:Int)<2 ^ 250:=by decide
 simp only[MM.bs];rw[jf7 k hk,MM.bs,MM.divP (by omega) (by omega)];simp only[MM.bs];congr 1;rw[show (b:Int) / ((2 ^ k:Nat):Int)=((b / 2 ^ k:Nat):Int) from (Int.natCast_ediv _ _).symm,Nat.testBit_eq_decide_div_mod_eq,decide_eq_decide];omega
theorem VS (f:Nat->Bool):∀ n,(((List.range n).filter f).map fun k=>(((2 ^ k:Nat):Nat):Int)).sum=((MB.setN ((List.range n).filter f):Nat):Int)
 | 0=>rfl
 | n+1=>by
  rw[wa,List.filter_append];cases h:f n with
  | false=>
   have e:[n].filter f=[]:=by simp[h]
   rw[e,List.append_nil,VS f n]
  | true=>
   have e:[n].filter f=[n]:=by simp[h]
   rw[e,wb,List.sum_append,VS f n];have hlt:MB.setN ((List.range n).filter f)<2 ^ n:=ZE fun t ht=>Xp.mp (XA.mp ht).1;have es:MB.setN ((List.range n).filter f++[n])=MB.setN ((List.range n).filter f) ||| 2 ^ n:=by
    unfold MB.setN;rw[List.foldl_append];rfl
   have eo:=Nat.two_pow_add_eq_or_of_lt hlt 1;rw[Nat.mul_one] at eo;rw[es,Nat.or_comm,<- eo];simp;omega
theorem jhC (f:Nat->Bool) (h9:n<=9):zI (zn ((List.range n).filter f))=some ((MB.setN ((List.range n).filter f):Nat):Int):=by
 unfold zI;have hl:=XQ f (List.range n);rw[XL] at hl;rw[ZD (fun k=>(((2 ^ k:Nat):Nat):Int)) (by omega) (fun k hk=>jf7 k (by
  have:=Xp.mp (XA.mp hk).1;omega)),MM.bs,VS]
theorem jis {k:Nat} (hk:k<9):zI [(k:Int)]=some (((2 ^ k:Nat):Nat):Int):=by
 unfold zI;have e:([(k:Int)]:List Int)=zn [k]:=rfl;rw[e,ZD (fun k=>(((2 ^ k:Nat):Nat):Int)) (by simp) (fun j hj=>by
  have:j=k:=by simpa using hj
  subst this;exact jf7 j hk),MM.bs]
 simp
theorem jeV {k:Nat} (h9:n<=9) (hk:k<n):qa ((List.range n).map fun k=>((k:Nat):Int)) (fun j_=>(pAt (um P n) (k:Int)).bind fun t8=>(some j_).bind fun t9=>pAt t8 t9) (fun j_=>some j_)=some (zn ((List.range n).filter fun j=>bl P n j k)):=by
 rw[MM.compR (fun j=>bl P n j k) (fun j=>((j:Nat):Int)) (by omega) (fun j hj=>by rw[ZH hk,MM.bs,MM.bs,jcO hj]) (fun j _ _=>rfl)];rfl
theorem jhD {b k:Nat} (o:Ok P n) (h9:n<=9) (hk:k<n):(((Jx (b:Int) (k:Int)).bind fun t11=>some (!t11)).bind fun q=>bif q then (qa (zn ((List.range n).filter fun j=>bl P n j k)) (fun _=>some true) (fun j_=>Jx (b:Int) j_)).bind fun t14=>some (t14.all id) else some false)=some (decide (k∈Dr P n b)):=by
 rw[jf8 (by omega),MM.bs,MM.bs];cases hb:b.testBit k with
 | true=>
  rw[XJ,MM.cf];congr 1
  symm
  refine Xf fun z=>?_;rw[((yJ o).mp z).2.1] at hb;cases hb
 | false=>
  rw[Bool.not_false,MM.ct,ZD (fun j=>b.testBit j) (by have:=XQ (fun j=>bl P n j k) (List.range n); rw[XL] at this; omega) (fun j hj=>jf8 (by have:=Xp.mp (XA.mp hj).1; omega)),MM.bs];congr 1;rw[List.all_map,XN,X6,Xu,yJ o];constructor
  ·intro h;exact⟨hk,hb,fun s hs hbl=>h s (XA.mpr ⟨Xp.mpr hs,hbl⟩)⟩
  ·rintro⟨_,_,h⟩ j hj;obtain⟨h1,h2⟩:=XA.mp hj;exact h j (Xp.mp h1) h2
def jaE (P:List (Nat×Nat)) (n b k j:Nat):Bool:=(List.range k).any fun t=>decide (t∈Dr P n b)&&(decide (j=t)||bl P n j t)
theorem jf9 {b:Nat} (o:Ok P n) (h9:n<=9):q_ (um P n) (b:Int)=some ((gr P n b:Nat):Int):=by
 unfold q_;simp only[MM.bs];rw[jcN,MM.rng (by omega)];simp only[MM.bs];rw[MM.compR1 (fun _=>false) (by omega) (fun _ _=>rfl),MM.bs];refine MM.forM_then (R:=fun r=>r=some ((gr P n b:Nat):Int)) (fun k (z:List Bool)=>z=(List.range n).map fun j=>jaE P n b k j) (by simp[jaE]) ?_ ?_
 ·rintro k z hk rfl;have el:=jeV (P:=P) h9 hk;simp only[MM.bs] at el;rw[el,MM.bs,jhD o h9 hk,MM.bs];have et:∀ j,jaE P n b (k+1) j=(jaE P n b k j||(decide (k∈Dr P n b)&&(decide (j=k)||bl P n j k))):=fun j=>by
   unfold jaE;rw[wa,List.any_append];simp
  by_cases hd:k∈Dr P n b
  ·rw[Xl hd,MM.ct,MM.compR1 (fun j=>jaE P n b (k+1) j) (by omega) (fun j hj=>by
    rw[U2 (fun j=>jaE P n b k j) hj,MM.bs,et j,Xl hd,Bool.true_and];cases c:jaE P n b k j with
    | true=>rw[MM.ct]; rfl
    | false=>
     rw[MM.cf,Bool.false_or];by_cases c1:j=k
     ·rw[Xl (show ((j:Nat):Int)=(k:Int) by omega),MM.ct,Xl c1]; rfl
     ·rw[Xf (show ¬ ((j:Nat):Int)=(k:Int) by omega),MM.cf,ZH hk,MM.bs,jcO hj,Xf c1,Bool.false_or])]
   simp only[MM.bs];exact⟨_,rfl,rfl⟩
  ·rw[Xf hd,MM.cf];simp only[MM.bs];refine⟨_,rfl,?_⟩;refine List.map_congr_left fun j _=>?_;rw[et j,Xf hd,Bool.false_and,Bool.or_false]
 ·rintro z rfl;rw[MM.compR (fun j=>jaE P n b n j) (fun j=>((j:Nat):Int)) (by omega) (fun j hj=>U2 (fun j=>jaE P n b n j) hj) (fun j _ _=>rfl),MM.bs];have e:((List.range n).filter fun j=>jaE P n b n j).map (fun j=>((j:Nat):Int))=zn ((List.range n).filter fun j=>jaE P n b n j):=rfl;rw[e,jhC _ h9];congr 2;refine MB.setN_eq (n:=n) ?_ (fun t ht=>Xp.mp (XA.mp ht).1) (fun t ht=>?_)
  ·exact jd0 n _
  ·rw[XA,Xp,Qy ht];unfold jaE;rw[List.any_eq_true];constructor
   ·rintro⟨_,t',_,h⟩;rw[XF,Xu,wp,Xu] at h;exact⟨t',h.1,h.2⟩
   ·rintro⟨t',h1,h2⟩;refine⟨ht,t',Xp.mpr ((yJ o).mp h1).1,?_⟩;rw[XF,Xu,wp,Xu];exact⟨h1,h2⟩
structure Dn (P:List (Nat×Nat)) (n k:Nat) (D:List Nat):Prop where
 up:D.Pairwise (· < ·)
 lt:∀ b∈D,b<2 ^ k
 cl:∀ b∈D,∀ t,t<k->b.testBit t=true->∀ s,bl P n s t=true->b.testBit s=true
 len:D.length<=2 ^ k
 ne:0<D.length
def jeW (P:List (Nat×Nat)) (n k b:Nat):Bool:=((List.range k).filter fun j=>bl P n j k).all fun j=>b.testBit j
theorem jhE:∀ {D:List Nat},D.Pairwise (· < ·)->upI (zn D)=true
 | [],_=>rfl
 | [_],_=>rfl
 | a::b::D,h=>by
  obtain⟨h1,h2⟩:=wf.mp h;show (decide ((a:Int)<=(b:Int))&&upI (zn (b::D)))=true;rw[jhE h2,Xl (by have:=h1 b Xg; omega)];rfl
theorem jcP {b k t:Nat} (hb:b<2 ^ k):(b+2 ^ k).testBit t=if t=k then true else b.testBit t:=by
 have eo:=Nat.two_pow_add_eq_or_of_lt hb 1;rw[Nat.mul_one] at eo;rw[Nat.add_comm,eo,Nat.testBit_or,Nat.testBit_two_pow];by_cases h:t=k
 ·rw[if_pos h,Xl h.symm]; rfl
 ·rw[if_neg h,Xf (fun z=>h z.symm),Bool.false_or]
theorem Dn.step {k:Nat}{D:List Nat} (o:Ok P n) (hk:k<n) (h:Dn P n k D):Dn P n (k+1) (D++(D.filter (jeW P n k)).map (·+2 ^ k)) where
 up:=by
  rw[XU];refine⟨h.up,?_,fun a ha b hb=>?_⟩
  ·rw[List.pairwise_map];exact(h.up.sublist List.filter_sublist).imp fun h=>by omega
  ·obtain⟨c,_,rfl⟩:=XM.mp hb;have:=h.lt a ha;omega
 lt:=fun b hb=>by
  rw[Nat.pow_succ];rcases List.mem_append.mp hb with hb | hb
  ·have:=h.lt b hb;omega
  ·obtain⟨c,hc,rfl⟩:=XM.mp hb;have:=h.lt c (XA.mp hc).1;omega
 cl:=fun b hb t ht hbt s hs=>by
  rcases List.mem_append.mp hb with hb | hb
  ·rcases Nat.lt_or_ge t k with q | q
   ·exact h.cl b hb t q hbt s hs
   ·have e:t=k:=by omega
    rw[e,wu (h.lt b hb)] at hbt;cases hbt
  ·obtain⟨c,hc,rfl⟩:=XM.mp hb;obtain⟨c1,c2⟩:=XA.mp hc;rw[jcP (h.lt c c1)] at hbt ⊢;by_cases q:t=k
   ·subst q;have hlt:=Jz o hk hs;rw[if_neg (by omega)];exact X6.mp c2 s (XA.mpr ⟨Xp.mpr hlt,hs⟩)
   ·rw[if_neg q] at hbt;have hlt:=Jz o (by omega) hs;rw[if_neg (by omega)];exact h.cl c c1 t (by omega) hbt s hs
 len:=by
  have:=XQ (jeW P n k) D;have:=h.len;rw[Xt,Xr,Nat.pow_succ];omega
 ne:=by
  have:=h.ne;rw[Xt];omega
theorem jf_ (o:Ok P n) (h9:n<=9):∃ D:List Nat,GN (um P n)=some (zn D)/\0<D.length/\D.length<=512/\∀ b∈D,dsB P n b=true:=by
 unfold GN;simp only[MM.bs];rw[jcN,MM.rng (by omega),MM.bs];have p9:∀ k,k<=9->2 ^ k<=512:=by decide
 refine MM.forM_then (R:=fun r=>∃ D:List Nat,r=some (zn D)/\0<D.length/\D.length<=512/\∀ b∈D,dsB P n b=true) (fun k (z:List Int)=>∃ D,z=zn D/\Dn P n k D) ⟨[0],rfl,List.pairwise_singleton _ _,by simp,by simp,by simp,by simp⟩ ?_ ?_
 ·rintro k z hk ⟨D,rfl,hD⟩;have hl:=hD.len;have h512:=p9 k (by omega);have h1024:2 ^ (k+1)<=512:=p9 (k+1) (by omega);refine MM.forM_thenL (R:=fun r=>∃ b',r=some b'/\∃ D,b'=zn D/\Dn P n (k+1) D) (fun i (z:List Int)=>z=zn (((D.take i).filter (jeW P n k)).map (·+2 ^ k))) rfl ?_ ?_
  ·rintro i x z hx rfl;unfold zn at hx;rw[XG] at hx;obtain⟨b,hb,rfl⟩:=Option.map_eq_some_iff.mp hx;rw[MM.rng (by omega),MM.bs,MM.compR (fun j=>bl P n j k) (fun j=>b.testBit j) (by omega) (fun j hj=>by rw[ZH hk,MM.bs,jcO (by omega)]) (fun j hj _=>jf8 (by omega)),MM.bs,MM.bs];have e:(((List.range k).filter fun j=>bl P n j k).map fun j=>b.testBit j).all id=jeW P n k b:=by
    unfold jeW;rw[List.all_map];rfl
   rw[e,List.take_add_one,hb,List.filter_append,wb];cases c:jeW P n k b with
   | true=>
    have hfl:=XQ (jeW P n k) (D.take i);have htl:(D.take i).length<=D.length:=by rw[wx]; omega
    rw[MM.ct,jis (by omega)];simp only[MM.bs];rw[MM.app (by rw[qy,Xr]; omega)];simp only[MM.bs];refine⟨_,rfl,?_⟩;simp[zn,c]
   | false=>
    rw[MM.cf];simp only[MM.bs];refine⟨_,rfl,?_⟩;simp[zn,c]
  ·rintro z rfl;rw[qy,List.take_of_length_le (Xm _)];have hfl:=XQ (jeW P n k) D;rw[MM.cat (by rw[qy,qy,Xr]; omega),MM.bs];exact⟨_,rfl,_,by rw[W2],hD.step o hk⟩
 ·rintro z ⟨D,rfl,hD⟩;have hl:=hD.len;have h512:=p9 n h9;refine⟨D,?_,hD.ne,by omega,fun b hb=>?_⟩
  ·unfold jdX;exact if_pos ⟨by rw[qy]; omega,jhE hD.up⟩
  ·exact(jcx o).mpr ⟨hD.lt b hb,fun s t ht hbt hs=>hD.cl b hb t ht hbt s hs⟩
theorem jga {k:Nat}{l:List Nat} (o:Ok P n) (h9:n<=9) (hk:k<n):(bif (!QZ (k:Int) (zn l)) then (qa (zn ((List.range n).filter fun j=>bl P n j k)) (fun _=>some true) (fun j_=>some (QZ j_ (zn l)))).bind fun t14=>some (t14.all id) else some false)=some (decide (k∈Dr P n (MB.setN l))):=by
 have hb:∀ s,(MB.setN l).testBit s=decide (s∈l):=fun s=>MB.setN_bit l s;rw[VF];by_cases q:k∈l
 ·rw[Xl q,XJ,MM.cf];congr 1
  symm
  refine Xf fun z=>?_;have:=((yJ o).mp z).2.1;rw[hb,Xl q] at this;cases this
 ·rw[Xf q,Bool.not_false,MM.ct,ZD (fun j=>decide (j∈l)) (by have:=XQ (fun j=>bl P n j k) (List.range n); rw[XL] at this; omega) (fun j _=>by rw[VF]),MM.bs];congr 1;rw[List.all_map,XN,X6,Xu,yJ o];constructor
  ·intro h;refine⟨hk,by rw[hb,Xf q],fun s hs hbl=>?_⟩;rw[hb];exact h s (XA.mpr ⟨Xp.mpr hs,hbl⟩)
  ·rintro⟨_,_,h⟩ j hj;obtain⟨h1,h2⟩:=XA.mp hj;have:=h j (Xp.mp h1) h2;rw[hb] at this;exact this
theorem Ul {l:List Nat} (h9:n<=9) (h:Ln P n l) (hi:i+1<n):xv (um P n) (zn l) (i:Int)=some (zn (swp P n l i)):=by
 have hlen:=h.len;obtain⟨a,x,y,c,e,rfl⟩:=GQ (l:=l) (i:=i) (by rw[h.len]; exact hi);subst e;have hx:x<n:=(h.mem x).mp (by simp);have hy:y<n:=(h.mem y).mp (by simp);have hl2:a.length+(c.length+2)=n:=by
  rw[Xt,Xv,Xv] at hlen;omega
 unfold xv;rw[VL,jf0];simp only[MM.bs];rw[ZH hy];simp only[MM.bs];rw[jcO hx,MM.bs,Jo];cases hb:bl P n x y with
 | true=>rw[MM.ct,if_pos rfl]
 | false=>
  rw[MM.cf,if_neg (by decide)];have e2:((a.length:Nat):Int)+2=((a.length+2:Nat):Int):=by omega
  rw[jcA,e2,QF,VI,VJ];have t1:(a++x::y::c).take a.length=a:=by simp
  have t2:(a++x::y::c).drop (a.length+2)=c:=by simp[List.drop_append]
  rw[t1,t2,MM.cat (by rw[qy]; simp; omega)];simp only[MM.bs];rw[MM.cat (by rw[Xt,qy,qy]; simp; omega)];congr 1;rw[W2,jcB,jcB];simp
theorem jcQ (w:Nat->Nat) (h9:n<=9) {l:List Nat} (h:Ln P n l) {m:Nat} (hw:∀ i,i<m->w i+1<n) {f:List Int->Int->Option (List Int)} (hf:∀ l i,i<m->Ln P n l->f (zn l) (i:Int)=xv (um P n) (zn l) ((w i:Nat):Int)) :
  L3.forM ((List.range m).map fun k=>((k:Nat):Int)) (zn l) f=some (zn (((List.range m).map w).foldl (swp P n) l)):=by
 have q:=MM.forM_then (kk:=some) (R:=fun r=>r=some (zn (((List.range m).map w).foldl (swp P n) l))) (f:=f) (n:=m) (b0:=zn l) (fun k z=>z=zn (((List.range k).map w).foldl (swp P n) l)) rfl (fun k z hk hz=>by
  subst hz;have Lk:Ln P n (((List.range k).map w).foldl (swp P n) l):=Jg _ (fun i hi=>by
   obtain⟨j,hj,rfl⟩:=XM.mp hi;exact hw j (by have:=Xp.mp hj; omega)) h
  rw[hf _ k hk Lk,Ul h9 Lk (hw k hk)];refine⟨_,rfl,?_⟩;rw[wa,wb,List.foldl_append];rfl) (fun z hz=>by rw[hz])
 rw[bsI] at q;exact q
theorem jhF {l:List Nat} (h9:n<=9) (h1:1<=n) (h:Ln P n l):Qw (um P n) (zn l)=some (zn ((List.range (n-1)).foldl (swp P n) l)):=by
 unfold Qw;rw[qy,h.len,show (n:Int)-1=((n-1:Nat):Int) by omega,MM.rng (by omega),MM.bs,jcQ id h9 h (fun i hi=>by simp; omega) (fun l i hi Ll=>by
  rw[Ul h9 Ll (by omega)];simp only[MM.bs,id];rw[Ul h9 Ll (by omega)]),MM.bs,List.map_id]
def wO (above:Bool) (N k:Nat):List Nat:=(List.range (N-k)).map fun j=>if above=true then j else N-1-j
theorem jit {above:Bool}{N k:Nat} (h:i∈wO above N k):i<N:=by
 obtain⟨j,hj,rfl⟩:=XM.mp h;have:=Xp.mp hj;show (if above=true then j else N-1-j)<N;split <;> omega
theorem jiu (N:Nat):(List.range N).flatMap (wO true N)=dW N:=by
 unfold dW;have e:(List.range' 1 N).reverse=(List.range N).map fun k=>N-k:=by
  apply List.ext_getElem
  ·simp
  ·intro i h1 h2;simp at h1;rw[List.getElem_reverse,List.getElem_map,List.getElem_range,List.getElem_range',List.length_range'];omega
 rw[e,List.flatMap_map];congr 1
 funext k
 unfold wO;simp
theorem jiv (N:Nat):(List.range N).flatMap (wO false N)=bW N 0:=by
 rw[jf3];congr 1
 funext k
 unfold wO rW eW;apply List.ext_getElem
 ·simp
 ·intro i h1 h2;simp at h1;rw[List.getElem_reverse,List.getElem_map,List.getElem_range,List.getElem_range',List.length_range'];simp;omega
section
variable [DecidableEq β]
def shr (C:β->List β) (F:List (List β)) (x:β):List (List β):=bif F.any (fun c=>decide (x∈c)) then F else F++[C x]
structure Shr (S:β->Prop) (C:β->List β) (i:Nat) (F:List (List β)):Prop where
 len:F.length<=i
 all:∀ c∈F,∃ x,S x/\c=C x
 ne:0<i->0<F.length
theorem Shr.step {C:β->List β}{F:List (List β)}{x:β} (h:Shr S C i F) (hx:S x):Shr S C (i+1) (shr C F x):=by
 unfold shr;cases q:F.any fun c=>decide (x∈c) with
 | true=>
  rw[MM.ct];obtain⟨c,hc,_⟩:=List.any_eq_true.mp q;exact⟨by have:=h.len; omega,h.all,fun _=>List.length_pos_of_mem hc⟩
 | false=>
  rw[MM.cf];refine⟨by have:=h.len; rw[Xt]; simp; omega,fun c hc=>?_,fun _=>by rw[Xt]; simp⟩;rcases List.mem_append.mp hc with hc | hc
  ·exact h.all c hc
  ·rw[wz] at hc;exact⟨x,hx,hc⟩
theorem Shr.all_of {C:β->List β}:∀ {ones:List β},(∀ x∈ones,S x)->∀ {i:Nat}{F:List (List β)},Shr S C i F->Shr S C (i+ones.length) (ones.foldl (shr C) F)
 | [],_,i,F,h=>h
 | x::r,hS,i,F,h=>by
  have:=Shr.all_of (ones:=r) (fun y hy=>hS y (Xe _ hy)) (h.step (hS x Xg));rw[Xv,show i+(r.length+1)=i+1+r.length by omega];exact this
theorem jgn {C:β->List β}:Shr S C 0 []:=⟨by simp,by simp,by simp⟩
theorem jcR {C:β->List β}{R:β->Option (List β)} (hR:∀ x,S x->R x=some (C x)):∀ {ones:List β},(∀ x∈ones,S x)->∀ {i:Nat}{F:List (List β)},Shr S C i F->i+ones.length<=10000 ->
  L3.forM ones F (fun found one=>(((((((qa found (fun _=>some true) (fun circle=>some ((QZ one circle))))).bind fun t4=>some ((t4.any id)))).bind fun t5=>some ((!t5)))).bind fun q8=>bif q8 then
   ((((R one)).bind fun t6=>(JN found t6))).bind fun found=>some found
   else some found).bind fun found=>some found)=some (ones.foldl (shr C) F)
 | [],_,i,F,_,_=>rfl
 | x::r,hS,i,F,h,hi=>by
  rw[Xv] at hi;have hl:=h.len;rw[MM.forM_cons,MM.comp1 (fun c=>QZ x c) (by omega) (fun _ _=>rfl)];simp only[MM.bs];have e:((F.map fun c=>QZ x c).any id)=F.any fun c=>decide (x∈c):=by
   rw[List.any_map];rfl
  have ih:=jcR hR (ones:=r) (fun y hy=>hS y (Xe _ hy)) (h.step (hS x Xg)) (by omega);rw[e,wt,hR x (hS x Xg)];rw[<- ih];unfold shr;cases q:F.any fun c=>decide (x∈c) with
  | true=>rw[XJ,MM.cf]; simp only[MM.bs]; rw[MM.ct]
  | false=>rw[Bool.not_false,MM.ct,MM.bs,MM.app (by omega)]; simp only[MM.bs]; rw[MM.cf]
theorem J1 {C:β->List β}{R:β->Option (List β)}{M:Nat} (hM:M<=3200) (hR:∀ x,S x->R x=some (C x)) (hC:∀ x,S x->(C x).length<=M):∀ {ones:List β},(∀ x∈ones,S x)->∀ {i:Nat}{F:List (List β)}{G:List (β×Bool)},Shr S C i F->i+ones.length<=3200 ->
  (∀ y,y∈G.map (·.1) ↔ F.any (fun c=>decide (y∈c))=true)->G.length<=i * M ->
  ∃ G',L3.forM ones (F,G) (fun z4 one=>
 (bif (!isK one z4.2) then
 ((R one)).bind fun circle=>
 ((JN z4.1 circle)).bind fun found=>
 (L3.forM circle z4.2 (fun gone_through other=>
 ((some (true)).bind fun t6=>(some (other)).bind fun t7=>WT gone_through t7 t6).bind fun gone_through=>
 some gone_through)).bind fun gone_through=>
 some (found,gone_through)
 else
 some (z4.1,z4.2)).bind fun z11=>
 some (z11.1,z11.2))=some (ones.foldl (shr C) F,G')
 | [],_,i,F,G,_,_,_,_=>⟨G,rfl⟩
 | x::r,hS,i,F,G,h,hi,hG,hl=>by
  rw[Xv] at hi;have hlen:=h.len;have hx:=hS x Xg;have hs:=h.step hx;have hiM:(i+1) * M<=3200 * 3200:=Nat.mul_le_mul (by omega) hM;have hi1:(i+1) * M=i * M+M:=by rw[Nat.add_mul,Nat.one_mul]
  have e:isK x G=F.any fun c=>decide (x∈c):=by
   rw[XN,MM.isK_iff];exact hG x
  rw[MM.forM_cons];dsimp only;rw[e,wt];cases q:F.any fun c=>decide (x∈c) with
  | true=>
   have e2:shr C F x=F:=by unfold shr; rw[q,MM.ct]
   rw[e2] at hs ⊢;rw[XJ,MM.cf];simp only[MM.bs];exact J1 hM hR hC (ones:=r) (fun y hy=>hS y (Xe _ hy)) hs (by omega) hG (by omega)
  | false=>
   have e2:shr C F x=F++[C x]:=by unfold shr; rw[q,MM.cf]
   rw[e2] at hs ⊢;have hc:=hC x hx;rw[Bool.not_false,MM.ct,hR x hx,MM.bs,MM.app (by omega),MM.bs];obtain⟨G',g1,g2,g3⟩:=MM.put_all (v:=true) (f:=fun gone_through other=>((some (true)).bind fun t6=>(some (other)).bind fun t7=>WT gone_through t7 t6).bind fun gone_through=>some gone_through) (l:=C x) (d:=G) (by omega) (fun d k hd=>by
    simp only[MM.bs];rw[MM.pPut_some hd,MM.bs])
   rw[g1];simp only[MM.bs];refine J1 hM hR hC (ones:=r) (fun y hy=>hS y (Xe _ hy)) hs (by omega) (fun y=>?_) (by omega);rw[g2,List.any_append,wp,hG,List.any_cons,List.any_nil,Bool.or_false,Xu,Or.comm]
end
section
theorem jhG [DecidableEq κ] {l:List (κ×α)}{k:κ}{v:α} (h:(l.map (·.1)).Nodup):((Zt l k v).map (·.1)).Nodup:=by
 unfold Zt;cases q:l.any fun p=>decide (p.1=k) with
 | true=>
  rw[MM.ct,List.map_map];have e:l.map ((fun x:κ×α=>x.1) ∘ fun p=>bif decide (p.1=k) then (p.1,v) else p)=l.map (·.1):=List.map_congr_left fun p _=>by
   show (bif decide (p.1=k) then (p.1,v) else p).1=p.1;cases decide (p.1=k) <;> rfl
  rw[e];exact h
 | false=>
  rw[MM.cf,wb,List.nodup_append];refine⟨h,by simp,fun a ha b hb z=>?_⟩;subst z;obtain⟨p,hp,rfl⟩:=XM.mp ha;have hb:p.1=k:=by simpa using hb
  have:=List.any_eq_false.mp q p hp;rw[Xl hb] at this;exact this rfl
theorem jeX [DecidableEq κ]:∀ {l:List (κ×α)},(l.map (·.1)).Nodup->∀ p∈l,Qe l p.1=some p.2
 | [],_,p,hp=>by simp at hp
 | q::l,h,p,hp=>by
  rw[XR,List.nodup_cons] at h;unfold Qe;rw[wo];rcases List.mem_cons.mp hp with rfl | hp
  ·rw[Xl rfl]; rfl
  ·have:q.1≠p.1:=fun z=>h.1 (z ▸ List.mem_map_of_mem hp);rw[Xf this];exact jeX h.2 p hp
theorem jeb {l:List (Int×Int)} (h:(l.map (·.1)).Nodup):JU l l=true:=by
 unfold JU;rw[XF];refine⟨by simp,X6.mpr fun p hp=>?_⟩;rw[jeX h p hp];simp
def jcS (rounds:List (List α)):Option (List (Int×Int)):=
 (some (([]:(List (Int×Int))))).bind fun counts=>
 (L3.forM rounds counts (fun counts circle=>
 ((some ((((Qe counts (circle.length:Int)).getD 0)+1))).bind fun t2=>(some ((circle.length:Int))).bind fun t3=>WT counts t3 t2).bind fun counts=>
 some counts)).bind fun counts=>
 some counts
theorem W8 {F:List (List α)} (h:F.length<=10000):∃ L,jcS F=some L/\JU L L=true/\L.length<=F.length:=by
 unfold jcS;rw[MM.bs];refine MM.forM_thenL (R:=fun r=>∃ L,r=some L/\JU L L=true/\L.length<=F.length) (fun i (z:List (Int×Int))=>z.length<=i/\(z.map (·.1)).Nodup) ⟨by simp,by simp⟩ ?_ ?_
 ·rintro i x z hx ⟨h1,h2⟩;have hi:i<F.length:=(List.getElem?_eq_some_iff.mp hx).1;simp only[MM.bs];rw[MM.pPut_some (by omega),MM.bs];have:=MM.put_len (l:=z) (k:=(x.length:Int)) (v:=((Qe z (x.length:Int)).getD 0)+1);exact⟨_,rfl,by omega,jhG h2⟩
 ·rintro z ⟨h1,h2⟩;exact⟨z,rfl,jeb h2,h1⟩
theorem ZI {S:List α->Prop}{F:List (List α)} (h0:0<F.length) (h:∀ c∈F,c.length<=3200):jgm F=some ():=by
 unfold jgm;rw[Xc h0];have:=h _ (List.getElem_mem h0);show (if _ then _ else _)=_;exact if_pos (by omega)
theorem jiL {ones:List α}{c:Int} (hn:ones.length<=10000) :
 ∃ r:List α,((((yr 0 (ones.length:Int))).bind fun l7=>L3.forM l7 (c,ones,([]:List α)) (fun z2 k_=>
 (some (((((z2.1 % 2147483646)+1) * 48271) % 2147483647))).bind fun cell=>
 (((WJ cell (z2.2.1.length:Int))).bind fun t4=>(Ue z2.2.1 t4).bind fun t5=>(JN z2.2.2 t5.1).bind fun t6=>some (t6,t5.2)).bind fun z3=>
 some (cell,z3.2,z3.1))).bind fun z8=>
 some z8.2.2)=some r/\r.length=ones.length/\∀ x∈r,x∈ones:=by
 rw[MM.rng (by omega),MM.bs];refine MM.forM_then (R:=fun z=>∃ r:List α,z=some r/\r.length=ones.length/\∀ x∈r,x∈ones) (fun k (z:Int×List α×List α)=>z.2.1.length+k=ones.length/\z.2.2.length=k/\(∀ x∈z.2.1,x∈ones)/\∀ x∈z.2.2,x∈ones) ⟨by simp,by simp,fun x hx=>hx,by simp⟩ ?_ ?_
 ·rintro k ⟨c,l,m⟩ hk ⟨h1,h2,h3,h4⟩;dsimp only at h1 h2 h3 h4 ⊢;rw[MM.bs,MM.modP (by omega),MM.bs];obtain⟨j,hj,ej⟩:=jhV ((((c % 2147483646)+1) * 48271) % 2147483647) (m:=l.length) (by omega);rw[ej];have ep:Ue l (j:Int)=some (l[j],l.eraseIdx j):=by
   unfold Ue;rw[if_pos (by omega),X7,Xc hj];rfl
  rw[ep,MM.bs,MM.app (by omega)];simp only[MM.bs];refine⟨_,rfl,?_,?_,fun x hx=>?_,fun x hx=>?_⟩
  ·show (l.eraseIdx j).length+(k+1)=_;rw[List.length_eraseIdx_of_lt hj];omega
  ·show (m++[l[j]]).length=_;simp[h2]
  ·exact h3 x (List.mem_of_mem_eraseIdx hx)
  ·rcases List.mem_append.mp hx with hx | hx
   ·exact h4 x hx
   ·rw[wz] at hx;subst hx;exact h3 _ (List.getElem_mem hj)
 ·rintro⟨c,l,m⟩ ⟨h1,h2,h3,h4⟩;exact⟨m,rfl,h2,h4⟩
end
abbrev eJ:Nat->Int:=fun x=>(x:Int)
theorem jgb {b:Nat} (o:Ok P n) (h9:n<=9) (hd:dsB P n b=true):∃ p,0<p/\p<=512/\xw ⟨zX P n⟩ (b:Int)=some (rnd eJ (gr P n) p b)/\yu (um P n) (b:Int) 0=some (rnd eJ (gr P n) p b):=by
 have hf:∀ x,dsB P n x=true->dsB P n (gr P n x)=true:=fun x _=>jhp o;have hg:∀ x,dsB P n x=true->gb P n (gr P n x)=x:=fun x hx=>jil o hx;obtain⟨p,h1,h2,h3,h4⟩:=jeU (S:=fun x=>dsB P n x=true) hf hg id (M:=2 ^ n) (fun _ _ _ _ e=>e) (fun x hx=>jik hx) hd;have h5:=jiY h9;have hT:∀ y,dsB P n y=true->((fun z=>!decide (z=(b:Int))) (eJ y)=false ↔ y=b):=fun y _=>by
  show (!decide ((y:Int)=(b:Int)))=false ↔ y=b;rw[Bool.not_eq_false',Xu];exact⟨fun h=>by exact_mod_cast h,fun h=>by rw[h]⟩
 have tu:∀ y:Nat,y4 (um P n) (y:Int) 0=some ((gr P n y:Nat):Int):=fun y=>by
  unfold y4;rw[Xl rfl,MM.ct,jf9 o h9]
 refine⟨p,h1,by omega,?_,?_⟩
 ·unfold xw;rw[U1 o h9 hd];simp only[MM.bs];exact QI (S:=fun x=>dsB P n x=true) (f:=gr P n) eJ (done:=qt ⟨zX P n⟩) (T:=fun z=>!decide (z=(b:Int))) hf hd (fun y hy=>U1 o h9 hy) hT h1 (by omega) h3 h4
 ·unfold yu;rw[tu b];simp only[MM.bs];exact QI (S:=fun x=>dsB P n x=true) (f:=gr P n) eJ (done:=fun z=>y4 (um P n) z 0) (T:=fun z=>!decide (z=(b:Int))) hf hd (fun y hy=>tu y) hT h1 (by omega) h3 h4
def SD (P:List (Nat×Nat)) (n:Nat) (v:Int):Prop:=∃ b:Nat,v=(b:Int)/\dsB P n b=true
def CD (P:List (Nat×Nat)) (n:Nat) (v:Int):List Int:=(xw ⟨zX P n⟩ v).getD []
theorem jgc (o:Ok P n) (h9:n<=9) {v:Int} (h:SD P n v):xw ⟨zX P n⟩ v=some (CD P n v)/\yu (um P n) v 0=some (CD P n v)/\0<(CD P n v).length/\(CD P n v).length<=512/\∀ x∈CD P n v,SD P n x:=by
 obtain⟨b,rfl,hd⟩:=h;obtain⟨p,h1,h2,h3,h4⟩:=jgb o h9 hd;have e:CD P n (b:Int)=rnd eJ (gr P n) p b:=by unfold CD; rw[h3]; rfl
 rw[e];refine⟨h3,h4,by rw[VM]; exact h1,by rw[VM]; exact h2,fun x hx=>?_⟩;unfold rnd at hx;obtain⟨i,_,rfl⟩:=XM.mp hx;exact⟨_,rfl,GR (S:=fun x=>dsB P n x=true) (fun x _=>jhp o) hd i⟩
theorem jhH (o:Ok P n) (h9:n<=9) (c:Int):∃ r,xG (um P n) c=some r/\0<r.length/\r.length<=1024/\∀ x∈r,SD P n x:=by
 obtain⟨D,eD,d1,d2,d3⟩:=jf_ (P:=P) (n:=n) o h9;unfold xG;rw[eD];simp only[MM.bs];rw[qy];have one:∀ a:Int,∃ b:Nat,dsB P n b=true/\((WJ a (D.length:Int)).bind fun t2=>pAt (zn D) t2)=some (b:Int):=fun a=>by
  obtain⟨j,hj,ej⟩:=jhV a d1;rw[MM.modP (by omega),ej,MM.bs,jfT hj];exact⟨_,d3 _ (getD_mem hj),rfl⟩
 obtain⟨b1,q1,e1⟩:=one (c / 3);obtain⟨b2,q2,e2⟩:=one (c / 400);rw[e1,e2];simp only[MM.bs];obtain⟨-,k2,k3,k4,k5⟩:=jgc o h9 (v:=(b1:Int)) ⟨b1,rfl,q1⟩;obtain⟨-,m2,m3,m4,m5⟩:=jgc o h9 (v:=(b2:Int)) ⟨b2,rfl,q2⟩;rw[k2,m2];simp only[MM.bs];cases c1:decide (c % 3=0) with
 | true=>
  rw[MM.ct];exact⟨_,rfl,k3,by omega,k5⟩
 | false=>
  rw[MM.cf];cases c2:decide (c % 3=1) with
  | true=>
   have ec:qa (CD P n (b2:Int)) (fun x=>some (!QZ x (CD P n (b1:Int)))) (fun x=>some x)=some ((CD P n (b2:Int)).filter fun x=>!QZ x (CD P n (b1:Int))):=by
    have:=MM.comp (l:=CD P n (b2:Int)) (p:=fun x=>some (!QZ x (CD P n (b1:Int)))) (f:=fun x=>some x) (fun x=>!QZ x (CD P n (b1:Int))) (fun x=>x) (by omega) (fun _ _=>rfl) (fun _ _ _=>rfl);rw[this,List.map_id']
   rw[MM.ct,ec,MM.bs];have hl:=XQ (fun x=>!QZ x (CD P n (b1:Int))) (CD P n (b2:Int));rw[MM.cat (by omega)];refine⟨_,rfl,by rw[Xt]; omega,by rw[Xt]; omega,fun x hx=>?_⟩;rcases List.mem_append.mp hx with hx | hx
   ·exact k5 x hx
   ·exact m5 x (XA.mp hx).1
  | false=>
   rw[MM.cf];refine⟨_,rfl,by rw[qy]; exact d1,by rw[qy]; omega,fun x hx=>?_⟩;obtain⟨b,hb,rfl⟩:=XM.mp hx;exact⟨b,rfl,d3 b hb⟩
theorem ZJ (h9:n<=9) (h1:1<=n) (above:Bool) {l:List Nat} (h:Ln P n l):qV (um P n) (zn l) (if above=true then 2 else 3)=some (zn (((List.range (n-1)).flatMap (wO above (n-1))).foldl (swp P n) l)):=by
 unfold qV;rw[Xf (by split <;> decide),MM.cf,Xf (by split <;> decide),MM.cf];simp only[MM.bs];rw[qy,h.len,show (n:Int)-1=((n-1:Nat):Int) by omega,MM.rng (by omega),MM.bs];refine MM.forM_then (R:=fun r=>r=some (zn (((List.range (n-1)).flatMap (wO above (n-1))).foldl (swp P n) l))) (fun k (z:List Int)=>z=zn (((List.range k).flatMap (wO above (n-1))).foldl (swp P n) l)) rfl ?_ ?_
 ·rintro k z hk rfl;have Lk:Ln P n (((List.range k).flatMap (wO above (n-1))).foldl (swp P n) l):=Jg _ (fun i hi=>by
   obtain⟨j,_,hj⟩:=List.mem_flatMap.mp hi;have:=jit hj;omega) h
  rw[show ((n-1:Nat):Int)-(k:Int)=((n-1-k:Nat):Int) by omega,MM.rng (by omega),MM.bs,jcQ (fun j=>if above=true then j else n-1-1-j) h9 Lk (fun i hi=>by split <;> omega) (fun l' i hi Ll=>by
   have ea:pAt ([(i:Int),(n:Int)-2-(i:Int)]:List Int) ((if above=true then 2 else 3)-2)=some (((if above=true then i else n-1-1-i:Nat):Nat):Int):=by
    cases above with
    | true=>
     have:pAt ([(i:Int),(n:Int)-2-(i:Int)]:List Int) ((0:Nat):Int)=some (i:Int):=MM.at_nat rfl;rw[if_pos rfl,if_pos rfl,<- this];rfl
    | false=>
     have:pAt ([(i:Int),(n:Int)-2-(i:Int)]:List Int) ((1:Nat):Int)=some ((n:Int)-2-(i:Int)):=MM.at_nat rfl;rw[if_neg (by decide),if_neg (by decide),show ((3:Int)-2)=((1:Nat):Int) by decide,this];congr 1;omega
   rw[ea,MM.bs];have e3:∀ x:Option (List Int),(x.bind fun line_here=>some line_here)=x:=fun x=>by cases x <;> rfl
   rw[e3]),MM.bs]
  refine⟨_,rfl,?_⟩;rw[wa,List.flatMap_append,List.foldl_append,List.flatMap_singleton];rfl
 ·rintro z rfl;rfl
structure Tu (P:List (Nat×Nat)) (n:Nat) (turn:MSlide ⊕ (MAbove ⊕ MBelow)) (which:Int) (W:List Nat):Prop where
 w:∀ i∈W,i+1<n
 d:∀ l,Ln P n l->(Sum.elim (fun o1=>qd o1 (zn l)) (fun o2=>Sum.elim (fun o3=>qe o3 (zn l)) (fun o4=>qf o4 (zn l)) o2) turn)=some (zn (W.foldl (swp P n) l))
 l:∀ l,Ln P n l->qV (um P n) (zn l) which=some (zn (W.foldl (swp P n) l))
theorem jiw (o:Ok P n) (h1:1<=n) (h9:n<=9) {k:Int} (hk:k=1 \/ k=2 \/ k=3):∃ turn W,Go (zX P n) k=some turn/\Tu P n turn k W:=by
 have is:xJ (zX P n)=some ⟨zX P n⟩:=by unfold xJ; rw[MM.bs]
 have ia:xK (zX P n)=some ⟨zX P n⟩:=by unfold xK; rw[MM.bs]
 have ib:xL (zX P n)=some ⟨zX P n⟩:=by unfold xL; rw[MM.bs]
 unfold Go;rw[is,ia,ib];simp only[MM.bs];rcases hk with rfl | rfl | rfl
 ·rw[Xf (by decide),MM.cf,Xl (by decide),MM.ct];refine⟨_,List.range (n-1),rfl,fun i hi=>by have:=Xp.mp hi; omega,fun l L=>jaC o h9 h1 L,fun l L=>?_⟩;unfold qV;rw[Xf (by decide),MM.cf,Xl (by decide),MM.ct,jhF h9 h1 L]
 ·rw[Xf (by decide),MM.cf,Xf (by decide),MM.cf,Xl (by decide),MM.ct];refine⟨_,dW (n-1),rfl,fun i hi=>by have:=jhu hi; omega,fun l L=>jd_ o h9 L,fun l L=>?_⟩;rw[<- jiu];exact ZJ h9 h1 true L
 ·rw[Xf (by decide),MM.cf,Xf (by decide),MM.cf,Xf (by decide),MM.cf];refine⟨_,bW (n-1) 0,rfl,fun i hi=>?_,fun l L=>jcM o h9 h1 L,fun l L=>?_⟩
  ·rw[jf3] at hi;obtain⟨j,_,hj⟩:=List.mem_flatMap.mp hi;have:=(jeT hj).2;omega
  ·rw[<- jiv];exact ZJ h9 h1 false L
def SL (P:List (Nat×Nat)) (n:Nat) (v:List Int):Prop:=∃ l,v=zn l/\Ln P n l
def CL (turn:MSlide ⊕ (MAbove ⊕ MBelow)) (v:List Int):List (List Int):=(qu turn v).getD []
theorem jix {turn:MSlide ⊕ (MAbove ⊕ MBelow)}{which:Int}{W:List Nat} (h5:n<=5) (t:Tu P n turn which W) {v:List Int} (h:SL P n v):qu turn v=some (CL turn v)/\yI (um P n) v which=some (CL turn v)/\(CL turn v).length<=3125:=by
 obtain⟨l,rfl,L⟩:=h;have hF:=jd6 (P:=P) (n:=n);have hi:∀ {x:List Nat}{i:Nat},Ln P n x->i<n-1->swp P n (swp P n x i) i=x:=fun hx hi=>jfY hx (by omega);have hf:∀ x,Ln P n x->Ln P n (W.foldl (swp P n) x):=fun x hx=>Jg _ t.w hx;have hg:∀ x,Ln P n x->W.reverse.foldl (swp P n) (W.foldl (swp P n) x)=x:=fun x hx=>by
  have:=hF.rev hi (w:=W) (fun i h=>by have:=t.w i h; omega) hx;rw[jcG] at this;exact this
 have hlt:∀ {x},Ln P n x->∀ t∈x,t<n:=fun hx t ht=>(hx.mem t).mp ht;obtain⟨p,q1,q2,q3,q4⟩:=jeU (S:=Ln P n) (f:=fun x=>W.foldl (swp P n) x) (g:=fun x=>W.reverse.foldl (swp P n) x) hf hg (cod n) (M:=n ^ n) (fun x y hx hy e=>(jcJ (by rw[hx.len,hy.len]) (hlt hx) (hlt hy) e).2) (fun x hx=>by
  have:=jhy (hlt hx);rw[hx.len] at this;exact this) L
 have q5:∀ n:Nat,n<=5->n ^ n<=3125:=by decide
 have q6:=q5 n h5;have hT:∀ y,Ln P n y->((fun z=>!Ys z (zn l)) (zn y)=false ↔ y=l):=fun y _=>by
  show (!Ys (zn y) (zn l))=false ↔ y=l;rw[Bool.not_eq_false',MM.isEq_iff];exact⟨fun h=>jhw h,fun h=>by rw[h]⟩
 have h3:qu turn (zn l)=some (rnd zn (fun x=>W.foldl (swp P n) x) p l):=by
  unfold qu;rw[t.d l L];simp only[MM.bs];exact QI (S:=Ln P n) (f:=fun x=>W.foldl (swp P n) x) zn (done:=fun v=>Sum.elim (fun o1=>qd o1 v) (fun o2=>Sum.elim (fun o3=>qe o3 v) (fun o4=>qf o4 v) o2) turn) (T:=fun z=>!Ys z (zn l)) hf L t.d hT q1 (by omega) q3 q4
 have e:CL turn (zn l)=rnd zn (fun x=>W.foldl (swp P n) x) p l:=by unfold CL; rw[h3]; rfl
 rw[e];refine⟨h3,?_,by rw[VM]; omega⟩;unfold yI;rw[t.l l L];simp only[MM.bs];exact QI (S:=Ln P n) (f:=fun x=>W.foldl (swp P n) x) zn (done:=fun v=>qV (um P n) v which) (T:=fun z=>!Ys z (zn l)) hf L t.l hT q1 (by omega) q3 q4
def jec (P:List (Nat×Nat)) (n k:Nat) (l:List Nat):List (List Nat):=((List.range k).filter fun t=>decide (t∈Dr P n (MB.setN l))).map fun t=>l++[t]
theorem jgd (o:Ok P n) (h5:n<=5):∃ A:List (List Nat),xH (um P n)=some (A.map zn)/\0<A.length/\A.length<=3125/\∀ l∈A,Ln P n l:=by
 have p5:∀ k,k<=5->5 ^ k<=3125:=by decide
 unfold xH;simp only[MM.bs];rw[jcN,MM.rng (by omega),MM.bs];refine MM.forM_then (R:=fun r=>∃ A:List (List Nat),r=some (A.map zn)/\0<A.length/\A.length<=3125/\∀ l∈A,Ln P n l) (fun k (z:List (List Int))=>∃ A:List (List Nat),z=A.map zn/\0<A.length/\A.length<=5 ^ k/\∀ l∈A,Bg P n l/\l.length=k) ⟨[[]],rfl,by simp,by simp,fun l hl=>by
  rw[wz] at hl;subst hl;exact⟨⟨List.nodup_nil,by simp,.nil,by simp⟩,rfl⟩⟩ ?_ ?_
 ·rintro k z hk ⟨A,rfl,a0,a1,a2⟩;have a3:=p5 k (by omega);have a4:5 ^ (k+1)=5 ^ k * 5:=Nat.pow_succ ..;refine MM.forM_thenL (R:=fun r=>∃ b',r=some b'/\∃ A:List (List Nat),b'=A.map zn/\0<A.length/\A.length<=5 ^ (k+1)/\∀ l∈A,Bg P n l/\l.length=k+1) (fun j (z:List (List Int))=>∃ B:List (List Nat),z=B.map zn/\(0<j->0<B.length)/\B.length<=j * 5/\∀ l∈B,Bg P n l/\l.length=k+1) ⟨[],rfl,by simp,by simp,by simp⟩ ?_ ?_
  ·rintro j x z hx ⟨B,rfl,b0,b1,b2⟩;have hj:j<A.length:=by
    have:=(List.getElem?_eq_some_iff.mp hx).1
    rwa [Xr] at this
   rw[XG] at hx;obtain⟨l,hl,rfl⟩:=Option.map_eq_some_iff.mp hx;obtain⟨c1,c2⟩:=a2 l (X8 hl);rw[MM.bs];refine MM.forM_then (R:=fun r=>∃ b',r=some b'/\∃ B:List (List Nat),b'=B.map zn/\(0<j+1->0<B.length)/\B.length<=(j+1) * 5/\∀ l∈B,Bg P n l/\l.length=k+1) (fun t (z:List (List Int))=>z=(B++jec P n t l).map zn) (by simp[jec]) ?_ ?_
   ·rintro t z ht rfl;have hfl:=XQ (fun t=>decide (t∈Dr P n (MB.setN l))) (List.range t);rw[XL] at hfl;have el:=jeV (P:=P) (n:=n) (by omega) ht;simp only[MM.bs] at el;rw[MM.bs,el,MM.bs,jga o (by omega) ht,MM.bs];have ee:jec P n (t+1) l=jec P n t l++(if t∈Dr P n (MB.setN l) then [l++[t]] else []):=by
     unfold jec;rw[wa,List.filter_append,wb];congr 1;by_cases hd:t∈Dr P n (MB.setN l) <;> simp[hd]
    rw[ee];by_cases hd:t∈Dr P n (MB.setN l)
    ·rw[Xl hd,MM.ct,MM.cat (by rw[qy,c2]; simp; omega),MM.bs,MM.app (by rw[Xr,Xt]; unfold jec; rw[Xr]; omega),if_pos hd];simp only[MM.bs];refine⟨_,rfl,?_⟩;rw[<- List.append_assoc,wb (l₁:=B++_)];congr 1;rw[List.map_singleton,W2];rfl
    ·rw[Xf hd,MM.cf,if_neg hd,List.append_nil];simp only[MM.bs];exact⟨_,rfl,rfl⟩
   ·rintro z rfl;have hfl:=XQ (fun t=>decide (t∈Dr P n (MB.setN l))) (List.range n);rw[XL] at hfl;refine⟨_,rfl,_,rfl,fun _=>?_,?_,fun l' hl'=>?_⟩
    ·obtain⟨d,hd⟩:=List.exists_mem_of_length_pos (jhv (l:=l) o (by omega)).1;refine List.length_pos_of_mem (a:=l++[d]) (List.mem_append.mpr (.inr ?_));unfold jec;exact XM.mpr ⟨d,XA.mpr ⟨Xp.mpr ((yJ o).mp hd).1,Xl hd⟩,rfl⟩
    ·rw[Xt];unfold jec;rw[Xr];omega
    ·rcases List.mem_append.mp hl' with h | h
     ·exact b2 l' h
     ·unfold jec at h;obtain⟨t,ht,rfl⟩:=XM.mp h;refine⟨c1.snoc o (wd (XA.mp ht).2),by simp[c2]⟩
  ·rintro z ⟨B,rfl,b0,b1,b2⟩;rw[Xr] at b0 b1;exact⟨_,rfl,B,rfl,b0 a0,by omega,b2⟩
 ·rintro z ⟨A,rfl,a0,a1,a2⟩;exact⟨A,rfl,a0,by have:=p5 n h5; omega,fun l hl=>(a2 l hl).1.ln (a2 l hl).2⟩
theorem law_true (ns:List Int) (hl:ns.length<=63):WZ ns=some true:=by
 unfold WZ;obtain⟨c0,e0⟩:=zl ns 0;have e0:kz ns 0=some c0:=e0;obtain⟨c20,e20⟩:=zl ns 20;have e20:kz ns 20=some c20:=e20;obtain⟨c21,e21⟩:=zl ns 21;have e21:kz ns 21=some c21:=e21;obtain⟨c22,e22⟩:=zl ns 22;have e22:kz ns 22=some c22:=e22;rw[e0,e20,e21,e22];simp only[MM.bs];have hw:∃ w:Int,pAt ([0,0,0,1,2,3]:List Int) (c22 % 6)=some w/\(w=0 \/ w=1 \/ w=2 \/ w=3):=by
  obtain⟨j,hj,ej⟩:=jhV c22 (m:=6) (by decide);have ej:c22 % 6=(j:Int):=ej;rw[ej]
  match j,hj with
  | 0,_=>exact ⟨_,MM.at_nat rfl,.inl rfl⟩
  | 1,_=>exact ⟨_,MM.at_nat rfl,.inl rfl⟩
  | 2,_=>exact ⟨_,MM.at_nat rfl,.inl rfl⟩
  | 3,_=>exact ⟨_,MM.at_nat rfl,.inr (.inl rfl)⟩
  | 4,_=>exact ⟨_,MM.at_nat rfl,.inr (.inr (.inl rfl))⟩
  | 5,_=>exact ⟨_,MM.at_nat rfl,.inr (.inr (.inr rfl))⟩
 obtain⟨w,ew,hw⟩:=hw;rw[ew,MM.bs];have hb:∃ m:Nat,pAt ([7,5]:List Int) (b2i (decide (0<w)))=some (m:Int)/\0<m/\m<=7/\(w≠0->m<=5):=by
  by_cases h:0<w
  ·have e2:b2i true=((1:Nat):Int):=by unfold b2i; rfl
   rw[Xl h,e2];exact⟨5,MM.at_nat rfl,by decide,by decide,fun _=>by decide⟩
  ·have e2:b2i false=((0:Nat):Int):=by unfold b2i; rfl
   rw[Xf h,e2];exact⟨7,MM.at_nat rfl,by decide,by decide,fun z=>by omega⟩
 obtain⟨m,em,m0,m7,m5⟩:=hb;rw[em,MM.bs,MM.modP (by omega),MM.bs];obtain⟨n,hn,en⟩:=jhV c0 m0;rw[en,MM.bs,show (1:Int)+(n:Int)=((1+n:Nat):Int) by omega];obtain⟨P,eP,o,_⟩:=jf5 ns 1 (n:=1+n) (by omega) (by omega);have eP:Gn ns 1 ((1+n:Nat):Int)=some (zp P):=eP;rw[eP,MM.bs,jf6 o (by omega),MM.bs,jav o (by omega) (by omega)];have elen:∀ (F:List (List Int)),x8 F=jcS F:=fun F=>by unfold x8 jcS; rfl
 have elen2:∀ (F:List (List (List Int))),yc F=jcS F:=fun F=>by unfold yc jcS; rfl
 have edue:∀ (F:List (List Int)),xk F=jcS F:=fun F=>by unfold xk jcS; rfl
 have edue2:∀ (F:List (List (List Int))),qx F=jcS F:=fun F=>by unfold qx jcS; rfl
 have eend:((x8 ([]:List (List Int))).bind fun t31=>some (JU t31 []))=some true:=by
  rw[elen];unfold jcS;rw[MM.bs,MM.forM_nil,MM.bs,MM.bs];unfold JU;rfl
 by_cases hz:w=0
 ·subst hz;rw[Xl rfl,MM.ct];obtain⟨r,er,r0,r1,r2⟩:=jhH o (by omega) c20;rw[er,MM.bs];obtain⟨q,eq,q0,q1⟩:=jiL (ones:=r) (c:=c21) (by omega);have eq':zj r c21=some q:=by unfold zj; rw[MM.bs,MM.bs]; exact eq
  have hS:∀ x∈q,SD P (1+n) x:=fun x hx=>r2 x (q1 x hx);have hO:=fun (x:Int) (hx:SD P (1+n) x)=>jgc o (by omega) hx;have hsh:=Shr.all_of (C:=CD P (1+n)) hS jgn;rw[Nat.zero_add] at hsh;have edu:WY (um P (1+n)) q 0=some (q.foldl (shr (CD P (1+n))) []):=by
   have:=jcR (C:=CD P (1+n)) (R:=fun x=>yu (um P (1+n)) x 0) (fun x hx=>(hO x hx).2.1) hS jgn (by omega);unfold WY;simp only[MM.bs] at this ⊢;rw[this,MM.bs]
  have ear:xf ⟨zX P (1+n)⟩ q=some (q.foldl (shr (CD P (1+n))) []):=by
   obtain⟨G',e⟩:=J1 (C:=CD P (1+n)) (R:=fun x=>xw ⟨zX P (1+n)⟩ x) (M:=512) (by decide) (fun x hx=>(hO x hx).1) (fun x hx=>(hO x hx).2.2.2.1) hS (G:=[]) jgn (by omega) (fun y=>by simp) (by simp);unfold xf;simp only[MM.bs] at e ⊢;rw[e,MM.bs]
  have etu:Ug (zX P (1+n)) 0=some ⟨zX P (1+n)⟩:=by unfold Ug; rw[Xl rfl,MM.ct,jaw]
  obtain⟨L,el,l1,l2⟩:=W8 (F:=q.foldl (shr (CD P (1+n))) []) (by have:=hsh.len; omega);have hc:∀ c∈q.foldl (shr (CD P (1+n))) [],c.length<=512:=fun c hc=>by
   obtain⟨x,hx,rfl⟩:=hsh.all c hc;exact(hO x hx).2.2.2.1
  have esp:=ZI (S:=fun _=>True) (F:=q.foldl (shr (CD P (1+n))) []) (hsh.ne (by omega)) (fun c h=>by have:=hc c h; omega);have ekr:qa (q.foldl (shr (CD P (1+n))) []) (fun _=>some true) (fun circle=>xI circle 0)=some ((q.foldl (shr (CD P (1+n))) []).map fun _=>true):=MM.comp1 (fun _=>true) (by have:=hsh.len; omega) fun c h=>by
   unfold xI;rw[XJ,MM.cf,Xl rfl,MM.ct,MM.comp1 (fun _=>true) (by have:=hc c h; omega) (fun x _=>by unfold Jy; rfl),MM.bs];simp
  simp only[MM.bs,eq',edu];rw[show (2:Int)=((2:Nat):Int) from rfl,MM.rng (by omega),MM.bs,MM.forR_rng (fun k hk=>?_),MM.bs,eln]
  ·exact eend
  ·rw[etu,MM.bs,ear,MM.bs,MM.isEq_self,MM.isEq_self,XJ,Bool.or_false,Bool.or_false,MM.cf,ekr];simp only[MM.bs];have ea:((q.foldl (shr (CD P (1+n))) []).map fun _=>true).all id=true:=by simp
   rw[ea,XJ,MM.cf,elen,el,MM.bs,MM.cf,edue,el];simp only[MM.bs];have hL:=hsh.len;rw[l1,XJ,MM.cf,esp,MM.bs,MM.pPut_some (by omega),MM.bs]
 ·rw[Xf hz,MM.cf];have n5:=m5 hz;obtain⟨A,eA,a0,a1,a2⟩:=jgd (P:=P) (n:=1+n) o (by omega);rw[eA,MM.bs];obtain⟨q,eq,q0,q1⟩:=jiL (ones:=A.map zn) (c:=c21) (by rw[Xr]; omega);have eq':yb (A.map zn) c21=some q:=by unfold yb; rw[MM.bs,MM.bs]; exact eq
  rw[Xr] at q0;have hS:∀ x∈q,SL P (1+n) x:=fun x hx=>by
   obtain⟨l,hl,rfl⟩:=XM.mp (q1 x hx);exact⟨l,rfl,a2 l hl⟩
  obtain⟨turn,W,etu,tu⟩:=jiw o (by omega) (by omega) (k:=w) (by omega);have hO:=fun (x:List Int) (hx:SL P (1+n) x)=>jix (by omega) tu hx;have hsh:=Shr.all_of (C:=CL turn) hS jgn;rw[Nat.zero_add] at hsh;have edu:GP (um P (1+n)) q w=some (q.foldl (shr (CL turn)) []):=by
   have:=jcR (C:=CL turn) (R:=fun x=>yI (um P (1+n)) x w) (fun x hx=>(hO x hx).2.1) hS jgn (by omega);unfold GP;simp only[MM.bs] at this ⊢;rw[this,MM.bs]
  have ear:qv turn q=some (q.foldl (shr (CL turn)) []):=by
   obtain⟨G',e⟩:=J1 (C:=CL turn) (R:=fun x=>qu turn x) (M:=3125) (by decide) (fun x hx=>(hO x hx).1) (fun x hx=>(hO x hx).2.2) hS (G:=[]) jgn (by omega) (fun y=>by simp) (by simp);unfold qv;simp only[MM.bs] at e ⊢;rw[e,MM.bs]
  obtain⟨L,el,l1,l2⟩:=W8 (F:=q.foldl (shr (CL turn)) []) (by have:=hsh.len; omega);have hc:∀ c∈q.foldl (shr (CL turn)) [],c.length<=3125:=fun c hc=>by
   obtain⟨x,hx,rfl⟩:=hsh.all c hc;exact(hO x hx).2.2
  have esp:=ZI (S:=fun _=>True) (F:=q.foldl (shr (CL turn)) []) (hsh.ne (by omega)) (fun c h=>by have:=hc c h; omega);have ekr:qa (q.foldl (shr (CL turn)) []) (fun _=>some true) (fun circle=>qQ circle w)=some ((q.foldl (shr (CL turn)) []).map fun _=>true):=MM.comp1 (fun _=>true) (by have:=hsh.len; omega) fun c h=>by
   unfold qQ;rw[XJ,MM.cf,Xf hz,MM.cf,MM.comp1 (fun _=>true) (by have:=hc c h; omega) (fun x _=>rfl),MM.bs];simp
  simp only[MM.bs,eq',edu];rw[show (2:Int)=((2:Nat):Int) from rfl,MM.rng (by omega),MM.bs,MM.forR_rng (fun k hk=>?_),MM.bs,eln]
  ·exact eend
  ·rw[etu,MM.bs,ear,MM.bs,MM.isEq_self,MM.isEq_self,XJ,Bool.or_false,Bool.or_false,MM.cf,ekr];simp only[MM.bs];have ea:((q.foldl (shr (CL turn)) []).map fun _=>true).all id=true:=by simp
   rw[ea,XJ,MM.cf,elen2,el,MM.bs,MM.cf,edue2,el];simp only[MM.bs];have hL:=hsh.len;rw[l1,XJ,MM.cf,esp,MM.bs,MM.pPut_some (by omega),MM.bs]
end Lw
namespace Lw
open PySem L2 L3
def top (i:Nat):Stmt:=PySem.Challenge.pw_toggleclock_k64_all_rounds_share_out.main.body.getD i (.Pass ⟨0,0,0,0⟩)
section
variable {P:Program}{f:Addr} 
theorem sc__law_cell_at:FnScope ["_law_script","_law_k","_law_cell","_law_low"] ["_law_script","_law_k"] (jn (top 42)):=⟨rfl,rfl,rfl,by decide +kernel,rfl,by decide +kernel,by decide +kernel⟩
theorem Um (B:Bi mg) (Fn:Fun K "_law_cell_at" "_law_cell_at" (top 42) f fd):FnOk P w K mg base CX0 1 f fd ["_law_script","_law_k"] (sp2 K (pF cScr) (pF cI) (rF cI) kz):=by
 refine Fn.ok sc__law_cell_at (fun vs H Q E h=>?_) (fun cdv A outer s H0 vs Q E_ hr h=>?_)
 ·obtain⟨_,_,_,_,_,_,rfl,_⟩:=h;rfl
 ·obtain⟨script,k_,ya,V_k_,Fe,R,rfl,S_,jf,P_k_,Hm,Kk⟩:=h;have nd:=sc__law_cell_at.nd;have hu:=kG hr;refine⟨_,(jg (jM (i:=2) nd rfl (Or.inl rfl) jy)
   (jg (Gy (qB (kq ja2 (jP jQ rfl B.len_ (by kernel_rfl) (jc (pv 0) ji)) jy (kD _)) (jo (jM (i:=2) nd rfl (Or.inl rfl) (qS kS (pv 0) (ke xX (pv 1) (jP jQ rfl B.len_ (by kernel_rfl) (jc (pv 0) ji))) (fun _ _=>rfl)))) kg))
   (jg (jM (i:=3) nd rfl (Or.inl rfl) (ke xX (ke Wv (ke xD (pv 2) (ke Wv jy (ke xD (pv 1) jy))) jy) jy))
   (jo (j1 (ke xD (ke Wv (ke yZ (ke xX (pv 2) (ke jgy jy jy)) jy) jy) (pv 3))))))),?_⟩
  try dsimp only[kH]
  have X:Ext Fe H0 Fe H0:=Ext.refl S_;unfold kz at Hm;replace jf:cScr.rep K Fe script ya:=jf;obtain rfl:V_k_=.int k_:=P_k_;refine(q9 (K:=K) (jz _) X Hm ?_);intro cell F H Hm E X;replace jf:=E.xc jf;refine(jgY (K:=K) (fun cell σ' H'=>∃ F':Hp,σ'=[some ya,some (.int k_),some (.int cell),none]/\(Ext Fe H0 F' H'/\Same F F')) (qN (jl Qr (jL xY (jfi (jh (p:=pF cScr) (i:=0) rfl jf)) rfl) (jz _) rfl)) X Hm ?_ ?_ ?_)
  ·intro B_ F H Hm E X;replace jf:=E.xc jf;have SJ0:=E.f;refine(Gi (K:=K) (kr yM (jfi (jh (p:=pF cScr) (i:=0) rfl jf)) (jl QY (jV (i:=1) rfl) (jL xY (jfi (jh (p:=pF cScr) (i:=0) rfl jf)) rfl) rfl) rfl) X Hm ?_);intro cell F H Hm E X;replace SJ0:=E.xd SJ0;cases Hm;exact⟨F,rfl,⟨X,SJ0⟩⟩
  ·intro B_ F H Hm E X;have SJ0:=E.f;refine Gb ?_;cases Hm;exact⟨F,rfl,⟨X,SJ0⟩⟩
  ·rintro cell σ_ H Hm ⟨F,rfl,⟨X,SF_⟩⟩
   try dsimp only at Hm
   refine(q9 (K:=K) (xF (by decide) (Gj ⟨by decide,by decide⟩ (jl kI (jV (i:=2) rfl) (YA ⟨by decide,by decide⟩ (jz _) (jl kI (jV (i:=1) rfl) (jz _) rfl) rfl) rfl) (jz _) rfl) (jz _) rfl) X Hm ?_);intro low F H Hm E X;exact kf (K:=K) (jl kI (Gj ⟨by decide,by decide⟩ (zg ⟨by decide,by decide⟩ (xF (by decide) (jV (i:=2) rfl) (jbW (i:=10) (j:=60) ⟨by decide,by decide,by decide⟩ (jz _) (jz _) rfl) rfl) (jz _) rfl) (jz _) rfl) (jV (i:=3) rfl) rfl) X Hm Kk
theorem sc__law_pairs:FnScope ["_law_script","_law_at","_law_n","_law_kind","_law_pairs_here","_law_cell","_law_high","_law_low","_law_k"] ["_law_script","_law_at","_law_n"] (jn (top 44)):=⟨rfl,rfl,rfl,by decide +kernel,rfl,by decide +kernel,by decide +kernel⟩
theorem VT (B:Bi mg) (Fn:Fun K "_law_pairs" "_law_pairs" (top 44) f fd) (ku:Def P w K mg base "_law_cell_at" 1 ["_law_script","_law_k"] (sp2 K (pF cScr) (pF cI) (rF cI) kz)):FnOk P w K mg base CX0 2 f fd ["_law_script","_law_at","_law_n"] (sp3 K (pF cScr) (pF cI) (pF cI) (rO (cP cI cI)) Gn):=by
 refine Fn.ok sc__law_pairs (fun vs H Q E h=>?_) (fun cdv A outer s H0 vs Q E_ hr h=>?_)
 ·obtain⟨_,_,_,_,_,_,_,_,rfl,_⟩:=h;rfl
 ·obtain⟨script,at_,n_,ya,jcU,V_n_,Fe,R,rfl,S_,jf,jcV,P_n_,Hm,Kk⟩:=h;have nd:=sc__law_pairs.nd;have hu:=kG hr;refine⟨_,(jg (jM (i:=3) nd rfl (Or.inl rfl) (ke xX (ke yZ (jU ku (hr.mono (by decide)) rfl (jc (pv 0) (jc (pv 1) ji))) jy) jy))
   (jg (qB (PW.pt (Wp (kq yW (pv 2) jy (kD _)) (UH (kq yW (pv 3) jy (kD _))))) (jo (j1 (qC ji))) kg)
   (jg (qB (kq yW (pv 3) jy (kD _)) (jo (j1 (qk (own:=["_law_k"]) (ix:=[]) (qY rfl) rfl (kh rfl B.range_ (jc (ke Gw (pv 2) jy) ji)) (fun _=>(jN (i:=0) (show List.Nodup (["_law_k"]:List Str) by decide +kernel) rfl (Or.inl rfl))) (fun _=>xZ) (fun _=>(QP (jc (pv 0) (jc (ke xD (pv 0) jy) ji))))))) kg)
   (jg (jM (i:=4) nd rfl (Or.inl rfl) (qC ji))
   (jg (qB (kq ZQ (pv 3) jy (kD _)) (jg (jM (i:=5) nd rfl (Or.inl rfl) (jU ku (hr.mono (by decide)) rfl (jc (pv 0) (jc (ke xD (pv 1) jy) ji))))
   (jg (kP PassesOwn.never rfl (kh rfl B.range_ (jc (pv 2) ji)) (jN (i:=6) nd rfl (Or.inl rfl)) (jo (kP PassesOwn.never rfl (kh rfl B.range_ (jc (pv 6) ji)) (jN (i:=7) nd rfl (Or.inl rfl)) (jg (Gy (qB (kq yW (ke xX (pv 5) (pv 3)) jy (kD _)) (jo (kZ (zR Xx Xz Xy kJ (pv 4) (jc (QP (jc (pv 7) (jc (pv 6) ji))) ji)))) kg))
   (jo (jM (i:=5) nd rfl (Or.inl rfl) (ke yZ (pv 5) (pv 3))))))))
   (jo (j1 (pv 4))))) kg)
   (jg (kP PassesOwn.never rfl (kh rfl B.range_ (jc (ke xD jy (ke xX (ke yZ (jU ku (hr.mono (by decide)) rfl (jc (pv 0) (jc (pv 1) ji))) jy) jy)) ji)) (jN (i:=8) nd rfl (Or.inl rfl)) (jg (jM (i:=5) nd rfl (Or.inl rfl) (jU ku (hr.mono (by decide)) rfl (jc (pv 0) (jc (ke xD (ke xD (pv 1) jy) (pv 8)) ji))))
   (jg (jM (i:=7) nd rfl (Or.inl rfl) (ke xX (pv 5) (ke Gw (pv 2) jy)))
   (jo (kZ (zR Xx Xz Xy kJ (pv 4) (jc (QP (jc (pv 7) (jc (ke xD (ke xD (pv 7) jy) (ke xX (ke yZ (pv 5) jy) (ke Gw (ke Gw (pv 2) jy) (pv 7)))) ji))) ji)))))))
   (jo (j1 (pv 4))))))))),?_⟩
  try dsimp only[kH]
  have X:Ext Fe H0 Fe H0:=Ext.refl S_;unfold Gn at Hm;replace jf:cScr.rep K Fe script ya:=jf;obtain rfl:jcU=.int at_:=jcV;obtain rfl:V_n_=.int n_:=P_n_;refine(q9 (K:=K) (JO (by decide) (WM ⟨by decide,by decide⟩ (jI (jh (p:=pF cScr) (i:=0) rfl jf) (jV (i:=1) rfl) rfl) (jz _) rfl) (jz _) rfl) X Hm ?_);intro kind F H Hm E X;replace jf:=E.xc jf;refine(Ga (K:=K) (GH (qN (jl y0 (jV (i:=2) rfl) (jz _) rfl)) (qN (jl y0 (jV (i:=3) rfl) (jz _) rfl)) rfl) X Hm ?_ ?_)
  ·intro F H Hc Hm E X;exact kf (K:=K) (qE (qr (c:=(cP cI cI))) (by decide)) X Hm Kk
  ·intro F H Hc Hm E X;replace jf:=E.xc jf;refine Gb ?_;refine(Ga (K:=K) (qN (jl y0 (jV (i:=3) rfl) (jz _) rfl)) X Hm ?_ ?_)
   ·intro F H Hc Hm E X;exact kf (K:=K) (qh (qO (jl kI (jV (i:=2) rfl) (jz _) rfl) rfl) [] rfl (fun b4 k_ _ _ E3=>yS) (fun b4 k_ _ _ E3=>(Jt (jV (i:=0) rfl) (jl kI (jV (i:=0) rfl) (jz _) rfl) rfl)) rfl) X Hm Kk
   ·intro F H Hc Hm E X;replace jf:=E.xc jf;refine Gb ?_;refine(x5 (K:=K) (qE (qr (c:=(cP cI cI))) (by decide)) X Hm ?_);intro pairs_here j9 F H Hm E X Hn jq;replace jf:=E.xc jf;refine(Ga (K:=K) (qN (jl Qr (jV (i:=3) rfl) (jz _) rfl)) X Hm ?_ ?_)
    ·intro F H Hc Hm E X;replace jf:=E.xc jf;replace jq:=jq.mono E;refine(q9 (K:=K) (jI (jh (p:=pF cScr) (i:=0) rfl jf) (jl kI (jV (i:=1) rfl) (jz _) rfl) rfl) X Hm ?_);intro cell F H Hm E X;replace jq:=jq.mono E;refine Ji (K:=K) (c:=cI) ?_ X Hm (fun F1 b σ' F' H'=>match b with | (pairs_here,cell)=>∃ (j9:Addr) (w6_:Option V) (w7_:Option V),σ'=[some ya,some (.int at_),some (.int n_),some (.int kind),some (.ref j9),some (.int cell),w6_,w7_,none]/\(Ext Fe H0 F' H'/\Same F1 F')/\Own K H0 F' H' (cP cI cI) pairs_here j9) ?_ ?_ ?_ ?_
     ·exact(kA (jV (i:=2) rfl) rfl)
     ·intro F H E X;replace jq:=jq.mono E;exact⟨_,_,_,rfl,⟨X,(Same.refl _)⟩,jq⟩
     ·rintro F1 ⟨pairs_here,cell⟩ σ_ F_ H_ ⟨j9,w6_,w7_,rfl,⟨X_,SF_⟩,jq⟩;exact⟨X_,SF_⟩
     ·rintro F1 S0_ ⟨pairs_here,cell⟩ B_ high J5 σ_ F_ H_ F H ⟨j9,w6_,w7_,rfl,⟨X,SF_⟩,jq⟩ E J6 Hm
      try dsimp only at Hm
      have SL0:=SF_;replace SF_:=Same.trans S0_ SF_;replace X:=Ext.trans X E;replace jq:=jq.mono E;replace SL0:=E.xd SL0;obtain rfl:J5=.int high:=J6;refine qb ?_;refine UQ (K:=K) (c:=cI) ?_ X Hm (fun F1 b σ' F' H'=>match b with | (pairs_here,cell)=>∃ (j9:Addr) (w9_:Option V),σ'=[some ya,some (.int at_),some (.int n_),some (.int kind),some (.ref j9),some (.int cell),some (.int high),w9_,none]/\(Ext Fe H0 F' H'/\Same F1 F')/\Own K H0 F' H' (cP cI cI) pairs_here j9) ?_ ?_ ?_ ?_
      ·exact(kA (jV (i:=6) rfl) rfl)
      ·intro F H E X;replace jq:=jq.mono E;exact⟨_,_,rfl,⟨X,(Same.refl _)⟩,jq⟩
      ·rintro F1 ⟨pairs_here,cell⟩ σ_ F_ H_ ⟨j9,w9_,rfl,⟨X_,SF_⟩,jq⟩;exact⟨X_,SF_⟩
      ·rintro F1 S0_ ⟨pairs_here,cell⟩ B_ low We σ_ F_ H_ F H ⟨j9,w9_,rfl,⟨X,SF_⟩,jq⟩ E Wf Hm
       try dsimp only at Hm
       have SL1:=SF_;replace SF_:=Same.trans S0_ SF_;replace X:=Ext.trans X E;replace jq:=jq.mono E;replace SL1:=E.xd SL1;obtain rfl:We=.int low:=Wf;refine qb ?_;refine(jh_ (K:=K) (fun pairs_here σ' H'=>∃ F':Hp,∃ (j9:Addr),σ'=[some ya,some (.int at_),some (.int n_),some (.int kind),some (.ref j9),some (.int cell),some (.int high),some (.int low),none]/\(Ext Fe H0 F' H'/\Same F F')/\Own K H0 F' H' (cP cI cI) pairs_here j9) (qN (kr y0 (jl QY (jV (i:=5) rfl) (jV (i:=3) rfl) rfl) (jz _) rfl)) X Hm ?_ ?_ ?_)
       ·intro B_ F H Hm E X;replace jq:=jq.mono E;have SJ2:=E.f;refine(zf (K:=K) (k':=4) rfl jq (Jt (jV (i:=7) rfl) (jV (i:=6) rfl) rfl) X Hm ?_);intro pairs_here F H Hm Cg X jq;replace SJ2:=Same.trans SJ2 Cg.f;cases Hm;exact⟨F,_,rfl,⟨X,SJ2⟩,jq⟩
       ·intro B_ F H Hm E X;replace jq:=jq.mono E;have SJ2:=E.f;refine Gb ?_;cases Hm;exact⟨F,_,rfl,⟨X,SJ2⟩,jq⟩
       ·rintro pairs_here σ_ H Hm ⟨F,j9,rfl,⟨X,SF_⟩,jq⟩
        try dsimp only at Hm
        replace SL1:=Same.trans SL1 SF_;refine(Gi (K:=K) (jl jfl (jV (i:=5) rfl) (jV (i:=3) rfl) rfl) X Hm ?_);intro cell F H Hm E X;replace jq:=jq.mono E;replace SL1:=E.xd SL1;cases Hm;exact⟨F,_,_,rfl,⟨X,SL1⟩,jq⟩
      ·rintro F1 S0_ ⟨pairs_here,cell⟩ σ_ F H Hm ⟨j9,w9_,rfl,⟨X,SF_⟩,jq⟩
       try dsimp only at Hm
       replace SF_:=Same.trans S0_ SF_;replace SL0:=Same.trans SL0 SF_;cases Hm;exact⟨F,_,_,_,rfl,⟨X,SL0⟩,jq⟩
     ·rintro F1 S0_ ⟨pairs_here,cell⟩ σ_ F H Hm ⟨j9,w6_,w7_,rfl,⟨X,SF_⟩,jq⟩
      try dsimp only at Hm
      exact ze (K:=K) (i:=4) rfl jq X Hm Kk
    ·intro F H Hc Hm E X;replace jf:=E.xc jf;replace jq:=jq.mono E;refine Gb ?_;refine Ji (K:=K) (c:=cI) ?_ X Hm (fun F1 pairs_here σ' F' H'=>∃ (j9:Addr) (w24_:Option V) (w25_:Option V) (w26_:Option V),σ'=[some ya,some (.int at_),some (.int n_),some (.int kind),some (.ref j9),w24_,none,w25_,w26_]/\(Ext Fe H0 F' H'/\Same F1 F')/\Own K H0 F' H' (cP cI cI) pairs_here j9) ?_ ?_ ?_ ?_
     ·exact(jbT (kr kI (jz _) (JO (by decide) (WM ⟨by decide,by decide⟩ (jI (jh (p:=pF cScr) (i:=0) rfl jf) (jV (i:=1) rfl) rfl) (jz _) rfl) (jz _) rfl) rfl) rfl)
     ·intro F H E X;replace jq:=jq.mono E;exact⟨_,_,_,_,rfl,⟨X,(Same.refl _)⟩,jq⟩
     ·rintro F1 pairs_here σ_ F_ H_ ⟨j9,w24_,w25_,w26_,rfl,⟨X_,SF_⟩,jq⟩;exact⟨X_,SF_⟩
     ·rintro F1 S0_ pairs_here B_ k_ V_k_ σ_ F_ H_ F H ⟨j9,w24_,w25_,w26_,rfl,⟨X,SF_⟩,jq⟩ E P_k_ Hm
      try dsimp only at Hm
      have SL0:=SF_;replace SF_:=Same.trans S0_ SF_;replace jf:=Cd.mono _ SF_ jf;replace X:=Ext.trans X E;replace jf:=E.xc jf;replace jq:=jq.mono E;replace SL0:=E.xd SL0;obtain rfl:V_k_=.int k_:=P_k_;refine qb ?_;refine(q9 (K:=K) (jI (jh (p:=pF cScr) (i:=0) rfl jf) (jl kI (jl kI (jV (i:=1) rfl) (jz _) rfl) (jV (i:=8) rfl) rfl) rfl) X Hm ?_);intro cell F H Hm E X;replace jq:=jq.mono E;replace SL0:=E.xd SL0;refine(q9 (K:=K) (jl QY (jV (i:=5) rfl) (jl kI (jV (i:=2) rfl) (jz _) rfl) rfl) X Hm ?_);intro low F H Hm E X;replace jq:=jq.mono E;replace SL0:=E.xd SL0;refine(z_ (K:=K) (i:=4) rfl jq (jbS (jV (i:=7) rfl) (kr kI (jl kI (jV (i:=7) rfl) (jz _) rfl) (jl QY (zg ⟨by decide,by decide⟩ (jV (i:=5) rfl) (jz _) rfl) (jl kI (jl kI (jV (i:=2) rfl) (jz _) rfl) (jV (i:=7) rfl) rfl) rfl) rfl) rfl) X Hm ?_);intro pairs_here F H Hm Cg X jq;replace SL0:=Same.trans SL0 Cg.f;cases Hm;exact⟨F,_,_,_,_,rfl,⟨X,SL0⟩,jq⟩
     ·rintro F1 S0_ pairs_here σ_ F H Hm ⟨j9,w24_,w25_,w26_,rfl,⟨X,SF_⟩,jq⟩
      try dsimp only at Hm
      exact ze (K:=K) (i:=4) rfl jq X Hm Kk
theorem sc__law_under:FnScope ["_law_n","_law_pairs_here","_law_under_here","_law_k","_law_found","_law_one","_law_two"] ["_law_n","_law_pairs_here"] (jn (top 45)):=⟨rfl,rfl,rfl,by decide +kernel,rfl,by decide +kernel,by decide +kernel⟩
theorem VU (B:Bi mg) (Fn:Fun K "_law_under" "_law_under" (top 45) f fd):FnOk P w K mg base CX0 1 f fd ["_law_n","_law_pairs_here"] (sp2 K (pF cI) (pB (cP cI cI)) (rO (cL cB)) yO):=by
 refine Fn.ok sc__law_under (fun vs H Q E h=>?_) (fun cdv A outer s H0 vs Q E_ hr h=>?_)
 ·obtain⟨_,_,_,_,_,_,rfl,_⟩:=h;rfl
 ·obtain⟨n_,pairs_here,V_n_,xN,Fe,R,rfl,S_,P_n_,jj,Hm,Kk⟩:=h;have nd:=sc__law_under.nd;have hu:=kG hr;refine⟨_,(jg (jM (i:=2) nd rfl (Or.inr rfl) (qC ji))
   (jg (kP PassesOwn.never rfl (kh rfl B.range_ (jc (pv 0) ji)) (jN (i:=3) nd rfl (Or.inr rfl)) (jg (jM (i:=4) nd rfl (Or.inr rfl) (qk (own:=["_law_j"]) (ix:=[]) (qY rfl) rfl (kh rfl B.range_ (jc (pv 0) ji)) (fun _=>(jN (i:=0) (show List.Nodup (["_law_j"]:List Str) by decide +kernel) rfl (Or.inl rfl))) (fun _=>xZ) (fun _=>GA)))
   (jg (kP PassesOwn.never rfl (kN (pv 1)) (Ws rfl (yC (jN (i:=5) nd rfl (Or.inr rfl)) (yC (jN (i:=6) nd rfl (Or.inl rfl)) QM))) (jo (Gy (qB (kq yW (pv 6) (pv 3) (kD _)) (jg (jaR GA (jaQ (pv 4) (pv 5) U8))
   (jo (jM (i:=4) nd rfl (Or.inr rfl) (qk (own:=["_law_j"]) (ix:=[2,3,4,5]) (qY rfl) rfl (kh rfl B.range_ (jc (pv 0) ji)) (fun _=>(jN (i:=0) (show List.Nodup (["_law_j","_law_under_here","_law_k","_law_found","_law_one"]:List Str) by decide +kernel) rfl (Or.inl rfl))) (fun _=>xZ) (fun _=>(je2 (qS kS (pv 3) (pv 0) (fun _ _=>rfl)) (UI (Y2 (zc ZQ (pv 0) (pv 2) (kD _)) (UI (qS kS (qS kS (pv 1) (pv 4) (fun _ _=>rfl)) (pv 0) (fun _ _=>rfl))))))))))) kg))))
   (jo (kZ (zR Xx Xz Xy kJ (pv 2) (jc (pv 4) ji)))))))
   (jo (j1 (pv 2))))),?_⟩
  try dsimp only[kH]
  have X:Ext Fe H0 Fe H0:=Ext.refl S_;unfold yO at Hm;obtain rfl:V_n_=.int n_:=P_n_;have jG:Bor K H0 Fe (cP cI cI) pairs_here xN:=jj;clear jj;refine(x5 (K:=K) (qE (qr (c:=(cL cB))) (by decide)) X Hm ?_);intro under_here kM F H Hm E X Hn jD;replace jG:=E.xb jG;refine Ji (K:=K) (c:=cI) ?_ X Hm (fun F1 under_here σ' F' H'=>∃ (kM:Addr) (w1_:Option V) (w2_:Option V) (w3_:Option V) (w4_:Option V),σ'=[some (.int n_),some xN,some (.ref kM),w1_,w2_,w3_,w4_]/\(Ext Fe H0 F' H'/\Same F1 F')/\Own K H0 F' H' (cL cB) under_here kM) ?_ ?_ ?_ ?_
  ·exact(kA (jV (i:=0) rfl) rfl)
  ·intro F H E X;replace jD:=jD.mono E;exact⟨_,_,_,_,_,rfl,⟨X,(Same.refl _)⟩,jD⟩
  ·rintro F1 under_here σ_ F_ H_ ⟨kM,w1_,w2_,w3_,w4_,rfl,⟨X_,SF_⟩,jD⟩;exact⟨X_,SF_⟩
  ·rintro F1 S0_ under_here B_ k_ V_k_ σ_ F_ H_ F H ⟨kM,w1_,w2_,w3_,w4_,rfl,⟨X,SF_⟩,jD⟩ E P_k_ Hm
   try dsimp only at Hm
   have SL0:=SF_;replace SF_:=Same.trans S0_ SF_;replace jG:=Bor.mono jG SF_;replace X:=Ext.trans X E;replace jG:=E.xb jG;replace jD:=jD.mono E;replace SL0:=E.xd SL0;obtain rfl:V_k_=.int k_:=P_k_;refine qb ?_;refine(x5 (K:=K) (qh (qO (jV (i:=0) rfl) rfl) [] rfl (fun b6 j_ _ _ E5=>yS) (fun b6 j_ _ _ E5=>(GB _)) rfl) X Hm ?_);intro found js F H Hm E X Hn O_found;have jR:=Own.ne jD Hn;have xA:=Ne.symm jR;replace jG:=E.xb jG;replace jD:=jD.mono E;replace SL0:=E.xd SL0;refine yt (K:=K) (c:=(cP cI cI)) ?_ X Hm (fun F1 found σ' F' H'=>∃ (js:Addr) (w8_:Option V) (w9_:Option V),σ'=[some (.int n_),some xN,some (.ref kM),some (.int k_),some (.ref js),w8_,w9_]/\(Ext Fe H0 F' H'/\Same F1 F')/\Own K H0 F' H' (cL cB) under_here kM/\Own K H0 F' H' cB found js/\kM≠js) ?_ ?_ ?_ ?_
   ·exact(Gz (i:=1) rfl jG)
   ·intro F H E X;replace jD:=jD.mono E;replace O_found:=O_found.mono E;exact⟨_,_,_,rfl,⟨X,(Same.refl _)⟩,jD,O_found,jR⟩
   ·rintro F1 found σ_ F_ H_ ⟨js,w8_,w9_,rfl,⟨X_,SF_⟩,jD,O_found,jR⟩;exact⟨X_,SF_⟩
   ·rintro F1 S0_ found B_ ⟨one,two⟩ jiZ σ_ F_ H_ F H ⟨js,w8_,w9_,rfl,⟨X,SF_⟩,jD,O_found,jR⟩ E jiy Hm
    try dsimp only at Hm
    have SL1:=SF_;replace SF_:=Same.trans S0_ SF_;have xA:=Ne.symm jR;replace X:=Ext.trans X E;replace jD:=jD.mono E;replace O_found:=O_found.mono E;replace SL1:=E.xd SL1;refine jbz jiy X.sub fun qj jiz jC jiA=>?_;obtain rfl:qj=.int one:=jC;obtain rfl:jiz=.int two:=jiA;refine(Q0 (K:=K) (fun found σ' H'=>∃ F':Hp,∃ (js:Addr),σ'=[some (.int n_),some xN,some (.ref kM),some (.int k_),some (.ref js),some (.int one),some (.int two)]/\(Ext Fe H0 F' H'/\Same F F')/\Own K H0 F' H' (cL cB) under_here kM/\Own K H0 F' H' cB found js/\kM≠js) (qN (jl y0 (jV (i:=6) rfl) (jV (i:=3) rfl) rfl)) X Hm ?_ ?_ ?_)
    ·intro B_ F H Hm E X;replace jD:=jD.mono E;replace O_found:=O_found.mono E;have SJ2:=E.f;refine(Vo (K:=K) (k':=4) rfl O_found (GB _) (jV (i:=5) rfl) X Hm ?_);intro found F H Hm Cg X O_found;replace jD:=Own.chg jD Cg jR;replace SJ2:=Same.trans SJ2 Cg.f;refine(jbt (K:=K) (qh (qO (jV (i:=0) rfl) rfl) [some (.ref kM),some (.int k_),some (.ref js),some (.int one)] rfl (fun b12 j_ _ _ E11=>yS) (fun b12 j_ _ _ E11=>(jbR (jl yM (kl (jh (p:=pB cB) (i:=3) rfl (Own.mono O_found (E11)).b)) (jV (i:=0) rfl) rfl) (jac (jl Qr (jV (i:=0) rfl) (jV (i:=2) rfl) rfl) (kr yM (kl (kW (jl yM (kl (jh (p:=pB (cL cB)) (i:=1) rfl (Own.mono jD (E11)).b)) (jV (i:=4) rfl) rfl))) (jV (i:=0) rfl) rfl) rfl) rfl)) rfl) X Hm ?_);intro found js F H Hm E X Hn O_found;have jR:=Own.ne jD Hn;have xA:=Ne.symm jR;replace jD:=jD.mono E;replace SJ2:=E.xd SJ2;cases Hm;exact⟨F,_,rfl,⟨X,SJ2⟩,jD,O_found,jR⟩
    ·intro B_ F H Hm E X;replace jD:=jD.mono E;replace O_found:=O_found.mono E;have SJ2:=E.f;refine Gb ?_;cases Hm;exact⟨F,_,rfl,⟨X,SJ2⟩,jD,O_found,jR⟩
    ·rintro found σ_ H Hm ⟨F,js,rfl,⟨X,SF_⟩,jD,O_found,jR⟩
     try dsimp only at Hm
     replace SL1:=Same.trans SL1 SF_;have xA:=Ne.symm jR;cases Hm;exact⟨F,_,_,_,rfl,⟨X,SL1⟩,jD,O_found,jR⟩
   ·rintro F1 S0_ found σ_ F H Hm ⟨js,w8_,w9_,rfl,⟨X,SF_⟩,jD,O_found,jR⟩
    try dsimp only at Hm
    replace SF_:=Same.trans S0_ SF_;replace SL0:=Same.trans SL0 SF_;have xA:=Ne.symm jR;obtain⟨F,X,Cg,jp⟩:=Own.freeze O_found X;clear O_found;replace jD:=Own.chg jD Cg jR;replace SL0:=Same.trans SL0 Cg.f;refine(zf (K:=K) (k':=2) rfl jD (jh (p:=pF (cL cB)) (i:=4) rfl jp) X Hm ?_);intro under_here F H Hm Cg X jD;replace SL0:=Same.trans SL0 Cg.f;cases Hm;exact⟨F,_,_,_,_,_,rfl,⟨X,SL0⟩,jD⟩
  ·rintro F1 S0_ under_here σ_ F H Hm ⟨kM,w1_,w2_,w3_,w4_,rfl,⟨X,SF_⟩,jD⟩
   try dsimp only at Hm
   exact ze (K:=K) (i:=2) rfl jD X Hm Kk
theorem sc__law_has:FnScope ["_law_bits_here","_law_k"] ["_law_bits_here","_law_k"] (jn (top 46)):=⟨rfl,rfl,rfl,by decide +kernel,rfl,by decide +kernel,by decide +kernel⟩
theorem YS (B:Bi mg) (Fn:Fun K "_law_has" "_law_has" (top 46) f fd):FnOk P w K mg base CX0 1 f fd ["_law_bits_here","_law_k"] (sp2 K (pF cI) (pF cI) (rF cB) Jx):=by
 refine Fn.ok sc__law_has (fun vs H Q E h=>?_) (fun cdv A outer s H0 vs Q E_ hr h=>?_)
 ·obtain⟨_,_,_,_,_,_,rfl,_⟩:=h;rfl
 ·obtain⟨bits_here,k_,zm,V_k_,Fe,R,rfl,S_,zo,P_k_,Hm,Kk⟩:=h;have nd:=sc__law_has.nd;have hu:=kG hr;refine⟨_,(jo (j1 (zc yW (ke xX (ke yZ (pv 0) (qS kS (qC (jc jy (jc jy (jc jy (jc jy (jc jy (jc jy (jc jy (jc jy (jc jy ji)))))))))) (pv 1) (fun _ _=>rfl))) jy) jy (kD _)))),?_⟩
  try dsimp only[kH]
  have X:Ext Fe H0 Fe H0:=Ext.refl S_;unfold Jx at Hm;obtain rfl:zm=.int bits_here:=zo;obtain rfl:V_k_=.int k_:=P_k_;exact kf (K:=K) (kr y0 (JO (by decide) (kr jfl (jV (i:=0) rfl) (jl yM (kl (xj (qE (jJ (jz _) (jJ (jz _) (jJ (jz _) (jJ (jz _) (jJ (jz _) (jJ (jz _) (jJ (jz _) (jJ (jz _) (jJ (jz _) (qr (c:=cI)) rfl) rfl) rfl) rfl) rfl) rfl) rfl) rfl) rfl) (by decide)))) (jV (i:=1) rfl) rfl) rfl) (jz _) rfl) (jz _) rfl) X Hm Kk
theorem sc__law_bits:FnScope ["_law_things"] ["_law_things"] (jn (top 47)):=⟨rfl,rfl,rfl,by decide +kernel,rfl,by decide +kernel,by decide +kernel⟩
theorem W9 (B:Bi mg) (Fn:Fun K "_law_bits" "_law_bits" (top 47) f fd):FnOk P w K mg base CX0 1 f fd ["_law_things"] (sp1 K (pB cI) (rF cI) zI):=by
 refine Fn.ok sc__law_bits (fun vs H Q E h=>?_) (fun cdv A outer s H0 vs Q E_ hr h=>?_)
 ·obtain⟨_,_,_,_,rfl,_⟩:=h;rfl
 ·obtain⟨zJ,Jh,Fe,R,rfl,S_,zK,Hm,Kk⟩:=h;have nd:=sc__law_bits.nd;have hu:=kG hr;refine⟨_,(jo (j1 (jP (jdn rfl) rfl B.sum_ (by kernel_rfl) (jc (qk (own:=["_law_k"]) (ix:=[]) (qY rfl) rfl (kN (pv 0)) (fun _=>(jN (i:=0) (show List.Nodup (["_law_k"]:List Str) by decide +kernel) rfl (Or.inl rfl))) (fun _=>xZ) (fun _=>(qS kS (qC (jc jy (jc jy (jc jy (jc jy (jc jy (jc jy (jc jy (jc jy (jc jy ji)))))))))) (pv 0) (fun _ _=>rfl)))) ji)))),?_⟩
  try dsimp only[kH]
  have X:Ext Fe H0 Fe H0:=Ext.refl S_;unfold zI at Hm;have qJ:Bor K H0 Fe cI zJ Jh:=zK;clear zK;exact kf (K:=K) (xy jh9 (kl (xj (yH (yN (kl (jh (p:=pB cI) (i:=0) rfl (Bor.b qJ X)))) [] rfl (fun b2 k_ _ _ E1=>yS) (fun b2 k_ _ _ E1=>(jl yM (kl (xj (qE (jJ (jz _) (jJ (jz _) (jJ (jz _) (jJ (jz _) (jJ (jz _) (jJ (jz _) (jJ (jz _) (jJ (jz _) (jJ (jz _) (qr (c:=cI)) rfl) rfl) rfl) rfl) rfl) rfl) rfl) rfl) rfl) (by decide)))) (jV (i:=0) rfl) rfl)) rfl))) rfl) X Hm Kk
theorem sc__law_downs:FnScope ["_law_under_here","_law_found","_law_k","_law_more","_law_bits_here"] ["_law_under_here"] (jn (top 49)):=⟨rfl,rfl,rfl,by decide +kernel,rfl,by decide +kernel,by decide +kernel⟩
theorem VV (B:Bi mg) (Fn:Fun K "_law_downs" "_law_downs" (top 49) f fd) (yw:Def P w K mg base "_law_has" 1 ["_law_bits_here","_law_k"] (sp2 K (pF cI) (pF cI) (rF cB) Jx)) (yx:Def P w K mg base "_law_bits" 1 ["_law_things"] (sp1 K (pB cI) (rF cI) zI)):FnOk P w K mg base CX0 2 f fd ["_law_under_here"] (sp1 K (pB (cL cB)) (rO cI) GN):=by
 refine Fn.ok sc__law_downs (fun vs H Q E h=>?_) (fun cdv A outer s H0 vs Q E_ hr h=>?_)
 ·obtain⟨_,_,_,_,rfl,_⟩:=h;rfl
 ·obtain⟨under_here,ju,Fe,R,rfl,S_,je,Hm,Kk⟩:=h;have nd:=sc__law_downs.nd;have hu:=kG hr;refine⟨_,(jg (jM (i:=1) nd rfl (Or.inl rfl) (qC (jc jy ji)))
   (jg (kP PassesOwn.never rfl (kh rfl B.range_ (jc (jP jQ rfl B.len_ (by kernel_rfl) (jc (pv 0) ji)) ji)) (jN (i:=2) nd rfl (Or.inr rfl)) (jg (jM (i:=3) nd rfl (Or.inl rfl) (qC ji))
   (jg (kP PassesOwn.never rfl (kN (pv 1)) (jN (i:=4) nd rfl (Or.inr rfl)) (jo (Gy (qB (qW (jP (zC rfl) rfl B.all_ (by kernel_rfl) (jc (qk (own:=["_law_j"]) (ix:=[0,2,4]) (qY rfl) rfl (kh rfl B.range_ (jc (pv 2) ji)) (fun _=>(jN (i:=0) (show List.Nodup (["_law_j","_law_under_here","_law_k","_law_bits_here"]:List Str) by decide +kernel) rfl (Or.inl rfl))) (fun _=>zS (qW (qS kS (qS kS (pv 1) (pv 2) (fun _ _=>rfl)) (pv 0) (fun _ _=>rfl)))) (fun _=>(jU yw (hr.mono (by decide)) rfl (jc (pv 3) (jc (pv 0) ji))))) ji))) (jo (kZ (zR Xx Xz Xy kJ (pv 3) (jc (ke xD (pv 4) (jU yx (hr.mono (by decide)) rfl (jc (qC (jc (pv 2) ji)) ji))) ji)))) kg))))
   (jo (jM (i:=1) nd rfl (Or.inl rfl) (ke Y9 (pv 1) (pv 3)))))))
   (jo (j1 (jP WV rfl B.sorted_ (by kernel_rfl) (jc (pv 1) ji)))))),?_⟩
  try dsimp only[kH]
  have X:Ext Fe H0 Fe H0:=Ext.refl S_;unfold GN at Hm;have jb:Bor K H0 Fe (cL cB) under_here ju:=je;clear je;refine(x6 (K:=K) (c:=(cL cI)) (qZ (qE (jJ (jz _) (qr (c:=cI)) rfl) (by decide))) X Hm ?_);intro found ql F H Hm E X jp;replace jb:=E.xb jb;refine Ji (K:=K) (c:=cI) ?_ X Hm (fun F1 found σ' F' H'=>∃ (ql:V) (w1_:Option V) (w2_:Option V) (w3_:Option V),σ'=[some ju,some ql,w1_,w2_,w3_]/\(Ext Fe H0 F' H'/\Same F1 F')/\(cL cI).rep K F' found ql) ?_ ?_ ?_ ?_
  ·exact(kA (jL xY (kl (jh (p:=pB (cL cB)) (i:=0) rfl (Bor.b jb X))) rfl) rfl)
  ·intro F H E X;replace jp:=E.xc jp;exact⟨_,_,_,_,rfl,⟨X,(Same.refl _)⟩,jp⟩
  ·rintro F1 found σ_ F_ H_ ⟨ql,w1_,w2_,w3_,rfl,⟨X_,SF_⟩,jp⟩;exact⟨X_,SF_⟩
  ·rintro F1 S0_ found B_ k_ V_k_ σ_ F_ H_ F H ⟨ql,w1_,w2_,w3_,rfl,⟨X,SF_⟩,jp⟩ E P_k_ Hm
   try dsimp only at Hm
   have SL0:=SF_;replace SF_:=Same.trans S0_ SF_;replace jb:=Bor.mono jb SF_;replace X:=Ext.trans X E;replace jb:=E.xb jb;replace jp:=E.xc jp;replace SL0:=E.xd SL0;obtain rfl:V_k_=.int k_:=P_k_;refine qb ?_;refine(x5 (K:=K) (qE (qr (c:=cI)) (by decide)) X Hm ?_);intro more Jp F H Hm E X Hn O_more;replace jb:=E.xb jb;replace jp:=E.xc jp;replace SL0:=E.xd SL0;refine yt (K:=K) (c:=cI) ?_ X Hm (fun F1 more σ' F' H'=>∃ (Jp:Addr) (w4_:Option V),σ'=[some ju,some ql,some (.int k_),some (.ref Jp),w4_]/\(Ext Fe H0 F' H'/\Same F1 F')/\Own K H0 F' H' cI more Jp) ?_ ?_ ?_ ?_
   ·exact(Q1 (jh (p:=pF (cL cI)) (i:=1) rfl jp))
   ·intro F H E X;replace O_more:=O_more.mono E;exact⟨_,_,rfl,⟨X,(Same.refl _)⟩,O_more⟩
   ·rintro F1 more σ_ F_ H_ ⟨Jp,w4_,rfl,⟨X_,SF_⟩,O_more⟩;exact⟨X_,SF_⟩
   ·rintro F1 S0_ more B_ bits_here zm σ_ F_ H_ F H ⟨Jp,w4_,rfl,⟨X,SF_⟩,O_more⟩ E zo Hm
    try dsimp only at Hm
    have SL1:=SF_;replace SF_:=Same.trans S0_ SF_;replace jb:=Bor.mono jb SF_;replace X:=Ext.trans X E;replace jb:=E.xb jb;replace O_more:=O_more.mono E;replace SL1:=E.xd SL1;obtain rfl:zm=.int bits_here:=zo;refine qb ?_;refine(Qs (K:=K) (fun more σ' H'=>∃ F':Hp,∃ (Jp:Addr),σ'=[some ju,some ql,some (.int k_),some (.ref Jp),some (.int bits_here)]/\(Ext Fe H0 F' H'/\Same F F')/\Own K H0 F' H' cI more Jp) (qR (xy WK (kl (xj (qh (qO (jV (i:=2) rfl) rfl) [some ju,some (.int k_),some (.int bits_here)] rfl (fun b6 j_ _ _ E5=>(qR (kr yM (kl (kW (jl yM (kl (jh (p:=pB (cL cB)) (i:=1) rfl (Bor.b (Bor.mono jb (E5).f) (Ext.trans X (E5))))) (jV (i:=2) rfl) rfl))) (jV (i:=0) rfl) rfl))) (fun b6 j_ _ _ E5=>(jI (jV (i:=3) rfl) (jV (i:=0) rfl) rfl)) rfl))) rfl)) X Hm ?_ ?_ ?_)
    ·intro B_ F H Hm E X;replace O_more:=O_more.mono E;have SJ2:=E.f;refine(z_ (K:=K) (i:=3) rfl O_more (kr kI (jV (i:=4) rfl) (kK (xj (qE (jJ (jV (i:=2) rfl) (qr (c:=cI)) rfl) (by decide))) rfl) rfl) X Hm ?_);intro more F H Hm Cg X O_more;replace SJ2:=Same.trans SJ2 Cg.f;cases Hm;exact⟨F,_,rfl,⟨X,SJ2⟩,O_more⟩
    ·intro B_ F H Hm E X;replace O_more:=O_more.mono E;have SJ2:=E.f;refine Gb ?_;cases Hm;exact⟨F,_,rfl,⟨X,SJ2⟩,O_more⟩
    ·rintro more σ_ H Hm ⟨F,Jp,rfl,⟨X,SF_⟩,O_more⟩
     try dsimp only at Hm
     replace SL1:=Same.trans SL1 SF_;cases Hm;exact⟨F,_,_,rfl,⟨X,SL1⟩,O_more⟩
   ·rintro F1 S0_ more σ_ F H Hm ⟨Jp,w4_,rfl,⟨X,SF_⟩,O_more⟩
    try dsimp only at Hm
    replace SF_:=Same.trans S0_ SF_;replace jp:=Cd.mono _ SF_ jp;replace SL0:=Same.trans SL0 SF_;refine(yj (K:=K) (c:=(cL cI)) (qZ (jl jdq (kW (jh (p:=pF (cL cI)) (i:=1) rfl jp)) (jh (p:=pB cI) (i:=3) rfl O_more.b) rfl)) X Hm ?_);intro found ql F H Hm E X jp;replace SL0:=E.xd SL0;cases Hm;exact⟨F,_,_,_,_,rfl,⟨X,SL0⟩,jp⟩
  ·rintro F1 S0_ found σ_ F H Hm ⟨ql,w1_,w2_,w3_,rfl,⟨X,SF_⟩,jp⟩
   try dsimp only at Hm
   exact kf (K:=K) (jL jci (kl (kW (jh (p:=pF (cL cI)) (i:=1) rfl jp))) rfl) X Hm Kk
theorem sc__law_great_turn:FnScope ["_law_under_here","_law_bits_here","_law_n","_law_made","_law_k","_law_lows"] ["_law_under_here","_law_bits_here"] (jn (top 50)):=⟨rfl,rfl,rfl,by decide +kernel,rfl,by decide +kernel,by decide +kernel⟩
theorem J2 (B:Bi mg) (Fn:Fun K "_law_great_turn" "_law_great_turn" (top 50) f fd) (yw:Def P w K mg base "_law_has" 1 ["_law_bits_here","_law_k"] (sp2 K (pF cI) (pF cI) (rF cB) Jx)) (yx:Def P w K mg base "_law_bits" 1 ["_law_things"] (sp1 K (pB cI) (rF cI) zI)):FnOk P w K mg base CX0 2 f fd ["_law_under_here","_law_bits_here"] (sp2 K (pB (cL cB)) (pF cI) (rF cI) q_):=by
 refine Fn.ok sc__law_great_turn (fun vs H Q E h=>?_) (fun cdv A outer s H0 vs Q E_ hr h=>?_)
 ·obtain⟨_,_,_,_,_,_,rfl,_⟩:=h;rfl
 ·obtain⟨under_here,bits_here,ju,zm,Fe,R,rfl,S_,je,zo,Hm,Kk⟩:=h;have nd:=sc__law_great_turn.nd;have hu:=kG hr;refine⟨_,(jg (jM (i:=2) nd rfl (Or.inl rfl) (jP jQ rfl B.len_ (by kernel_rfl) (jc (pv 0) ji)))
   (jg (jM (i:=3) nd rfl (Or.inr rfl) (qk (own:=["_law_k"]) (ix:=[]) (qY rfl) rfl (kh rfl B.range_ (jc (pv 2) ji)) (fun _=>(jN (i:=0) (show List.Nodup (["_law_k"]:List Str) by decide +kernel) rfl (Or.inl rfl))) (fun _=>xZ) (fun _=>GA)))
   (jg (kP PassesOwn.never rfl (kh rfl B.range_ (jc (pv 2) ji)) (jN (i:=4) nd rfl (Or.inr rfl)) (jg (UL (i:=5) (own:=["_law_j"]) (ix:=[0,4]) (qY rfl) rfl (kh rfl B.range_ (jc (pv 2) ji)) (fun _=>(jN (i:=0) (show List.Nodup (["_law_j","_law_under_here","_law_k"]:List Str) by decide +kernel) rfl (Or.inl rfl))) (fun _=>zS (qW (qS kS (qS kS (pv 1) (pv 2) (fun _ _=>rfl)) (pv 0) (fun _ _=>rfl)))) (fun _=>(pv 0)) nd rfl rfl)
   (jo (Gy (qB (PW.pt (jeh (yq (qW (jU yw (hr.mono (by decide)) rfl (jc (pv 1) (jc (pv 4) ji))))) (jaN (qW (jP (zC rfl) rfl B.all_ (by kernel_rfl) (jc (qk (own:=["_law_j"]) (ix:=[1]) (qY rfl) rfl (kN (pv 5)) (fun _=>(jN (i:=0) (show List.Nodup (["_law_j","_law_bits_here"]:List Str) by decide +kernel) rfl (Or.inl rfl))) (fun _=>xZ) (fun _=>(jU yw (hr.mono (by decide)) rfl (jc (pv 1) (jc (pv 0) ji))))) ji)))))) (jo (jM (i:=3) nd rfl (Or.inr rfl) (qk (own:=["_law_j"]) (ix:=[0,3,4]) (qY rfl) rfl (kh rfl B.range_ (jc (pv 2) ji)) (fun _=>(jN (i:=0) (show List.Nodup (["_law_j","_law_under_here","_law_made","_law_k"]:List Str) by decide +kernel) rfl (Or.inl rfl))) (fun _=>xZ) (fun _=>(je2 (qS kS (pv 2) (pv 0) (fun _ _=>rfl)) (je2 (zc yW (pv 0) (pv 3) (kD _)) (UI (qS kS (qS kS (pv 1) (pv 3) (fun _ _=>rfl)) (pv 0) (fun _ _=>rfl))))))))) kg)))))
   (jo (j1 (jU yx (hr.mono (by decide)) rfl (jc (qk (own:=["_law_k"]) (ix:=[3]) (qY rfl) rfl (kh rfl B.range_ (jc (pv 2) ji)) (fun _=>(jN (i:=0) (show List.Nodup (["_law_k","_law_made"]:List Str) by decide +kernel) rfl (Or.inl rfl))) (fun _=>zS (qW (qS kS (pv 1) (pv 0) (fun _ _=>rfl)))) (fun _=>(pv 0))) ji))))))),?_⟩
  try dsimp only[kH]
  have X:Ext Fe H0 Fe H0:=Ext.refl S_;unfold q_ at Hm;have jb:Bor K H0 Fe (cL cB) under_here ju:=je;clear je;obtain rfl:zm=.int bits_here:=zo;refine(q9 (K:=K) (jL xY (kl (jh (p:=pB (cL cB)) (i:=0) rfl (Bor.b jb X))) rfl) X Hm ?_);intro n_ F H Hm E X;replace jb:=E.xb jb;refine(x6 (K:=K) (c:=(cL cB)) (qZ (qh (qO (jV (i:=2) rfl) rfl) [] rfl (fun b2 k_ _ _ E1=>yS) (fun b2 k_ _ _ E1=>(GB _)) rfl)) X Hm ?_);intro made Gf F H Hm E X x9;replace jb:=E.xb jb;refine Ji (K:=K) (c:=cI) ?_ X Hm (fun F1 made σ' F' H'=>∃ (Gf:V) (w4_:Option V) (w5_:Option V),σ'=[some ju,some (.int bits_here),some (.int n_),some Gf,w4_,w5_]/\(Ext Fe H0 F' H'/\Same F1 F')/\(cL cB).rep K F' made Gf) ?_ ?_ ?_ ?_
  ·exact(kA (jV (i:=2) rfl) rfl)
  ·intro F H E X;replace x9:=E.xc x9;exact⟨_,_,_,rfl,⟨X,(Same.refl _)⟩,x9⟩
  ·rintro F1 made σ_ F_ H_ ⟨Gf,w4_,w5_,rfl,⟨X_,SF_⟩,x9⟩;exact⟨X_,SF_⟩
  ·rintro F1 S0_ made B_ k_ V_k_ σ_ F_ H_ F H ⟨Gf,w4_,w5_,rfl,⟨X,SF_⟩,x9⟩ E P_k_ Hm
   try dsimp only at Hm
   have SL0:=SF_;replace SF_:=Same.trans S0_ SF_;replace jb:=Bor.mono jb SF_;replace X:=Ext.trans X E;replace jb:=E.xb jb;replace x9:=E.xc x9;replace SL0:=E.xd SL0;obtain rfl:V_k_=.int k_:=P_k_;refine qb ?_;refine(x6 (K:=K) (c:=(cL cI)) (qZ (qh (qO (jV (i:=2) rfl) rfl) [some ju,some (.int k_)] rfl (fun b7 j_ _ _ E6=>(qR (kr yM (kl (kW (jl yM (kl (jh (p:=pB (cL cB)) (i:=1) rfl (Bor.b (Bor.mono jb (E6).f) (Ext.trans X (E6))))) (jV (i:=2) rfl) rfl))) (jV (i:=0) rfl) rfl))) (fun b7 j_ _ _ E6=>(jV (i:=0) rfl)) rfl)) X Hm ?_);intro lows jcW F H Hm E X yk;replace jb:=E.xb jb;replace x9:=E.xc x9;replace SL0:=E.xd SL0;refine(Qs (K:=K) (fun made σ' H'=>∃ F':Hp,∃ (Gf:V),σ'=[some ju,some (.int bits_here),some (.int n_),some Gf,some (.int k_),some jcW]/\(Ext Fe H0 F' H'/\Same F F')/\(cL cB).rep K F' made Gf) (jdK (y3 (qR (jI (jV (i:=1) rfl) (jV (i:=4) rfl) rfl)) rfl) (qR (xy WK (kl (xj (yH (yN (kl (kW (jh (p:=pF (cL cI)) (i:=5) rfl yk)))) [some (.int bits_here)] rfl (fun b13 j_ _ _ E12=>yS) (fun b13 j_ _ _ E12=>(jI (jV (i:=1) rfl) (jV (i:=0) rfl) rfl)) rfl))) rfl)) rfl) X Hm ?_ ?_ ?_)
   ·intro B_ F H Hm E X;replace jb:=E.xb jb;replace x9:=E.xc x9;have SJ1:=E.f;refine(yj (K:=K) (c:=(cL cB)) (qZ (qh (qO (jV (i:=2) rfl) rfl) [some ju,some Gf,some (.int k_)] rfl (fun b16 j_ _ _ E15=>yS) (fun b16 j_ _ _ E15=>(jbR (jl yM (kl (kW (jh (p:=pF (cL cB)) (i:=2) rfl (Cd.mono _ (E15).f x9)))) (jV (i:=0) rfl) rfl) (jbV (jl y0 (jV (i:=0) rfl) (jV (i:=3) rfl) rfl) (kr yM (kl (kW (jl yM (kl (jh (p:=pB (cL cB)) (i:=1) rfl (Bor.b (Bor.mono jb (E15).f) (Ext.trans X (E15))))) (jV (i:=3) rfl) rfl))) (jV (i:=0) rfl) rfl) rfl) rfl)) rfl)) X Hm ?_);intro made Gf F H Hm E X x9;replace SJ1:=E.xd SJ1;cases Hm;exact⟨F,_,rfl,⟨X,SJ1⟩,x9⟩
   ·intro B_ F H Hm E X;replace x9:=E.xc x9;have SJ1:=E.f;refine Gb ?_;cases Hm;exact⟨F,_,rfl,⟨X,SJ1⟩,x9⟩
   ·rintro made σ_ H Hm ⟨F,Gf,rfl,⟨X,SF_⟩,x9⟩
    try dsimp only at Hm
    replace SL0:=Same.trans SL0 SF_;cases Hm;exact⟨F,_,_,_,rfl,⟨X,SL0⟩,x9⟩
  ·rintro F1 S0_ made σ_ F H Hm ⟨Gf,w4_,w5_,rfl,⟨X,SF_⟩,x9⟩
   try dsimp only at Hm
   exact kf (K:=K) (US (xj (qh (qO (jV (i:=2) rfl) rfl) [some Gf] rfl (fun b24 k_ _ _ E23=>(qR (jl yM (kl (kW (jh (p:=pF (cL cB)) (i:=1) rfl (Cd.mono _ (E23).f x9)))) (jV (i:=0) rfl) rfl))) (fun b24 k_ _ _ E23=>(jV (i:=0) rfl)) rfl)) rfl) X Hm Kk
theorem sc__law_turned:FnScope ["_law_under_here","_law_one","_law_which","_law_n","_law_k","_law_j"] ["_law_under_here","_law_one","_law_which"] (jn (top 55)):=⟨rfl,rfl,rfl,by decide +kernel,rfl,by decide +kernel,by decide +kernel⟩
theorem UD (B:Bi mg) (Fn:Fun K "_law_turned" "_law_turned" (top 55) f fd) (yy:Def P w K mg base "_law_great_turn" 2 ["_law_under_here","_law_bits_here"] (sp2 K (pB (cL cB)) (pF cI) (rF cI) q_)):FnOk P w K mg base CX0 3 f fd ["_law_under_here","_law_one","_law_which"] (sp3 K (pB (cL cB)) (pF cI) (pF cI) (rF cI) y4):=by
 refine Fn.ok sc__law_turned (fun vs H Q E h=>?_) (fun cdv A outer s H0 vs Q E_ hr h=>?_)
 ·obtain⟨_,_,_,_,_,_,_,_,rfl,_⟩:=h;rfl
 ·obtain⟨under_here,one,which,ju,qj,xl,Fe,R,rfl,S_,je,jC,xm,Hm,Kk⟩:=h;have nd:=sc__law_turned.nd;have hu:=kG hr;refine⟨_,(jg (qB (kq yW (pv 2) jy (kD _)) (jo (j1 (jU yy (hr.mono (by decide)) rfl (jc (pv 0) (jc (pv 1) ji))))) kg) QL),?_⟩
  try dsimp only[kH]
  have X:Ext Fe H0 Fe H0:=Ext.refl S_;unfold y4 at Hm;have jb:Bor K H0 Fe (cL cB) under_here ju:=je;clear je;obtain rfl:qj=.int one:=jC;obtain rfl:xl=.int which:=xm;refine(Ga (K:=K) (qN (jl y0 (jV (i:=2) rfl) (jz _) rfl)) X Hm ?_ ?_)
  ·intro F H Hc Hm E X;replace jb:=E.xb jb;exact kf (K:=K) (jI (jh (p:=pB (cL cB)) (i:=0) rfl (Bor.b jb X)) (jV (i:=1) rfl) rfl) X Hm Kk
  ·intro F H Hc Hm E X;cases Hm
theorem sc__law_round:FnScope ["_law_under_here","_law_one","_law_which","_law_found","_law_here"] ["_law_under_here","_law_one","_law_which"] (jn (top 56)):=⟨rfl,rfl,rfl,by decide +kernel,rfl,by decide +kernel,by decide +kernel⟩
theorem VW (B:Bi mg) (Fn:Fun K "_law_round" "_law_round" (top 56) f fd) (y7:Def P w K mg base "_law_turned" 3 ["_law_under_here","_law_one","_law_which"] (sp3 K (pB (cL cB)) (pF cI) (pF cI) (rF cI) y4)):FnOk P w K mg base CX0 4 f fd ["_law_under_here","_law_one","_law_which"] (sp3 K (pB (cL cB)) (pF cI) (pF cI) (rO cI) yu):=by
 refine Fn.ok sc__law_round (fun vs H Q E h=>?_) (fun cdv A outer s H0 vs Q E_ hr h=>?_)
 ·obtain⟨_,_,_,_,_,_,_,_,rfl,_⟩:=h;rfl
 ·obtain⟨under_here,one,which,ju,qj,xl,Fe,R,rfl,S_,je,jC,xm,Hm,Kk⟩:=h;have nd:=sc__law_round.nd;have hu:=kG hr;refine⟨_,(jg (jM (i:=3) nd rfl (Or.inl rfl) (qC (jc (pv 1) ji)))
   (jg (jM (i:=4) nd rfl (Or.inl rfl) (jU y7 (hr.mono (by decide)) rfl (jc (pv 0) (jc (pv 1) (jc (pv 2) ji)))))
   (jg (Jd PassesOwn.never (kq jgz (pv 4) (pv 1) (kD _)) (jg (kZ (zR Xx Xz Xy kJ (pv 3) (jc (pv 4) ji)))
   (jo (jM (i:=4) nd rfl (Or.inl rfl) (jU y7 (hr.mono (by decide)) rfl (jc (pv 0) (jc (pv 4) (jc (pv 2) ji))))))))
   (jo (j1 (pv 3)))))),?_⟩
  try dsimp only[kH]
  have X:Ext Fe H0 Fe H0:=Ext.refl S_;unfold yu at Hm;have jb:Bor K H0 Fe (cL cB) under_here ju:=je;clear je;obtain rfl:qj=.int one:=jC;obtain rfl:xl=.int which:=xm;refine(x5 (K:=K) (qE (jJ (jV (i:=1) rfl) (qr (c:=cI)) rfl) (by decide)) X Hm ?_);intro found js F H Hm E X Hn O_found;replace jb:=E.xb jb;refine(q9 (K:=K) (kQ (jh (p:=pB (cL cB)) (i:=0) rfl (Bor.b jb X)) (jV (i:=1) rfl) (jV (i:=2) rfl) rfl) X Hm ?_);intro here F H Hm E X;replace jb:=E.xb jb;replace O_found:=O_found.mono E;refine Qc (K:=K) X Hm (fun F1 b σ' F' H'=>match b with | (found,here)=>∃ (js:Addr),σ'=[some ju,some (.int one),some (.int which),some (.ref js),some (.int here)]/\(Ext Fe H0 F' H'/\Same F1 F')/\Own K H0 F' H' cI found js) ?_ ?_ ?_ ?_ ?_
  ·exact⟨_,rfl,⟨X,(Same.refl _)⟩,O_found⟩
  ·rintro F1 ⟨found,here⟩ σ_ F_ H_ ⟨js,rfl,⟨X_,SF_⟩,O_found⟩;exact⟨X_,SF_⟩
  ·rintro⟨found,here⟩ σ_ F H ⟨js,rfl,⟨X,SF_⟩,O_found⟩;exact(qN (jl jgL (jV (i:=4) rfl) (jV (i:=1) rfl) rfl))
  ·rintro⟨found,here⟩ B_ σ_ F_ H_ F H ⟨js,rfl,⟨X,SF_⟩,O_found⟩ E Hm
   try dsimp only at Hm
   have SL0:=SF_;replace jb:=Bor.mono jb SF_;replace X:=Ext.trans X E;replace jb:=E.xb jb;replace O_found:=O_found.mono E;replace SL0:=E.xd SL0;refine(y9 (K:=K) (k':=3) rfl O_found (jV (i:=4) rfl) X Hm ?_);intro found F H Hm Cg X O_found;replace jb:=Bor.mono jb Cg.f;replace SL0:=Same.trans SL0 Cg.f;refine(Gi (K:=K) (kQ (jh (p:=pB (cL cB)) (i:=0) rfl (Bor.b jb X)) (jV (i:=4) rfl) (jV (i:=2) rfl) rfl) X Hm ?_);intro here F H Hm E X;replace O_found:=O_found.mono E;replace SL0:=E.xd SL0;cases Hm;exact⟨F,_,rfl,⟨X,SL0⟩,O_found⟩
  ·rintro⟨found,here⟩ σ_ F_ H_ F H ⟨js,rfl,⟨X,SF_⟩,O_found⟩ E Hm
   try dsimp only at Hm
   replace X:=Ext.trans X E;replace O_found:=O_found.mono E;exact ze (K:=K) (i:=3) rfl O_found X Hm Kk
theorem sc__law_some_downs:FnScope ["_law_under_here","_law_kind","_law_ones","_law_other"] ["_law_under_here","_law_kind"] (jn (top 60)):=⟨rfl,rfl,rfl,by decide +kernel,rfl,by decide +kernel,by decide +kernel⟩
theorem J3 (B:Bi mg) (Fn:Fun K "_law_some_downs" "_law_some_downs" (top 60) f fd) (GT:Def P w K mg base "_law_downs" 2 ["_law_under_here"] (sp1 K (pB (cL cB)) (rO cI) GN)) (xg:Def P w K mg base "_law_round" 4 ["_law_under_here","_law_one","_law_which"] (sp3 K (pB (cL cB)) (pF cI) (pF cI) (rO cI) yu)):FnOk P w K mg base CX0 5 f fd ["_law_under_here","_law_kind"] (sp2 K (pB (cL cB)) (pF cI) (rF (cL cI)) xG):=by
 refine Fn.ok sc__law_some_downs (fun vs H Q E h=>?_) (fun cdv A outer s H0 vs Q E_ hr h=>?_)
 ·obtain⟨_,_,_,_,_,_,rfl,_⟩:=h;rfl
 ·obtain⟨under_here,kind,ju,jhK,Fe,R,rfl,S_,je,jhL,Hm,Kk⟩:=h;have nd:=sc__law_some_downs.nd;have hu:=kG hr;refine⟨_,(jg (jM (i:=2) nd rfl (Or.inl rfl) (jU GT (hr.mono (by decide)) rfl (jc (pv 0) ji)))
   (jg (qB (kq yW (ke xX (pv 1) jy) jy (kD _)) (jo (j1 (jU xg (hr.mono (by decide)) rfl (jc (pv 0) (jc (qS kS (pv 2) (ke xX (ke yZ (pv 1) jy) (jP jQ rfl B.len_ (by kernel_rfl) (jc (pv 2) ji))) (fun _ _=>rfl)) (jc jy ji)))))) kg)
   (jg (qB (kq yW (ke xX (pv 1) jy) jy (kD _)) (jg (jM (i:=3) nd rfl (Or.inr rfl) (jU xg (hr.mono (by decide)) rfl (jc (pv 0) (jc (qS kS (pv 2) (ke xX (ke yZ (pv 1) jy) (jP jQ rfl B.len_ (by kernel_rfl) (jc (pv 2) ji))) (fun _ _=>rfl)) (jc jy ji)))))
   (jo (j1 (ke Y9 (pv 3) (qk (own:=["_law_bits_here"]) (ix:=[3]) (qY rfl) rfl (kN (jU xg (hr.mono (by decide)) rfl (jc (pv 0) (jc (qS kS (pv 2) (ke xX (ke yZ (pv 1) jy) (jP jQ rfl B.len_ (by kernel_rfl) (jc (pv 2) ji))) (fun _ _=>rfl)) (jc jy ji))))) (fun _=>(jN (i:=0) (show List.Nodup (["_law_bits_here","_law_other"]:List Str) by decide +kernel) rfl (Or.inl rfl))) (fun _=>zS (kq (WI hu) (pv 0) (pv 1) (by with_unfolding_all rfl))) (fun _=>(pv 0))))))) kg)
   (jo (j1 (pv 2)))))),?_⟩
  try dsimp only[kH]
  have X:Ext Fe H0 Fe H0:=Ext.refl S_;unfold xG at Hm;have jb:Bor K H0 Fe (cL cB) under_here ju:=je;clear je;obtain rfl:jhK=.int kind:=jhL;refine(x6 (K:=K) (c:=(cL cI)) (qZ (kK (jh (p:=pB (cL cB)) (i:=0) rfl (Bor.b jb X)) rfl)) X Hm ?_);intro ones qA F H Hm E X jF;replace jb:=E.xb jb;refine(Ga (K:=K) (qN (jl y0 (xF (by decide) (jV (i:=1) rfl) (jz _) rfl) (jz _) rfl)) X Hm ?_ ?_)
  ·intro F H Hc Hm E X;replace jb:=E.xb jb;replace jF:=E.xc jF;exact kf (K:=K) (qZ (Jf (jh (p:=pB (cL cB)) (i:=0) rfl (Bor.b jb X)) (kr yM (kl (kW (jh (p:=pF (cL cI)) (i:=2) rfl jF))) (jl QY (zg ⟨by decide,by decide⟩ (jV (i:=1) rfl) (jz _) rfl) (jL xY (kl (kW (jh (p:=pF (cL cI)) (i:=2) rfl jF))) rfl) rfl) rfl) (jz _) rfl)) X Hm Kk
  ·intro F H Hc Hm E X;replace jb:=E.xb jb;replace jF:=E.xc jF;refine Gb ?_;refine(Ga (K:=K) (qN (jl y0 (xF (by decide) (jV (i:=1) rfl) (jz _) rfl) (jz _) rfl)) X Hm ?_ ?_)
   ·intro F H Hc Hm E X;replace jb:=E.xb jb;replace jF:=E.xc jF;refine(x6 (K:=K) (c:=(cL cI)) (qZ (Jf (jh (p:=pB (cL cB)) (i:=0) rfl (Bor.b jb X)) (kr yM (kl (kW (jh (p:=pF (cL cI)) (i:=2) rfl jF))) (jl QY (zg ⟨by decide,by decide⟩ (jV (i:=1) rfl) (jz _) rfl) (jL xY (kl (kW (jh (p:=pF (cL cI)) (i:=2) rfl jF))) rfl) rfl) rfl) (jz _) rfl)) X Hm ?_);intro other Wg F H Hm E X GU;replace jb:=E.xb jb;replace jF:=E.xc jF;exact kf (K:=K) (qZ (kr jdq (kW (jh (p:=pF (cL cI)) (i:=3) rfl GU)) (xj (qh (yN (kl (xj (Jf (jh (p:=pB (cL cB)) (i:=0) rfl (Bor.b jb X)) (kr yM (kl (kW (jh (p:=pF (cL cI)) (i:=2) rfl jF))) (jl QY (zg ⟨by decide,by decide⟩ (jV (i:=1) rfl) (jz _) rfl) (jL xY (kl (kW (jh (p:=pF (cL cI)) (i:=2) rfl jF))) rfl) rfl) rfl) (jz _) rfl)))) [some Wg] rfl (fun b17 bits_here _ _ E16=>(qN (jl (jh7 eqI (by decide)) (yF (jV (i:=0) rfl)) (yF (jh (p:=pF (cL cI)) (i:=1) rfl (Cd.mono _ (E16).f GU))) rfl))) (fun b17 bits_here _ _ E16=>(jV (i:=0) rfl)) rfl)) rfl)) X Hm Kk
   ·intro F H Hc Hm E X;replace jF:=E.xc jF;refine Gb ?_;exact kf (K:=K) (jh (p:=pF (cL cI)) (i:=2) rfl jF) X Hm Kk
theorem sc__law_all_lines:FnScope ["_law_under_here","_law_found","_law_n","_law_turn_here","_law_longer","_law_line","_law_k","_law_lows"] ["_law_under_here"] (jn (top 54)):=⟨rfl,rfl,rfl,by decide +kernel,rfl,by decide +kernel,by decide +kernel⟩
theorem Qi (B:Bi mg) (Fn:Fun K "_law_all_lines" "_law_all_lines" (top 54) f fd):FnOk P w K mg base CX0 1 f fd ["_law_under_here"] (sp1 K (pB (cL cB)) (rF (cL (cT cI))) xH):=by
 refine Fn.ok sc__law_all_lines (fun vs H Q E h=>?_) (fun cdv A outer s H0 vs Q E_ hr h=>?_)
 ·obtain⟨_,_,_,_,rfl,_⟩:=h;rfl
 ·obtain⟨under_here,ju,Fe,R,rfl,S_,je,Hm,Kk⟩:=h;have nd:=sc__law_all_lines.nd;have hu:=kG hr;refine⟨_,(jg (jM (i:=1) nd rfl (Or.inl rfl) (qC (jc (QP ji) ji)))
   (jg (jM (i:=2) nd rfl (Or.inl rfl) (jP jQ rfl B.len_ (by kernel_rfl) (jc (pv 0) ji)))
   (jg (kP PassesOwn.never rfl (kh rfl B.range_ (jc (pv 2) ji)) (jN (i:=3) nd rfl (Or.inl rfl)) (jg (jM (i:=4) nd rfl (Or.inl rfl) (qC ji))
   (jg (kP PassesOwn.never rfl (kN (pv 1)) (jN (i:=5) nd rfl (Or.inr rfl)) (jo (kP PassesOwn.never rfl (kh rfl B.range_ (jc (pv 2) ji)) (jN (i:=6) nd rfl (Or.inr rfl)) (jg (UL (i:=7) (own:=["_law_j"]) (ix:=[0,6]) (qY rfl) rfl (kh rfl B.range_ (jc (pv 2) ji)) (fun _=>(jN (i:=0) (show List.Nodup (["_law_j","_law_under_here","_law_k"]:List Str) by decide +kernel) rfl (Or.inl rfl))) (fun _=>zS (qW (qS kS (qS kS (pv 1) (pv 2) (fun _ _=>rfl)) (pv 0) (fun _ _=>rfl)))) (fun _=>(pv 0)) nd rfl rfl)
   (jo (Gy (qB (PW.pt (jeh (kq (WI hu) (pv 6) (pv 5) (by with_unfolding_all rfl)) (jaN (qW (jP (zC rfl) rfl B.all_ (by kernel_rfl) (jc (qk (own:=["_law_j"]) (ix:=[5]) (qY rfl) rfl (kN (pv 7)) (fun _=>(jN (i:=0) (show List.Nodup (["_law_j","_law_line"]:List Str) by decide +kernel) rfl (Or.inl rfl))) (fun _=>xZ) (fun _=>(zc (Zb hu) (pv 0) (pv 1) (by with_unfolding_all rfl)))) ji)))))) (jo (kZ (zR Xx Xz Xy kJ (pv 4) (jc (ke JQ (pv 5) (QP (jc (pv 6) ji))) ji)))) kg)))))))
   (jo (jM (i:=1) nd rfl (Or.inl rfl) (pv 4))))))
   (jo (j1 (pv 1)))))),?_⟩
  try dsimp only[kH]
  have X:Ext Fe H0 Fe H0:=Ext.refl S_;unfold xH at Hm;have jb:Bor K H0 Fe (cL cB) under_here ju:=je;clear je;refine(x6 (K:=K) (c:=(cL (cT cI))) (qZ (qE (jJ (Yu (qr (c:=cI)) (by decide)) (qr (c:=(cT cI))) rfl) (by decide))) X Hm ?_);intro found ql F H Hm E X jp;replace jb:=E.xb jb;refine(q9 (K:=K) (jL xY (kl (jh (p:=pB (cL cB)) (i:=0) rfl (Bor.b jb X))) rfl) X Hm ?_);intro n_ F H Hm E X;replace jb:=E.xb jb;replace jp:=E.xc jp;refine Ji (K:=K) (c:=cI) ?_ X Hm (fun F1 found σ' F' H'=>∃ (ql:V) (w1_:Option V) (w2_:Option V) (w3_:Option V) (w4_:Option V) (w5_:Option V),σ'=[some ju,some ql,some (.int n_),w1_,w2_,w3_,w4_,w5_]/\(Ext Fe H0 F' H'/\Same F1 F')/\(cL (cT cI)).rep K F' found ql) ?_ ?_ ?_ ?_
  ·exact(kA (jV (i:=2) rfl) rfl)
  ·intro F H E X;replace jp:=E.xc jp;exact⟨_,_,_,_,_,_,rfl,⟨X,(Same.refl _)⟩,jp⟩
  ·rintro F1 found σ_ F_ H_ ⟨ql,w1_,w2_,w3_,w4_,w5_,rfl,⟨X_,SF_⟩,jp⟩;exact⟨X_,SF_⟩
  ·rintro F1 S0_ found B_ turn_here zq σ_ F_ H_ F H ⟨ql,w1_,w2_,w3_,w4_,w5_,rfl,⟨X,SF_⟩,jp⟩ E zt Hm
   try dsimp only at Hm
   have SL0:=SF_;replace SF_:=Same.trans S0_ SF_;replace jb:=Bor.mono jb SF_;replace X:=Ext.trans X E;replace jb:=E.xb jb;replace jp:=E.xc jp;replace SL0:=E.xd SL0;obtain rfl:zq=.int turn_here:=zt;refine qb ?_;refine(x5 (K:=K) (qE (qr (c:=(cT cI))) (by decide)) X Hm ?_);intro longer qT F H Hm E X Hn kt;replace jb:=E.xb jb;replace jp:=E.xc jp;replace SL0:=E.xd SL0;refine yt (K:=K) (c:=(cT cI)) ?_ X Hm (fun F1 longer σ' F' H'=>∃ (qT:Addr) (w6_:Option V) (w7_:Option V) (w8_:Option V),σ'=[some ju,some ql,some (.int n_),some (.int turn_here),some (.ref qT),w6_,w7_,w8_]/\(Ext Fe H0 F' H'/\Same F1 F')/\Own K H0 F' H' (cT cI) longer qT) ?_ ?_ ?_ ?_
   ·exact(Q1 (jh (p:=pF (cL (cT cI))) (i:=1) rfl jp))
   ·intro F H E X;replace kt:=kt.mono E;exact⟨_,_,_,_,rfl,⟨X,(Same.refl _)⟩,kt⟩
   ·rintro F1 longer σ_ F_ H_ ⟨qT,w6_,w7_,w8_,rfl,⟨X_,SF_⟩,kt⟩;exact⟨X_,SF_⟩
   ·rintro F1 S0_ longer B_ line yl σ_ F_ H_ F H ⟨qT,w6_,w7_,w8_,rfl,⟨X,SF_⟩,kt⟩ E jS Hm
    try dsimp only at Hm
    have SL1:=SF_;replace SF_:=Same.trans S0_ SF_;replace jb:=Bor.mono jb SF_;replace X:=Ext.trans X E;replace jb:=E.xb jb;replace kt:=kt.mono E;replace SL1:=E.xd SL1;refine qb ?_;refine UQ (K:=K) (c:=cI) ?_ X Hm (fun F1 longer σ' F' H'=>∃ (qT:Addr) (w9_:Option V) (w10_:Option V),σ'=[some ju,some ql,some (.int n_),some (.int turn_here),some (.ref qT),some yl,w9_,w10_]/\(Ext Fe H0 F' H'/\Same F1 F')/\Own K H0 F' H' (cT cI) longer qT) ?_ ?_ ?_ ?_
    ·exact(kA (jV (i:=2) rfl) rfl)
    ·intro F H E X;replace kt:=kt.mono E;exact⟨_,_,_,rfl,⟨X,(Same.refl _)⟩,kt⟩
    ·rintro F1 longer σ_ F_ H_ ⟨qT,w9_,w10_,rfl,⟨X_,SF_⟩,kt⟩;exact⟨X_,SF_⟩
    ·rintro F1 S0_ longer B_ k_ V_k_ σ_ F_ H_ F H ⟨qT,w9_,w10_,rfl,⟨X,SF_⟩,kt⟩ E P_k_ Hm
     try dsimp only at Hm
     have SL2:=SF_;replace SF_:=Same.trans S0_ SF_;replace jb:=Bor.mono jb SF_;replace jS:=Cd.mono _ SF_ jS;replace X:=Ext.trans X E;replace jb:=E.xb jb;replace kt:=kt.mono E;replace jS:=E.xc jS;replace SL2:=E.xd SL2;obtain rfl:V_k_=.int k_:=P_k_;refine qb ?_;refine(x6 (K:=K) (c:=(cL cI)) (qZ (qh (qO (jV (i:=2) rfl) rfl) [some ju,some (.int k_)] rfl (fun b12 j_ _ _ E11=>(qR (kr yM (kl (kW (jl yM (kl (jh (p:=pB (cL cB)) (i:=1) rfl (Bor.b (Bor.mono jb (E11).f) (Ext.trans X (E11))))) (jV (i:=2) rfl) rfl))) (jV (i:=0) rfl) rfl))) (fun b12 j_ _ _ E11=>(jV (i:=0) rfl)) rfl)) X Hm ?_);intro lows jcW F H Hm E X yk;replace kt:=kt.mono E;replace jS:=E.xc jS;replace SL2:=E.xd SL2;refine(Qs (K:=K) (fun longer σ' H'=>∃ F':Hp,∃ (qT:Addr),σ'=[some ju,some ql,some (.int n_),some (.int turn_here),some (.ref qT),some yl,some (.int k_),some jcW]/\(Ext Fe H0 F' H'/\Same F F')/\Own K H0 F' H' (cT cI) longer qT) (jad (qN (jl (jh8 eqI (by decide)) (yF (jV (i:=6) rfl)) (yF (jh (p:=pF (cT cI)) (i:=5) rfl jS)) rfl)) (qR (xy WK (kl (xj (yH (yN (kl (kW (jh (p:=pF (cL cI)) (i:=7) rfl yk)))) [some yl] rfl (fun b17 j_ _ _ E16=>yS) (fun b17 j_ _ _ E16=>(jl (jgN eqI (by decide)) (yF (jV (i:=0) rfl)) (yF (jh (p:=pF (cT cI)) (i:=1) rfl (Cd.mono _ (E16).f jS))) rfl)) rfl))) rfl)) rfl) X Hm ?_ ?_ ?_)
     ·intro B_ F H Hm E X;replace kt:=kt.mono E;replace jS:=E.xc jS;have SJ3:=E.f;refine(z_ (K:=K) (i:=4) rfl kt (jl WQ (jh (p:=pF (cT cI)) (i:=5) rfl jS) (Yu (jJ (jV (i:=6) rfl) (qr (c:=cI)) rfl) (by decide)) rfl) X Hm ?_);intro longer F H Hm Cg X kt;replace SJ3:=Same.trans SJ3 Cg.f;cases Hm;exact⟨F,_,rfl,⟨X,SJ3⟩,kt⟩
     ·intro B_ F H Hm E X;replace kt:=kt.mono E;have SJ3:=E.f;refine Gb ?_;cases Hm;exact⟨F,_,rfl,⟨X,SJ3⟩,kt⟩
     ·rintro longer σ_ H Hm ⟨F,qT,rfl,⟨X,SF_⟩,kt⟩
      try dsimp only at Hm
      replace SL2:=Same.trans SL2 SF_;cases Hm;exact⟨F,_,_,_,rfl,⟨X,SL2⟩,kt⟩
    ·rintro F1 S0_ longer σ_ F H Hm ⟨qT,w9_,w10_,rfl,⟨X,SF_⟩,kt⟩
     try dsimp only at Hm
     replace SF_:=Same.trans S0_ SF_;replace SL1:=Same.trans SL1 SF_;cases Hm;exact⟨F,_,_,_,_,rfl,⟨X,SL1⟩,kt⟩
   ·rintro F1 S0_ longer σ_ F H Hm ⟨qT,w6_,w7_,w8_,rfl,⟨X,SF_⟩,kt⟩
    try dsimp only at Hm
    replace SF_:=Same.trans S0_ SF_;replace jp:=Cd.mono _ SF_ jp;replace SL0:=Same.trans SL0 SF_;obtain⟨F,X,Cg,Wh⟩:=Own.freeze kt X;clear kt;replace jp:=Cd.mono _ Cg.f jp;replace SL0:=Same.trans SL0 Cg.f;refine(yj (K:=K) (c:=(cL (cT cI))) (jh (p:=pF (cL (cT cI))) (i:=4) rfl Wh) X Hm ?_);intro found ql F H Hm E X jp;replace SL0:=E.xd SL0;cases Hm;exact⟨F,_,_,_,_,_,_,rfl,⟨X,SL0⟩,jp⟩
  ·rintro F1 S0_ found σ_ F H Hm ⟨ql,w1_,w2_,w3_,w4_,w5_,rfl,⟨X,SF_⟩,jp⟩
   try dsimp only at Hm
   exact kf (K:=K) (jh (p:=pF (cL (cT cI))) (i:=1) rfl jp) X Hm Kk
theorem sc__law_stirred:FnScope ["_law_ones","_law_cell","_law_left","_law_made","_law_k"] ["_law_ones","_law_cell"] (jn (top 57)):=⟨rfl,rfl,rfl,by decide +kernel,rfl,by decide +kernel,by decide +kernel⟩
theorem Uo (B:Bi mg) (Fn:Fun K "_law_stirred" "_law_stirred" (top 57) f fd):FnOk P w K mg base CX0 1 f fd ["_law_ones","_law_cell"] (sp2 K (pB cI) (pF cI) (rO cI) zj):=by
 refine Fn.ok sc__law_stirred (fun vs H Q E h=>?_) (fun cdv A outer s H0 vs Q E_ hr h=>?_)
 ·obtain⟨_,_,_,_,_,_,rfl,_⟩:=h;rfl
 ·obtain⟨ones,cell,qA,jcX,Fe,R,rfl,S_,jF,jcY,Hm,Kk⟩:=h;have nd:=sc__law_stirred.nd;have hu:=kG hr;refine⟨_,(jg (jM (i:=2) nd rfl (Or.inl rfl) (qD qX rfl B.list_ (by kernel_rfl) (jc (pv 0) ji)))
   (jg (jM (i:=3) nd rfl (Or.inl rfl) (qC ji))
   (jg (kP PassesOwn.never rfl (kh rfl B.range_ (jc (jP jQ rfl B.len_ (by kernel_rfl) (jc (pv 0) ji)) ji)) (jN (i:=4) nd rfl (Or.inl rfl)) (jg (jM (i:=1) nd rfl (Or.inl rfl) (ke xX (ke Wv (ke xD (ke xX (pv 1) jy) jy) jy) jy))
   (jo (kZ (zR Xx Xz Xy kJ (pv 3) (jc (zR Xx PySem.F.slot_list_pop PySem.F.type_list_pop Y8 (pv 2) (jc (ke xX (pv 1) (jP jQ rfl B.len_ (by kernel_rfl) (jc (pv 2) ji))) ji)) ji))))))
   (jo (j1 (pv 3)))))),?_⟩
  try dsimp only[kH]
  have X:Ext Fe H0 Fe H0:=Ext.refl S_;unfold zj at Hm;have jt:Bor K H0 Fe cI ones qA:=jF;clear jF;obtain rfl:jcX=.int cell:=jcY;refine(x5 (K:=K) (jL Qb (kl (jh (p:=pB cI) (i:=0) rfl (Bor.b jt X))) rfl) X Hm ?_);intro left zu F H Hm E X Hn O_left;replace jt:=E.xb jt;refine(x5 (K:=K) (qE (qr (c:=cI)) (by decide)) X Hm ?_);intro made zv F H Hm E X Hn qK;have kB:=Own.ne O_left Hn;have yd:=Ne.symm kB;replace jt:=E.xb jt;replace O_left:=O_left.mono E;refine Ji (K:=K) (c:=cI) ?_ X Hm (fun F1 b σ' F' H'=>match b with | (cell,left,made)=>∃ (zu:Addr) (zv:Addr) (w1_:Option V),σ'=[some qA,some (.int cell),some (.ref zu),some (.ref zv),w1_]/\(Ext Fe H0 F' H'/\Same F1 F')/\Own K H0 F' H' cI left zu/\Own K H0 F' H' cI made zv/\zu≠zv) ?_ ?_ ?_ ?_
  ·exact(kA (jL xY (kl (jh (p:=pB cI) (i:=0) rfl (Bor.b jt X))) rfl) rfl)
  ·intro F H E X;replace O_left:=O_left.mono E;replace qK:=qK.mono E;exact⟨_,_,_,rfl,⟨X,(Same.refl _)⟩,O_left,qK,kB⟩
  ·rintro F1 ⟨cell,left,made⟩ σ_ F_ H_ ⟨zu,zv,w1_,rfl,⟨X_,SF_⟩,O_left,qK,kB⟩;exact⟨X_,SF_⟩
  ·rintro F1 S0_ ⟨cell,left,made⟩ B_ k_ V_k_ σ_ F_ H_ F H ⟨zu,zv,w1_,rfl,⟨X,SF_⟩,O_left,qK,kB⟩ E P_k_ Hm
   try dsimp only at Hm
   have SL0:=SF_;have yd:=Ne.symm kB;replace X:=Ext.trans X E;replace O_left:=O_left.mono E;replace qK:=qK.mono E;replace SL0:=E.xd SL0;obtain rfl:V_k_=.int k_:=P_k_;refine qb ?_;refine(q9 (K:=K) (xF (by decide) (Gj ⟨by decide,by decide⟩ (jl kI (xF (by decide) (jV (i:=1) rfl) (jz _) rfl) (jz _) rfl) (jz _) rfl) (jz _) rfl) X Hm ?_);intro cell F H Hm E X;replace O_left:=O_left.mono E;replace qK:=qK.mono E;replace SL0:=E.xd SL0;refine(WW (K:=K) (k':=3) (j':=2) rfl rfl qK O_left yd (jl QY (jV (i:=1) rfl) (jL xY (kl (jh (p:=pB cI) (i:=2) rfl O_left.b)) rfl) rfl) X Hm ?_);intro made left F H1_ H Hm Cb_ Cg X qK O_left
   try dsimp only at Hm
   replace SL0:=Same.trans SL0 Cb_.f;replace SL0:=Same.trans SL0 Cg.f;cases Hm;exact⟨F,_,_,_,rfl,⟨X,SL0⟩,O_left,qK,kB⟩
  ·rintro F1 S0_ ⟨cell,left,made⟩ σ_ F H Hm ⟨zu,zv,w1_,rfl,⟨X,SF_⟩,O_left,qK,kB⟩
   try dsimp only at Hm
   have yd:=Ne.symm kB;exact ze (K:=K) (i:=3) rfl qK X Hm Kk
theorem sc__law_due:FnScope ["_law_under_here","_law_ones","_law_which","_law_found","_law_one"] ["_law_under_here","_law_ones","_law_which"] (jn (top 58)):=⟨rfl,rfl,rfl,by decide +kernel,rfl,by decide +kernel,by decide +kernel⟩
theorem YT (B:Bi mg) (Fn:Fun K "_law_due" "_law_due" (top 58) f fd) (xg:Def P w K mg base "_law_round" 4 ["_law_under_here","_law_one","_law_which"] (sp3 K (pB (cL cB)) (pF cI) (pF cI) (rO cI) yu)):FnOk P w K mg base CX0 5 f fd ["_law_under_here","_law_ones","_law_which"] (sp3 K (pB (cL cB)) (pB cI) (pF cI) (rO (cL cI)) WY):=by
 refine Fn.ok sc__law_due (fun vs H Q E h=>?_) (fun cdv A outer s H0 vs Q E_ hr h=>?_)
 ·obtain⟨_,_,_,_,_,_,_,_,rfl,_⟩:=h;rfl
 ·obtain⟨under_here,ones,which,ju,qA,xl,Fe,R,rfl,S_,je,jF,xm,Hm,Kk⟩:=h;have nd:=sc__law_due.nd;have hu:=kG hr;refine⟨_,(jg (jM (i:=3) nd rfl (Or.inl rfl) (qC ji))
   (jg (kP PassesOwn.never rfl (kN (pv 1)) (jN (i:=4) nd rfl (Or.inr rfl)) (jo (Gy (qB (yq (qW (jP (Vf rfl) rfl B.any_ (by kernel_rfl) (jc (qk (own:=["_law_circle"]) (ix:=[4]) (qY rfl) rfl (kN (pv 3)) (fun _=>(jN (i:=0) (show List.Nodup (["_law_circle","_law_one"]:List Str) by decide +kernel) rfl (Or.inl rfl))) (fun _=>xZ) (fun _=>(zc (Zb hu) (pv 1) (pv 0) (by with_unfolding_all rfl)))) ji)))) (jo (kZ (zR Xx Xz Xy kJ (pv 3) (jc (jU xg (hr.mono (by decide)) rfl (jc (pv 0) (jc (pv 4) (jc (pv 2) ji)))) ji)))) kg))))
   (jo (j1 (pv 3))))),?_⟩
  try dsimp only[kH]
  have X:Ext Fe H0 Fe H0:=Ext.refl S_;unfold WY at Hm;have jb:Bor K H0 Fe (cL cB) under_here ju:=je;clear je;have jt:Bor K H0 Fe cI ones qA:=jF;clear jF;obtain rfl:xl=.int which:=xm;refine(x5 (K:=K) (qE (qr (c:=(cL cI))) (by decide)) X Hm ?_);intro found js F H Hm E X Hn O_found;replace jb:=E.xb jb;replace jt:=E.xb jt;refine yt (K:=K) (c:=cI) ?_ X Hm (fun F1 found σ' F' H'=>∃ (js:Addr) (w1_:Option V),σ'=[some ju,some qA,some (.int which),some (.ref js),w1_]/\(Ext Fe H0 F' H'/\Same F1 F')/\Own K H0 F' H' (cL cI) found js) ?_ ?_ ?_ ?_
  ·exact(Gz (i:=1) rfl jt)
  ·intro F H E X;replace O_found:=O_found.mono E;exact⟨_,_,rfl,⟨X,(Same.refl _)⟩,O_found⟩
  ·rintro F1 found σ_ F_ H_ ⟨js,w1_,rfl,⟨X_,SF_⟩,O_found⟩;exact⟨X_,SF_⟩
  ·rintro F1 S0_ found B_ one qj σ_ F_ H_ F H ⟨js,w1_,rfl,⟨X,SF_⟩,O_found⟩ E jC Hm
   try dsimp only at Hm
   have SL0:=SF_;replace SF_:=Same.trans S0_ SF_;replace jb:=Bor.mono jb SF_;replace X:=Ext.trans X E;replace jb:=E.xb jb;replace O_found:=O_found.mono E;replace SL0:=E.xd SL0;obtain rfl:qj=.int one:=jC;refine qb ?_;refine(Qs (K:=K) (fun found σ' H'=>∃ F':Hp,∃ (js:Addr),σ'=[some ju,some qA,some (.int which),some (.ref js),some (.int one)]/\(Ext Fe H0 F' H'/\Same F F')/\Own K H0 F' H' (cL cI) found js) (y3 (qR (xy jfy (kl (xj (yG (yN (kl (jh (p:=pB (cL cI)) (i:=3) rfl O_found.b))) [some (.int one)] rfl (fun b3 circle qm _ _ E2 jE=>yS) (fun b3 circle qm _ _ E2 jE=>(jl (jgM eqI (by decide)) (yF (jV (i:=1) rfl)) (yF (jh (p:=pF (cL cI)) (i:=0) rfl jE)) rfl)) rfl))) rfl)) rfl) X Hm ?_ ?_ ?_)
   ·intro B_ F H Hm E X;replace jb:=E.xb jb;replace O_found:=O_found.mono E;have SJ1:=E.f;refine(z_ (K:=K) (i:=3) rfl O_found (qZ (kQ (jh (p:=pB (cL cB)) (i:=0) rfl (Bor.b jb X)) (jV (i:=4) rfl) (jV (i:=2) rfl) rfl)) X Hm ?_);intro found F H Hm Cg X O_found;replace SJ1:=Same.trans SJ1 Cg.f;cases Hm;exact⟨F,_,rfl,⟨X,SJ1⟩,O_found⟩
   ·intro B_ F H Hm E X;replace O_found:=O_found.mono E;have SJ1:=E.f;refine Gb ?_;cases Hm;exact⟨F,_,rfl,⟨X,SJ1⟩,O_found⟩
   ·rintro found σ_ H Hm ⟨F,js,rfl,⟨X,SF_⟩,O_found⟩
    try dsimp only at Hm
    replace SL0:=Same.trans SL0 SF_;cases Hm;exact⟨F,_,_,rfl,⟨X,SL0⟩,O_found⟩
  ·rintro F1 S0_ found σ_ F H Hm ⟨js,w1_,rfl,⟨X,SF_⟩,O_found⟩
   try dsimp only at Hm
   exact ze (K:=K) (i:=3) rfl O_found X Hm Kk
theorem sc_check_parts:FnScope ["many","pairs","low","high"] ["many","pairs"] (jn (top 14)):=⟨rfl,rfl,rfl,by decide +kernel,rfl,by decide +kernel,by decide +kernel⟩
theorem UE (B:Bi mg) (Fn:Fun K "check_parts" "check_parts" (top 14) f fd) (Gp:∃ t,mg "MOST_THINGS"=some (.int 9 t)):FnOk P w K mg base CX0 1 f fd ["many","pairs"] (sp2 K (pF cI) (pB (cP cI cI)) (rF cU) qF):=by
 refine Fn.ok sc_check_parts (fun vs H Q E h=>?_) (fun cdv A outer s H0 vs Q E_ hr h=>?_)
 ·obtain⟨_,_,_,_,_,_,rfl,_⟩:=h;rfl
 ·obtain⟨many,pairs,Yf,Gq,Fe,R,rfl,S_,Yg,GV,Hm,Kk⟩:=h;obtain⟨t_MOST_THINGS,g_MOST_THINGS⟩:=Gp;have nd:=sc_check_parts.nd;have hu:=kG hr;refine⟨_,(jg (qB (yq (Y5 jc9 jc9 jy (pv 0) (je1 (v:=.int 9) rfl g_MOST_THINGS ⟨_,rfl⟩))) (jo JI) kg)
   (jo (kP PassesOwn.never rfl (kN (pv 1)) (Ws rfl (yC (jN (i:=2) nd rfl (Or.inl rfl)) (yC (jN (i:=3) nd rfl (Or.inl rfl)) QM))) (jo (qB (yq (jbj jc9 ZQ ZQ jy (pv 2) (pv 3) (pv 0))) (jo JI) kg))))),?_⟩
  try dsimp only[kH]
  have X:Ext Fe H0 Fe H0:=Ext.refl S_;unfold qF at Hm;obtain rfl:Yf=.int many:=Yg;have jX:Bor K H0 Fe (cP cI cI) pairs Gq:=GV;clear GV;refine(Ga (K:=K) (xT (qN (Q5 (jz _) (jV (i:=0) rfl) (jz _) rfl)) rfl) X Hm ?_ ?_)
  ·intro F H Hc Hm E X;cases Hm
  ·intro F H Hc Hm E X;replace jX:=E.xb jX;refine Gb ?_;refine Vp (K:=K) (c:=(cP cI cI)) ?_ X Hm (fun F1 b σ' F' H'=>∃ (w1_:Option V) (w2_:Option V),σ'=[some (.int many),some Gq,w1_,w2_]/\(Ext Fe H0 F' H'/\Same F1 F')) ?_ ?_ ?_ ?_
   ·exact(Gz (i:=1) rfl jX)
   ·intro F H E X;exact⟨_,_,rfl,⟨X,(Same.refl _)⟩⟩
   ·rintro F1 _ σ_ F_ H_ ⟨w1_,w2_,rfl,⟨X_,SF_⟩⟩;exact⟨X_,SF_⟩
   ·rintro F1 S0_ _ B_ ⟨low,high⟩ V_z3 σ_ F_ H_ F H ⟨w1_,w2_,rfl,⟨X,SF_⟩⟩ E P_z3 Hm
    try dsimp only at Hm
    have SL0:=SF_;replace X:=Ext.trans X E;replace SL0:=E.xd SL0;refine jbz P_z3 X.sub fun We J5 Wf J6=>?_;obtain rfl:We=.int low:=Wf;obtain rfl:J5=.int high:=J6;refine(jbu (K:=K) (xT (qN (WN (jz _) (jV (i:=2) rfl) (jV (i:=3) rfl) (jV (i:=0) rfl) rfl)) rfl) X Hm ?_ ?_)
    ·intro F H Hc Hm E X;cases Hm
    ·intro F H Hc Hm E X;replace SL0:=E.xd SL0;refine Gb ?_;cases Hm;exact⟨F,_,_,rfl,⟨X,SL0⟩⟩
   ·rintro F1 S0_ _ σ_ F H Hm ⟨w1_,w2_,rfl,⟨X,SF_⟩⟩
    try dsimp only at Hm
    cases Hm;exact Kk _ F H X rfl
theorem sc_sets_below:FnScope ["many","pairs","found","thing","bits","low","high"] ["many","pairs"] (jn (top 16)):=⟨rfl,rfl,rfl,by decide +kernel,rfl,by decide +kernel,by decide +kernel⟩
theorem VX (B:Bi mg) (Fn:Fun K "sets_below" "sets_below" (top 16) f fd):FnOk P w K mg base CX0 1 f fd ["many","pairs"] (sp2 K (pF cI) (pB (cP cI cI)) (rF (cT cI)) xa):=by
 refine Fn.ok sc_sets_below (fun vs H Q E h=>?_) (fun cdv A outer s H0 vs Q E_ hr h=>?_)
 ·obtain⟨_,_,_,_,_,_,rfl,_⟩:=h;rfl
 ·obtain⟨many,pairs,Yf,Gq,Fe,R,rfl,S_,Yg,GV,Hm,Kk⟩:=h;have nd:=sc_sets_below.nd;have hu:=kG hr;refine⟨_,(jg (jM (i:=2) nd rfl (Or.inl rfl) (qC ji))
   (jg (kP PassesOwn.never rfl (kh rfl B.range_ (jc (pv 0) ji)) (jN (i:=3) nd rfl (Or.inl rfl)) (jg (jM (i:=4) nd rfl (Or.inl rfl) jy)
   (jg (kP PassesOwn.never rfl (kN (pv 1)) (Ws rfl (yC (jN (i:=5) nd rfl (Or.inl rfl)) (yC (jN (i:=6) nd rfl (Or.inl rfl)) QM))) (jo (Gy (qB (kq yW (pv 6) (pv 3) (kD _)) (jo (jM (i:=4) nd rfl (Or.inl rfl) (ke jaY (ke jaY (pv 4) (qS kS (pv 2) (pv 5) (fun _ _=>rfl))) (ke jaX jy (pv 5))))) kg))))
   (jo (kZ (zR Xx Xz Xy kJ (pv 2) (jc (pv 4) ji)))))))
   (jo (j1 (qD yX rfl B.tuple_ (by kernel_rfl) (jc (pv 2) ji)))))),?_⟩
  try dsimp only[kH]
  have X:Ext Fe H0 Fe H0:=Ext.refl S_;unfold xa at Hm;obtain rfl:Yf=.int many:=Yg;have jX:Bor K H0 Fe (cP cI cI) pairs Gq:=GV;clear GV;refine(x5 (K:=K) (qE (qr (c:=cI)) (by decide)) X Hm ?_);intro found js F H Hm E X Hn O_found;replace jX:=E.xb jX;refine Ji (K:=K) (c:=cI) ?_ X Hm (fun F1 found σ' F' H'=>∃ (js:Addr) (w1_:Option V) (w2_:Option V) (w3_:Option V) (w4_:Option V),σ'=[some (.int many),some Gq,some (.ref js),w1_,w2_,w3_,w4_]/\(Ext Fe H0 F' H'/\Same F1 F')/\Own K H0 F' H' cI found js) ?_ ?_ ?_ ?_
  ·exact(kA (jV (i:=0) rfl) rfl)
  ·intro F H E X;replace O_found:=O_found.mono E;exact⟨_,_,_,_,_,rfl,⟨X,(Same.refl _)⟩,O_found⟩
  ·rintro F1 found σ_ F_ H_ ⟨js,w1_,w2_,w3_,w4_,rfl,⟨X_,SF_⟩,O_found⟩;exact⟨X_,SF_⟩
  ·rintro F1 S0_ found B_ thing xO σ_ F_ H_ F H ⟨js,w1_,w2_,w3_,w4_,rfl,⟨X,SF_⟩,O_found⟩ E xP Hm
   try dsimp only at Hm
   have SL0:=SF_;replace SF_:=Same.trans S0_ SF_;replace jX:=Bor.mono jX SF_;replace X:=Ext.trans X E;replace jX:=E.xb jX;replace O_found:=O_found.mono E;replace SL0:=E.xd SL0;obtain rfl:xO=.int thing:=xP;refine qb ?_;refine(q9 (K:=K) (jz _) X Hm ?_);intro bits F H Hm E X;replace jX:=E.xb jX;replace O_found:=O_found.mono E;replace SL0:=E.xd SL0;refine yt (K:=K) (c:=(cP cI cI)) ?_ X Hm (fun F1 bits σ' F' H'=>∃ (w5_:Option V) (w6_:Option V),σ'=[some (.int many),some Gq,some (.ref js),some (.int thing),some (.int bits),w5_,w6_]/\(Ext Fe H0 F' H'/\Same F1 F')/\Own K H0 F' H' cI found js) ?_ ?_ ?_ ?_
   ·exact(Gz (i:=1) rfl jX)
   ·intro F H E X;replace O_found:=O_found.mono E;exact⟨_,_,rfl,⟨X,(Same.refl _)⟩,O_found⟩
   ·rintro F1 bits σ_ F_ H_ ⟨w5_,w6_,rfl,⟨X_,SF_⟩,O_found⟩;exact⟨X_,SF_⟩
   ·rintro F1 S0_ bits B_ ⟨low,high⟩ V_z7 σ_ F_ H_ F H ⟨w5_,w6_,rfl,⟨X,SF_⟩,O_found⟩ E P_z7 Hm
    try dsimp only at Hm
    have SL1:=SF_;replace SF_:=Same.trans S0_ SF_;replace X:=Ext.trans X E;replace O_found:=O_found.mono E;replace SL1:=E.xd SL1;refine jbz P_z7 X.sub fun We J5 Wf J6=>?_;obtain rfl:We=.int low:=Wf;obtain rfl:J5=.int high:=J6;refine(Q0 (K:=K) (fun bits σ' H'=>∃ F':Hp,σ'=[some (.int many),some Gq,some (.ref js),some (.int thing),some (.int bits),some (.int low),some (.int high)]/\(Ext Fe H0 F' H'/\Same F F')/\Own K H0 F' H' cI found js) (qN (jl y0 (jV (i:=6) rfl) (jV (i:=3) rfl) rfl)) X Hm ?_ ?_ ?_)
    ·intro B_ F H Hm E X;replace O_found:=O_found.mono E;have SJ2:=E.f;refine(Gi (K:=K) (kr kI (kr kI (jV (i:=4) rfl) (jl yM (kl (jh (p:=pB cI) (i:=2) rfl O_found.b)) (jV (i:=5) rfl) rfl) rfl) (jl jfm (jz _) (jV (i:=5) rfl) rfl) rfl) X Hm ?_);intro bits F H Hm E X;replace O_found:=O_found.mono E;replace SJ2:=E.xd SJ2;cases Hm;exact⟨F,rfl,⟨X,SJ2⟩,O_found⟩
    ·intro B_ F H Hm E X;replace O_found:=O_found.mono E;have SJ2:=E.f;refine Gb ?_;cases Hm;exact⟨F,rfl,⟨X,SJ2⟩,O_found⟩
    ·rintro bits σ_ H Hm ⟨F,rfl,⟨X,SF_⟩,O_found⟩
     try dsimp only at Hm
     replace SL1:=Same.trans SL1 SF_;cases Hm;exact⟨F,_,_,rfl,⟨X,SL1⟩,O_found⟩
   ·rintro F1 S0_ bits σ_ F H Hm ⟨w5_,w6_,rfl,⟨X,SF_⟩,O_found⟩
    try dsimp only at Hm
    replace SF_:=Same.trans S0_ SF_;replace SL0:=Same.trans SL0 SF_;refine(zf (K:=K) (k':=2) rfl O_found (jV (i:=4) rfl) X Hm ?_);intro found F H Hm Cg X O_found;replace SL0:=Same.trans SL0 Cg.f;cases Hm;exact⟨F,_,_,_,_,_,rfl,⟨X,SL0⟩,O_found⟩
  ·rintro F1 S0_ found σ_ F H Hm ⟨js,w1_,w2_,w3_,w4_,rfl,⟨X,SF_⟩,O_found⟩
   try dsimp only at Hm
   exact kf (K:=K) (jL Zd (kl (jh (p:=pB cI) (i:=2) rfl O_found.b)) rfl) X Hm Kk
theorem sc_has:FnScope ["bits","thing"] ["bits","thing"] (jn (top 15)):=⟨rfl,rfl,rfl,by decide +kernel,rfl,by decide +kernel,by decide +kernel⟩
theorem jhI (B:Bi mg) (Fn:Fun K "has" "has" (top 15) f fd):FnOk P w K mg base CX0 1 f fd ["bits","thing"] (sp2 K (pF cI) (pF cI) (rF cB) Jj):=by
 refine Fn.ok sc_has (fun vs H Q E h=>?_) (fun cdv A outer s H0 vs Q E_ hr h=>?_)
 ·obtain⟨_,_,_,_,_,_,rfl,_⟩:=h;rfl
 ·obtain⟨bits,thing,zw,xO,Fe,R,rfl,S_,zx,xP,Hm,Kk⟩:=h;have nd:=sc_has.nd;have hu:=kG hr;refine⟨_,(jo (j1 (zc yW (ke jel (ke jek (pv 0) (pv 1)) jy) jy (kD _)))),?_⟩
  try dsimp only[kH]
  have X:Ext Fe H0 Fe H0:=Ext.refl S_;unfold Jj at Hm;obtain rfl:zw=.int bits:=zx;obtain rfl:xO=.int thing:=xP;exact kf (K:=K) (kr y0 (kr kI (jl jgK (jV (i:=0) rfl) (jV (i:=1) rfl) rfl) (jz _) rfl) (jz _) rfl) X Hm Kk
theorem sc_is_cover:FnScope ["beneath","low","high"] ["beneath","low","high"] (jn (top 17)):=⟨rfl,rfl,rfl,by decide +kernel,rfl,by decide +kernel,by decide +kernel⟩
theorem YU (B:Bi mg) (Fn:Fun K "is_cover" "is_cover" (top 17) f fd) (Us:Def P w K mg base "has" 1 ["bits","thing"] (sp2 K (pF cI) (pF cI) (rF cB) Jj)):FnOk P w K mg base CX0 2 f fd ["beneath","low","high"] (sp3 K (pF (cT cI)) (pF cI) (pF cI) (rF cB) yh):=by
 refine Fn.ok sc_is_cover (fun vs H Q E h=>?_) (fun cdv A outer s H0 vs Q E_ hr h=>?_)
 ·obtain⟨_,_,_,_,_,_,_,_,rfl,_⟩:=h;rfl
 ·obtain⟨beneath,low,high,zy,We,J5,Fe,R,rfl,S_,jT,Wf,J6,Hm,Kk⟩:=h;have nd:=sc_is_cover.nd;have hu:=kG hr;refine⟨_,(jg (qB (yq (qW (jU Us (hr.mono (by decide)) rfl (jc (qS zd (pv 0) (pv 2) (fun _ _=>rfl)) (jc (pv 1) ji))))) (jo (j1 GA)) kg)
   (jo (j1 (jaP (jP (Vf rfl) rfl B.any_ (by kernel_rfl) (jc (qk (own:=["mid"]) (ix:=[0,1,2]) (qY rfl) rfl (Wt rfl B.range_ (jc (ke xD (pv 1) jy) (jc (pv 2) ji))) (fun _=>(jN (i:=0) (show List.Nodup (["mid","beneath","low","high"]:List Str) by decide +kernel) rfl (Or.inl rfl))) (fun _=>xZ) (fun _=>(Y2 (jU Us (hr.mono (by decide)) rfl (jc (qS zd (pv 1) (pv 3) (fun _ _=>rfl)) (jc (pv 0) ji))) (UI (jU Us (hr.mono (by decide)) rfl (jc (qS zd (pv 1) (pv 0) (fun _ _=>rfl)) (jc (pv 2) ji))))))) ji)))))),?_⟩
  try dsimp only[kH]
  have X:Ext Fe H0 Fe H0:=Ext.refl S_;unfold yh at Hm;replace jT:(cT cI).rep K Fe beneath zy:=jT;obtain rfl:We=.int low:=Wf;obtain rfl:J5=.int high:=J6;refine(jdz (K:=K) (y3 (qR (kL (jl Js (jh (p:=pF (cT cI)) (i:=0) rfl jT) (jV (i:=2) rfl) rfl) (jV (i:=1) rfl) rfl)) rfl) X Hm ?_ ?_)
  ·intro F H Hm E X
   try dsimp only[wr] at Hm
   exact kf (K:=K) (GB _) X Hm Kk
  ·intro F H Hm E X
   try dsimp only[wk] at Hm
   replace jT:=E.xc jT;refine Gb ?_;exact kf (K:=K) (Zn (xy jfy (kl (xj (qh (YC (jl kI (jV (i:=1) rfl) (jz _) rfl) (jV (i:=2) rfl) rfl) [some zy,some (.int low),some (.int high)] rfl (fun b5 mid _ _ E4=>yS) (fun b5 mid _ _ E4=>(Zo (kL (jl Js (jh (p:=pF (cT cI)) (i:=1) rfl (Cd.mono _ (E4).f jT)) (jV (i:=3) rfl) rfl) (jV (i:=0) rfl) rfl) (kL (jl Js (jh (p:=pF (cT cI)) (i:=1) rfl (Cd.mono _ (E4).f jT)) (jV (i:=0) rfl) rfl) (jV (i:=2) rfl) rfl) rfl)) rfl))) rfl) rfl) X Hm Kk
theorem sc_cover_pairs:FnScope ["beneath","found","low","high"] ["beneath"] (jn (top 18)):=⟨rfl,rfl,rfl,by decide +kernel,rfl,by decide +kernel,by decide +kernel⟩
theorem UF (B:Bi mg) (Fn:Fun K "cover_pairs" "cover_pairs" (top 18) f fd) (Qk:Def P w K mg base "is_cover" 2 ["beneath","low","high"] (sp3 K (pF (cT cI)) (pF cI) (pF cI) (rF cB) yh)):FnOk P w K mg base CX0 3 f fd ["beneath"] (sp1 K (pF (cT cI)) (rF (cT (cP cI cI))) qG):=by
 refine Fn.ok sc_cover_pairs (fun vs H Q E h=>?_) (fun cdv A outer s H0 vs Q E_ hr h=>?_)
 ·obtain⟨_,_,_,_,rfl,_⟩:=h;rfl
 ·obtain⟨beneath,zy,Fe,R,rfl,S_,jT,Hm,Kk⟩:=h;have nd:=sc_cover_pairs.nd;have hu:=kG hr;refine⟨_,(jg (jM (i:=1) nd rfl (Or.inl rfl) (qC ji))
   (jg (kP PassesOwn.never rfl (kh rfl B.range_ (jc (jP jQ rfl B.len_ (by kernel_rfl) (jc (pv 0) ji)) ji)) (jN (i:=2) nd rfl (Or.inl rfl)) (jo (kP PassesOwn.never rfl (Wt rfl B.range_ (jc (ke xD (pv 2) jy) (jc (jP jQ rfl B.len_ (by kernel_rfl) (jc (pv 0) ji)) ji))) (jN (i:=3) nd rfl (Or.inl rfl)) (jo (Gy (qB (qW (jU Qk (hr.mono (by decide)) rfl (jc (pv 0) (jc (pv 2) (jc (pv 3) ji))))) (jo (kZ (zR Xx Xz Xy kJ (pv 1) (jc (QP (jc (pv 2) (jc (pv 3) ji))) ji)))) kg))))))
   (jo (j1 (qD yX rfl B.tuple_ (by kernel_rfl) (jc (pv 1) ji)))))),?_⟩
  try dsimp only[kH]
  have X:Ext Fe H0 Fe H0:=Ext.refl S_;unfold qG at Hm;replace jT:(cT cI).rep K Fe beneath zy:=jT;refine(x5 (K:=K) (qE (qr (c:=(cP cI cI))) (by decide)) X Hm ?_);intro found js F H Hm E X Hn O_found;replace jT:=E.xc jT;refine Ji (K:=K) (c:=cI) ?_ X Hm (fun F1 found σ' F' H'=>∃ (js:Addr) (w1_:Option V) (w2_:Option V),σ'=[some zy,some (.ref js),w1_,w2_]/\(Ext Fe H0 F' H'/\Same F1 F')/\Own K H0 F' H' (cP cI cI) found js) ?_ ?_ ?_ ?_
  ·exact(kA (jL UO (jh (p:=pF (cT cI)) (i:=0) rfl jT) rfl) rfl)
  ·intro F H E X;replace O_found:=O_found.mono E;exact⟨_,_,_,rfl,⟨X,(Same.refl _)⟩,O_found⟩
  ·rintro F1 found σ_ F_ H_ ⟨js,w1_,w2_,rfl,⟨X_,SF_⟩,O_found⟩;exact⟨X_,SF_⟩
  ·rintro F1 S0_ found B_ low We σ_ F_ H_ F H ⟨js,w1_,w2_,rfl,⟨X,SF_⟩,O_found⟩ E Wf Hm
   try dsimp only at Hm
   have SL0:=SF_;replace SF_:=Same.trans S0_ SF_;replace jT:=Cd.mono _ SF_ jT;replace X:=Ext.trans X E;replace jT:=E.xc jT;replace O_found:=O_found.mono E;replace SL0:=E.xd SL0;obtain rfl:We=.int low:=Wf;refine qb ?_;refine UQ (K:=K) (c:=cI) ?_ X Hm (fun F1 found σ' F' H'=>∃ (js:Addr) (w3_:Option V),σ'=[some zy,some (.ref js),some (.int low),w3_]/\(Ext Fe H0 F' H'/\Same F1 F')/\Own K H0 F' H' (cP cI cI) found js) ?_ ?_ ?_ ?_
   ·exact(YB (jl kI (jV (i:=2) rfl) (jz _) rfl) (jL UO (jh (p:=pF (cT cI)) (i:=0) rfl jT) rfl) rfl)
   ·intro F H E X;replace O_found:=O_found.mono E;exact⟨_,_,rfl,⟨X,(Same.refl _)⟩,O_found⟩
   ·rintro F1 found σ_ F_ H_ ⟨js,w3_,rfl,⟨X_,SF_⟩,O_found⟩;exact⟨X_,SF_⟩
   ·rintro F1 S0_ found B_ high J5 σ_ F_ H_ F H ⟨js,w3_,rfl,⟨X,SF_⟩,O_found⟩ E J6 Hm
    try dsimp only at Hm
    have SL1:=SF_;replace SF_:=Same.trans S0_ SF_;replace jT:=Cd.mono _ SF_ jT;replace X:=Ext.trans X E;replace jT:=E.xc jT;replace O_found:=O_found.mono E;replace SL1:=E.xd SL1;obtain rfl:J5=.int high:=J6;refine qb ?_;refine(Qs (K:=K) (fun found σ' H'=>∃ F':Hp,∃ (js:Addr),σ'=[some zy,some (.ref js),some (.int low),some (.int high)]/\(Ext Fe H0 F' H'/\Same F F')/\Own K H0 F' H' (cP cI cI) found js) (qR (kQ (jh (p:=pF (cT cI)) (i:=0) rfl jT) (jV (i:=2) rfl) (jV (i:=3) rfl) rfl)) X Hm ?_ ?_ ?_)
    ·intro B_ F H Hm E X;replace O_found:=O_found.mono E;have SJ2:=E.f;refine(zf (K:=K) (k':=1) rfl O_found (Jt (jV (i:=2) rfl) (jV (i:=3) rfl) rfl) X Hm ?_);intro found F H Hm Cg X O_found;replace SJ2:=Same.trans SJ2 Cg.f;cases Hm;exact⟨F,_,rfl,⟨X,SJ2⟩,O_found⟩
    ·intro B_ F H Hm E X;replace O_found:=O_found.mono E;have SJ2:=E.f;refine Gb ?_;cases Hm;exact⟨F,_,rfl,⟨X,SJ2⟩,O_found⟩
    ·rintro found σ_ H Hm ⟨F,js,rfl,⟨X,SF_⟩,O_found⟩
     try dsimp only at Hm
     replace SL1:=Same.trans SL1 SF_;cases Hm;exact⟨F,_,_,rfl,⟨X,SL1⟩,O_found⟩
   ·rintro F1 S0_ found σ_ F H Hm ⟨js,w3_,rfl,⟨X,SF_⟩,O_found⟩
    try dsimp only at Hm
    replace SF_:=Same.trans S0_ SF_;replace SL0:=Same.trans SL0 SF_;cases Hm;exact⟨F,_,_,_,rfl,⟨X,SL0⟩,O_found⟩
  ·rintro F1 S0_ found σ_ F H Hm ⟨js,w1_,w2_,rfl,⟨X,SF_⟩,O_found⟩
   try dsimp only at Hm
   exact kf (K:=K) (jL Zd (kl (jh (p:=pB (cP cI cI)) (i:=1) rfl O_found.b)) rfl) X Hm Kk
theorem sc_Order_init:FnScope ["self","many","pairs"] ["self","many","pairs"] (jn ((jH (top 19) 0))):=⟨rfl,rfl,rfl,by decide +kernel,rfl,by decide +kernel,by decide +kernel⟩
theorem VY (B:Bi mg) (T_Order:Txt_Order K mg jd) (Fn:Fun K "__init__" "Order.__init__" ((jH (top 19) 0)) f fd) (Gr:Def P w K mg base "check_parts" 1 ["many","pairs"] (sp2 K (pF cI) (pB (cP cI cI)) (rF cU) qF)) (GW:Def P w K mg base "sets_below" 1 ["many","pairs"] (sp2 K (pF cI) (pB (cP cI cI)) (rF (cT cI)) xa)) (Gs:Def P w K mg base "cover_pairs" 3 ["beneath"] (sp1 K (pF (cT cI)) (rF (cT (cP cI cI))) qG)):FnOk P w K mg base CX0 4 f fd ["self","many","pairs"] (jhT K jd (pF cI) (pB (cP cI cI)) (jA jd) qH):=by
 refine Fn.ok sc_Order_init (fun vs H Q E h=>?_) (fun cdv A outer s Hq vs Q E_ hr h=>?_)
 ·obtain⟨_,_,_,_,_,_,_,_,_,rfl,_⟩:=h;rfl
 ·obtain⟨many,pairs,Yf,Gq,Fe,H0,x_self,dx_self,R,rfl,rfl,n1_,n2_,n3_,S_,Yg,GV,Hm,Kk⟩:=h;have nd:=sc_Order_init.nd;have hu:=kG hr;refine⟨_,(jg (kZ (jU Gr (hr.mono (by decide)) rfl (jc (pv 1) (jc (pv 2) ji))))
   (jg (QO (pv 0) (pv 1) rfl)
   (jg (QO (pv 0) (jU GW (hr.mono (by decide)) rfl (jc (pv 1) (jc (pv 2) ji))) rfl)
   (jo (QO (pv 0) (jU Gs (hr.mono (by decide)) rfl (jc (yR (pv 0) rfl) ji)) rfl))))),?_⟩
  try dsimp only[kH]
  obtain⟨X,xh⟩:=Gc (C:=jd) S_ n1_ n2_ n3_;unfold qH at Hm;obtain rfl:Yf=.int many:=Yg;have jX:Bor K H0 Fe (cP cI cI) pairs Gq:=GV;clear GV;refine(Q2 (K:=K) (jI (jV (i:=1) rfl) (jh (p:=pB (cP cI cI)) (i:=2) rfl (Bor.b jX X)) rfl) X Hm ?_);intro _ F H Hm E X;replace jX:=E.xb jX;replace xh:=OwnI.mono xh E;refine(jgZ (K:=K) (k':=0) (c:=cI) rfl xh T_Order.cl T_Order.n_many (wy (Xm 0) (by decide:0<1000)) (jV (i:=1) rfl) X Hm ?_);intro f_many YW F H Hm Cg X YX xh;replace jX:=Bor.mono jX Cg.f;obtain rfl:YW=.int f_many:=YX;refine(jgZ (K:=K) (k':=0) (c:=(cT cI)) rfl xh T_Order.cl T_Order.n_beneath (wy (YD (Xm 0)) (by decide:1<1000)) (jI (jV (i:=1) rfl) (jh (p:=pB (cP cI cI)) (i:=2) rfl (Bor.b jX X)) rfl) X Hm ?_);intro f_beneath jc0 F H Hm Cg X yE xh;refine(UT (K:=K) (k':=0) (c:=(cT (cP cI cI))) rfl xh T_Order.cl T_Order.n_neighbours (wy (YD (YD (Xm 0))) (by decide:2<1000)) (kK (jfF (p:=pF (cT cI)) (k:=0) rfl xh T_Order.cl T_Order.n_beneath (by rw[jY,if_pos rfl]) yE) rfl) X Hm ?_);intro f_neighbours jaI F H Hm Cg X Ql xh;replace yE:=Cd.mono _ Cg.f yE;cases Hm;obtain⟨F',X',Cg,hx⟩:=OwnI.freeze xh X;exact Kk F' H X' ⟨x_self,dx_self,_,_,_,rfl,hx,rfl,Cd.mono _ Cg.f yE,Cd.mono _ Cg.f Ql⟩
theorem sc_Great_init:FnScope ["self","order"] ["self","order"] (jn ((jH (top 36) 0))):=⟨rfl,rfl,rfl,by decide +kernel,rfl,by decide +kernel,by decide +kernel⟩
theorem VZ (B:Bi mg) (T_Great:Txt_Great K mg j7) (T_Order:Txt_Order K mg jd) (Fn:Fun K "__init__" "Turn.__init__" ((jH (top 36) 0)) f fd):FnOk P w K mg base CX0 1 f fd ["self","order"] (jae K j7 (pF (jA jd)) (xz jd j7) xb):=by
 refine Fn.ok sc_Great_init (fun vs H Q E h=>?_) (fun cdv A outer s Hq vs Q E_ hr h=>?_)
 ·obtain⟨_,_,_,_,_,_,_,rfl,_⟩:=h;rfl
 ·obtain⟨order,kC,Fe,H0,x_self,dx_self,R,rfl,rfl,n1_,n2_,n3_,S_,jk,Hm,Kk⟩:=h;have nd:=sc_Great_init.nd;have hu:=kG hr;refine⟨_,(jo (QO (pv 0) (pv 1) rfl)),?_⟩
  try dsimp only[kH]
  obtain⟨X,xh⟩:=Gc (C:=j7) S_ n1_ n2_ n3_;unfold xb at Hm;replace jk:(jA jd).rep K Fe order kC:=jk;refine(UT (K:=K) (k':=0) (c:=(jA jd)) rfl xh T_Great.cl T_Great.n_order (wy (Xm 0) (by decide:0<1000)) (jh (p:=pF (jA jd)) (i:=1) rfl jk) X Hm ?_);intro f_order GX F H Hm Cg X xQ xh;cases Hm;obtain⟨F',X',Cg,hx⟩:=OwnI.freeze xh X;exact Kk F' H X' ⟨x_self,dx_self,_,rfl,hx,Cd.mono _ Cg.f xQ⟩
theorem sc__law_turn:FnScope ["_law_order","_law_which"] ["_law_order","_law_which"] (jn (top 62)):=⟨rfl,rfl,rfl,by decide +kernel,rfl,by decide +kernel,by decide +kernel⟩
theorem W_ (B:Bi mg) (T_Great:Txt_Great K mg j7) (T_Order:Txt_Order K mg jd) (Fn:Fun K "_law_turn" "_law_turn" (top 62) f fd) (GY:Kls P w K mg base "Great" j7 1 ["self","order"] (jae K j7 (pF (jA jd)) (xz jd j7) xb)):FnOk P w K mg base CX0 3 f fd ["_law_order","_law_which"] (sp2 K (pF (jA jd)) (pF cI) (rF (xz jd j7)) Ug):=by
 refine Fn.ok sc__law_turn (fun vs H Q E h=>?_) (fun cdv A outer s H0 vs Q E_ hr h=>?_)
 ·obtain⟨_,_,_,_,_,_,rfl,_⟩:=h;rfl
 ·obtain⟨order,which,kC,xl,Fe,R,rfl,S_,jk,xm,Hm,Kk⟩:=h;have nd:=sc__law_turn.nd;have hu:=kG hr;refine⟨_,(jg (qB (kq yW (pv 1) jy (kD _)) (jo (j1 (UM GY (hr.mono (by decide)) rfl (jc (pv 0) ji)))) kg) QL),?_⟩
  try dsimp only[kH]
  have X:Ext Fe H0 Fe H0:=Ext.refl S_;unfold Ug at Hm;replace jk:(jA jd).rep K Fe order kC:=jk;obtain rfl:xl=.int which:=xm;refine(Ga (K:=K) (qN (jl y0 (jV (i:=1) rfl) (jz _) rfl)) X Hm ?_ ?_)
  ·intro F H Hc Hm E X;replace jk:=E.xc jk;exact kf (K:=K) (zF (jh (p:=pF (jA jd)) (i:=0) rfl jk) rfl) X Hm Kk
  ·intro F H Hc Hm E X;cases Hm
theorem sc_Order_size:FnScope ["self"] ["self"] (jn ((jH (top 19) 1))):=⟨rfl,rfl,rfl,by decide +kernel,rfl,by decide +kernel,by decide +kernel⟩
theorem V0 (B:Bi mg) (T_Order:Txt_Order K mg jd) (Fn:Fun K "size" "Order.size" ((jH (top 19) 1)) f fd):FnOk P w K mg base CX0 1 f fd ["self"] (sp1 K (pF (jA jd)) (rF cI) kF):=by
 refine Fn.ok sc_Order_size (fun vs H Q E h=>?_) (fun cdv A outer s H0 vs Q E_ hr h=>?_)
 ·obtain⟨_,_,_,_,rfl,_⟩:=h;rfl
 ·obtain⟨self,yK,Fe,R,rfl,S_,j2,Hm,Kk⟩:=h;have nd:=sc_Order_size.nd;have hu:=kG hr;refine⟨_,(jo (j1 (yR (pv 0) rfl))),?_⟩
  try dsimp only[kH]
  have X:Ext Fe H0 Fe H0:=Ext.refl S_;unfold kF at Hm;replace j2:(jA jd).rep K Fe self yK:=j2;exact kf (K:=K) (kT (Jn T_Order) (jh (p:=pF (jA jd)) (i:=0) rfl j2) rfl) X Hm Kk
theorem sc_things_of:FnScope ["bits"] ["bits"] (jn (top 21)):=⟨rfl,rfl,rfl,by decide +kernel,rfl,by decide +kernel,by decide +kernel⟩
theorem Ya (B:Bi mg) (Fn:Fun K "things_of" "things_of" (top 21) f fd) (Us:Def P w K mg base "has" 1 ["bits","thing"] (sp2 K (pF cI) (pF cI) (rF cB) Jj)):FnOk P w K mg base CX0 2 f fd ["bits"] (sp1 K (pF cI) (rO cI) qi):=by
 refine Fn.ok sc_things_of (fun vs H Q E h=>?_) (fun cdv A outer s H0 vs Q E_ hr h=>?_)
 ·obtain⟨_,_,_,_,rfl,_⟩:=h;rfl
 ·obtain⟨bits,zw,Fe,R,rfl,S_,zx,Hm,Kk⟩:=h;have nd:=sc_things_of.nd;have hu:=kG hr;refine⟨_,(jo (j1 (qk (own:=["thing"]) (ix:=[0]) (qY rfl) rfl (kh rfl B.range_ (jc (jgE PySem.F.plainAttrs_int PySem.F.slot_int_bit_length PySem.F.type_int_bit_length jbi (pv 0)) ji)) (fun _=>(jN (i:=0) (show List.Nodup (["thing","bits"]:List Str) by decide +kernel) rfl (Or.inl rfl))) (fun _=>zS (qW (jU Us (hr.mono (by decide)) rfl (jc (pv 1) (jc (pv 0) ji))))) (fun _=>(pv 0))))),?_⟩
  try dsimp only[kH]
  have X:Ext Fe H0 Fe H0:=Ext.refl S_;unfold qi at Hm;obtain rfl:zw=.int bits:=zx;exact kf (K:=K) (qh (qO (Vq (jV (i:=0) rfl) rfl) rfl) [some (.int bits)] rfl (fun b2 thing _ _ E1=>(qR (jI (jV (i:=1) rfl) (jV (i:=0) rfl) rfl))) (fun b2 thing _ _ E1=>(jV (i:=0) rfl)) rfl) X Hm Kk
theorem sc_holds_all:FnScope ["bits","others"] ["bits","others"] (jn (top 23)):=⟨rfl,rfl,rfl,by decide +kernel,rfl,by decide +kernel,by decide +kernel⟩
theorem Yb (B:Bi mg) (Fn:Fun K "holds_all" "holds_all" (top 23) f fd):FnOk P w K mg base CX0 1 f fd ["bits","others"] (sp2 K (pF cI) (pF cI) (rF cB) kO):=by
 refine Fn.ok sc_holds_all (fun vs H Q E h=>?_) (fun cdv A outer s H0 vs Q E_ hr h=>?_)
 ·obtain⟨_,_,_,_,_,_,rfl,_⟩:=h;rfl
 ·obtain⟨bits,others,zw,jee,Fe,R,rfl,S_,zx,jef,Hm,Kk⟩:=h;have nd:=sc_holds_all.nd;have hu:=kG hr;refine⟨_,(jo (j1 (zc yW (ke jel (pv 0) (pv 1)) (pv 1) (kD _)))),?_⟩
  try dsimp only[kH]
  have X:Ext Fe H0 Fe H0:=Ext.refl S_;unfold kO at Hm;obtain rfl:zw=.int bits:=zx;obtain rfl:jee=.int others:=jef;exact kf (K:=K) (jl y0 (jl kI (jV (i:=0) rfl) (jV (i:=1) rfl) rfl) (jV (i:=1) rfl) rfl) X Hm Kk
theorem sc_is_downset:FnScope ["order","bits"] ["order","bits"] (jn (top 24)):=⟨rfl,rfl,rfl,by decide +kernel,rfl,by decide +kernel,by decide +kernel⟩
theorem V1 (B:Bi mg) (T_Order:Txt_Order K mg jd) (Fn:Fun K "is_downset" "is_downset" (top 24) f fd) (qL:Mth P w K mg base jd "size" 1 ["self"] (sp1 K (pF (jA jd)) (rF cI) kF)) (yz:Def P w K mg base "things_of" 2 ["bits"] (sp1 K (pF cI) (rO cI) qi)) (xn:Def P w K mg base "holds_all" 1 ["bits","others"] (sp2 K (pF cI) (pF cI) (rF cB) kO)):FnOk P w K mg base CX0 3 f fd ["order","bits"] (sp2 K (pF (jA jd)) (pF cI) (rF cB) qI):=by
 refine Fn.ok sc_is_downset (fun vs H Q E h=>?_) (fun cdv A outer s H0 vs Q E_ hr h=>?_)
 ·obtain⟨_,_,_,_,_,_,rfl,_⟩:=h;rfl
 ·obtain⟨order,bits,kC,zw,Fe,R,rfl,S_,jk,zx,Hm,Kk⟩:=h;have nd:=sc_is_downset.nd;have hu:=kG hr;refine⟨_,(jg (qB (PW.pt (Wp (kq ZQ (pv 1) jy (kD _)) (UH (kq ja2 (ke jek (pv 1) (Yp qL (hr.mono (by decide)) (pv 0))) jy (kD _))))) (jo (j1 GA)) kg)
   (jo (j1 (jP (zC rfl) rfl B.all_ (by kernel_rfl) (jc (qk (own:=["thing"]) (ix:=[0,1]) (qY rfl) rfl (kN (jU yz (hr.mono (by decide)) rfl (jc (pv 1) ji))) (fun _=>(jN (i:=0) (show List.Nodup (["thing","order","bits"]:List Str) by decide +kernel) rfl (Or.inl rfl))) (fun _=>xZ) (fun _=>(jU xn (hr.mono (by decide)) rfl (jc (pv 2) (jc (qS zd (yR (pv 1) rfl) (pv 0) (fun _ _=>rfl)) ji))))) ji))))),?_⟩
  try dsimp only[kH]
  have X:Ext Fe H0 Fe H0:=Ext.refl S_;unfold qI at Hm;replace jk:(jA jd).rep K Fe order kC:=jk;obtain rfl:zw=.int bits:=zx;refine(jdz (K:=K) (Q4 (qN (jl Qr (jV (i:=1) rfl) (jz _) rfl)) (qN (kr Qr (kr jgK (jV (i:=1) rfl) (GI Gm (jh (p:=pF (jA jd)) (i:=0) rfl jk) rfl) rfl) (jz _) rfl)) rfl) X Hm ?_ ?_)
  ·intro F H Hm E X
   try dsimp only[wr] at Hm
   exact kf (K:=K) (GB _) X Hm Kk
  ·intro F H Hm E X
   try dsimp only[wk] at Hm
   replace jk:=E.xc jk;refine Gb ?_;exact kf (K:=K) (xy WK (kl (xj (qh (yN (kl (xj (kK (jV (i:=1) rfl) rfl)))) [some kC,some (.int bits)] rfl (fun b6 thing _ _ E5=>yS) (fun b6 thing _ _ E5=>(kL (jV (i:=2) rfl) (jl Js (kT (xV T_Order) (jh (p:=pF (jA jd)) (i:=1) rfl (Cd.mono _ (E5).f jk)) rfl) (jV (i:=0) rfl) rfl) rfl)) rfl))) rfl) X Hm Kk
theorem sc_check_downset:FnScope ["order","bits"] ["order","bits"] (jn (top 25)):=⟨rfl,rfl,rfl,by decide +kernel,rfl,by decide +kernel,by decide +kernel⟩
theorem QB (B:Bi mg) (T_Order:Txt_Order K mg jd) (Fn:Fun K "check_downset" "check_downset" (top 25) f fd) (GZ:Def P w K mg base "is_downset" 3 ["order","bits"] (sp2 K (pF (jA jd)) (pF cI) (rF cB) qI)):FnOk P w K mg base CX0 4 f fd ["order","bits"] (sp2 K (pF (jA jd)) (pF cI) (rF cU) qc):=by
 refine Fn.ok sc_check_downset (fun vs H Q E h=>?_) (fun cdv A outer s H0 vs Q E_ hr h=>?_)
 ·obtain⟨_,_,_,_,_,_,rfl,_⟩:=h;rfl
 ·obtain⟨order,bits,kC,zw,Fe,R,rfl,S_,jk,zx,Hm,Kk⟩:=h;have nd:=sc_check_downset.nd;have hu:=kG hr;refine⟨_,(jo (qB (yq (qW (jU GZ (hr.mono (by decide)) rfl (jc (pv 0) (jc (pv 1) ji))))) (jo JI) kg)),?_⟩
  try dsimp only[kH]
  have X:Ext Fe H0 Fe H0:=Ext.refl S_;unfold qc at Hm;replace jk:(jA jd).rep K Fe order kC:=jk;obtain rfl:zw=.int bits:=zx;refine(jfq (K:=K) (y3 (qR (jI (jh (p:=pF (jA jd)) (i:=0) rfl jk) (jV (i:=1) rfl) rfl)) rfl) X Hm ?_ ?_)
  ·intro F H Hm E X
   try dsimp only[wr] at Hm
   cases Hm
  ·intro F H Hm E X
   try dsimp only[wk] at Hm
   refine Gb ?_;cases Hm;exact Kk _ F H X rfl
theorem sc_is_door:FnScope ["order","bits","thing"] ["order","bits","thing"] (jn (top 26)):=⟨rfl,rfl,rfl,by decide +kernel,rfl,by decide +kernel,by decide +kernel⟩
theorem jaF (B:Bi mg) (T_Order:Txt_Order K mg jd) (Fn:Fun K "is_door" "is_door" (top 26) f fd) (Us:Def P w K mg base "has" 1 ["bits","thing"] (sp2 K (pF cI) (pF cI) (rF cB) Jj)) (xn:Def P w K mg base "holds_all" 1 ["bits","others"] (sp2 K (pF cI) (pF cI) (rF cB) kO)):FnOk P w K mg base CX0 2 f fd ["order","bits","thing"] (sp3 K (pF (jA jd)) (pF cI) (pF cI) (rF cB) zk):=by
 refine Fn.ok sc_is_door (fun vs H Q E h=>?_) (fun cdv A outer s H0 vs Q E_ hr h=>?_)
 ·obtain⟨_,_,_,_,_,_,_,_,rfl,_⟩:=h;rfl
 ·obtain⟨order,bits,thing,kC,zw,xO,Fe,R,rfl,S_,jk,zx,xP,Hm,Kk⟩:=h;have nd:=sc_is_door.nd;have hu:=kG hr;refine⟨_,(jo (j1 (Y2 (jaP (jU Us (hr.mono (by decide)) rfl (jc (pv 1) (jc (pv 2) ji)))) (UI (jU xn (hr.mono (by decide)) rfl (jc (pv 1) (jc (qS zd (yR (pv 0) rfl) (pv 2) (fun _ _=>rfl)) ji))))))),?_⟩
  try dsimp only[kH]
  have X:Ext Fe H0 Fe H0:=Ext.refl S_;unfold zk at Hm;replace jk:(jA jd).rep K Fe order kC:=jk;obtain rfl:zw=.int bits:=zx;obtain rfl:xO=.int thing:=xP;exact kf (K:=K) (Zo (Zn (jI (jV (i:=1) rfl) (jV (i:=2) rfl) rfl) rfl) (kL (jV (i:=1) rfl) (jl Js (kT (xV T_Order) (jh (p:=pF (jA jd)) (i:=0) rfl jk) rfl) (jV (i:=2) rfl) rfl) rfl) rfl) X Hm Kk
theorem sc_set_of:FnScope ["things","bits","thing"] ["things"] (jn (top 22)):=⟨rfl,rfl,rfl,by decide +kernel,rfl,by decide +kernel,by decide +kernel⟩
theorem jcT (B:Bi mg) (Fn:Fun K "set_of" "set_of" (top 22) f fd):FnOk P w K mg base CX0 1 f fd ["things"] (sp1 K (pB cI) (rF cI) y6):=by
 refine Fn.ok sc_set_of (fun vs H Q E h=>?_) (fun cdv A outer s H0 vs Q E_ hr h=>?_)
 ·obtain⟨_,_,_,_,rfl,_⟩:=h;rfl
 ·obtain⟨zJ,Jh,Fe,R,rfl,S_,zK,Hm,Kk⟩:=h;have nd:=sc_set_of.nd;have hu:=kG hr;refine⟨_,(jg (jM (i:=1) nd rfl (Or.inl rfl) jy)
   (jg (kP PassesOwn.never rfl (kN (pv 0)) (jN (i:=2) nd rfl (Or.inl rfl)) (jo (jM (i:=1) nd rfl (Or.inl rfl) (ke jaY (pv 1) (ke jaX jy (pv 2))))))
   (jo (j1 (pv 1))))),?_⟩
  try dsimp only[kH]
  have X:Ext Fe H0 Fe H0:=Ext.refl S_;unfold y6 at Hm;have qJ:Bor K H0 Fe cI zJ Jh:=zK;clear zK;refine(q9 (K:=K) (jz _) X Hm ?_);intro bits F H Hm E X;replace qJ:=E.xb qJ;refine yt (K:=K) (c:=cI) ?_ X Hm (fun F1 bits σ' F' H'=>∃ (w1_:Option V),σ'=[some Jh,some (.int bits),w1_]/\(Ext Fe H0 F' H'/\Same F1 F')) ?_ ?_ ?_ ?_
  ·exact(Gz (i:=0) rfl qJ)
  ·intro F H E X;exact⟨_,rfl,⟨X,(Same.refl _)⟩⟩
  ·rintro F1 bits σ_ F_ H_ ⟨w1_,rfl,⟨X_,SF_⟩⟩;exact⟨X_,SF_⟩
  ·rintro F1 S0_ bits B_ thing xO σ_ F_ H_ F H ⟨w1_,rfl,⟨X,SF_⟩⟩ E xP Hm
   try dsimp only at Hm
   have SL0:=SF_;replace X:=Ext.trans X E;replace SL0:=E.xd SL0;obtain rfl:xO=.int thing:=xP;refine qb ?_;refine(Gi (K:=K) (kr kI (jV (i:=1) rfl) (jl jfm (jz _) (jV (i:=2) rfl) rfl) rfl) X Hm ?_);intro bits F H Hm E X;replace SL0:=E.xd SL0;cases Hm;exact⟨F,_,rfl,⟨X,SL0⟩⟩
  ·rintro F1 S0_ bits σ_ F H Hm ⟨w1_,rfl,⟨X,SF_⟩⟩
   try dsimp only at Hm
   exact kf (K:=K) (jV (i:=1) rfl) X Hm Kk
theorem sc_doors:FnScope ["order","bits"] ["order","bits"] (jn (top 27)):=⟨rfl,rfl,rfl,by decide +kernel,rfl,by decide +kernel,by decide +kernel⟩
theorem jed (B:Bi mg) (T_Order:Txt_Order K mg jd) (Fn:Fun K "doors" "doors" (top 27) f fd) (zz:Def P w K mg base "check_downset" 4 ["order","bits"] (sp2 K (pF (jA jd)) (pF cI) (rF cU) qc)) (qL:Mth P w K mg base jd "size" 1 ["self"] (sp1 K (pF (jA jd)) (rF cI) kF)) (Ut:Def P w K mg base "is_door" 2 ["order","bits","thing"] (sp3 K (pF (jA jd)) (pF cI) (pF cI) (rF cB) zk)) (Wi:Def P w K mg base "set_of" 1 ["things"] (sp1 K (pB cI) (rF cI) y6)):FnOk P w K mg base CX0 5 f fd ["order","bits"] (sp2 K (pF (jA jd)) (pF cI) (rF cI) GO):=by
 refine Fn.ok sc_doors (fun vs H Q E h=>?_) (fun cdv A outer s H0 vs Q E_ hr h=>?_)
 ·obtain⟨_,_,_,_,_,_,rfl,_⟩:=h;rfl
 ·obtain⟨order,bits,kC,zw,Fe,R,rfl,S_,jk,zx,Hm,Kk⟩:=h;have nd:=sc_doors.nd;have hu:=kG hr;refine⟨_,(jg (kZ (jU zz (hr.mono (by decide)) rfl (jc (pv 0) (jc (pv 1) ji))))
   (jo (j1 (jU Wi (hr.mono (by decide)) rfl (jc (qk (own:=["thing"]) (ix:=[0,1]) (qY rfl) rfl (kh rfl B.range_ (jc (Yp qL (hr.mono (by decide)) (pv 0)) ji)) (fun _=>(jN (i:=0) (show List.Nodup (["thing","order","bits"]:List Str) by decide +kernel) rfl (Or.inl rfl))) (fun _=>zS (qW (jU Ut (hr.mono (by decide)) rfl (jc (pv 1) (jc (pv 2) (jc (pv 0) ji)))))) (fun _=>(pv 0))) ji))))),?_⟩
  try dsimp only[kH]
  have X:Ext Fe H0 Fe H0:=Ext.refl S_;unfold GO at Hm;replace jk:(jA jd).rep K Fe order kC:=jk;obtain rfl:zw=.int bits:=zx;refine(Q2 (K:=K) (jI (jh (p:=pF (jA jd)) (i:=0) rfl jk) (jV (i:=1) rfl) rfl) X Hm ?_);intro _ F H Hm E X;replace jk:=E.xc jk;exact kf (K:=K) (US (xj (qh (jbU (GI Gm (jh (p:=pF (jA jd)) (i:=0) rfl jk) rfl) rfl) [some kC,some (.int bits)] rfl (fun b3 thing _ _ E2=>(qR (kQ (jh (p:=pF (jA jd)) (i:=1) rfl (Cd.mono _ (E2).f jk)) (jV (i:=2) rfl) (jV (i:=0) rfl) rfl))) (fun b3 thing _ _ E2=>(jV (i:=0) rfl)) rfl)) rfl) X Hm Kk
theorem sc_great_turn:FnScope ["order","bits","entered","turned","thing"] ["order","bits"] (jn (top 32)):=⟨rfl,rfl,rfl,by decide +kernel,rfl,by decide +kernel,by decide +kernel⟩
theorem V2 (B:Bi mg) (T_Order:Txt_Order K mg jd) (Fn:Fun K "great_turn" "great_turn" (top 32) f fd) (YY:Def P w K mg base "doors" 5 ["order","bits"] (sp2 K (pF (jA jd)) (pF cI) (rF cI) GO)) (yz:Def P w K mg base "things_of" 2 ["bits"] (sp1 K (pF cI) (rO cI) qi)):FnOk P w K mg base CX0 6 f fd ["order","bits"] (sp2 K (pF (jA jd)) (pF cI) (rF cI) xc):=by
 refine Fn.ok sc_great_turn (fun vs H Q E h=>?_) (fun cdv A outer s H0 vs Q E_ hr h=>?_)
 ·obtain⟨_,_,_,_,_,_,rfl,_⟩:=h;rfl
 ·obtain⟨order,bits,kC,zw,Fe,R,rfl,S_,jk,zx,Hm,Kk⟩:=h;have nd:=sc_great_turn.nd;have hu:=kG hr;refine⟨_,(jg (jM (i:=2) nd rfl (Or.inl rfl) (jU YY (hr.mono (by decide)) rfl (jc (pv 0) (jc (pv 1) ji))))
   (jg (jM (i:=3) nd rfl (Or.inl rfl) (pv 2))
   (jg (kP PassesOwn.never rfl (kN (jU yz (hr.mono (by decide)) rfl (jc (pv 2) ji))) (jN (i:=4) nd rfl (Or.inl rfl)) (jo (jM (i:=3) nd rfl (Or.inl rfl) (ke jaY (pv 3) (qS zd (yR (pv 0) rfl) (pv 4) (fun _ _=>rfl))))))
   (jo (j1 (pv 3)))))),?_⟩
  try dsimp only[kH]
  have X:Ext Fe H0 Fe H0:=Ext.refl S_;unfold xc at Hm;replace jk:(jA jd).rep K Fe order kC:=jk;obtain rfl:zw=.int bits:=zx;refine(q9 (K:=K) (jI (jh (p:=pF (jA jd)) (i:=0) rfl jk) (jV (i:=1) rfl) rfl) X Hm ?_);intro entered F H Hm E X;replace jk:=E.xc jk;refine(q9 (K:=K) (jV (i:=2) rfl) X Hm ?_);intro turned F H Hm E X;replace jk:=E.xc jk;refine Ji (K:=K) (c:=cI) ?_ X Hm (fun F1 turned σ' F' H'=>∃ (w1_:Option V),σ'=[some kC,some (.int bits),some (.int entered),some (.int turned),w1_]/\(Ext Fe H0 F' H'/\Same F1 F')) ?_ ?_ ?_ ?_
  ·exact(Q1 (qZ (kK (jV (i:=2) rfl) rfl)))
  ·intro F H E X;exact⟨_,rfl,⟨X,(Same.refl _)⟩⟩
  ·rintro F1 turned σ_ F_ H_ ⟨w1_,rfl,⟨X_,SF_⟩⟩;exact⟨X_,SF_⟩
  ·rintro F1 S0_ turned B_ thing xO σ_ F_ H_ F H ⟨w1_,rfl,⟨X,SF_⟩⟩ E xP Hm
   try dsimp only at Hm
   have SL0:=SF_;replace SF_:=Same.trans S0_ SF_;replace jk:=Cd.mono _ SF_ jk;replace X:=Ext.trans X E;replace jk:=E.xc jk;replace SL0:=E.xd SL0;obtain rfl:xO=.int thing:=xP;refine qb ?_;refine(Gi (K:=K) (kr kI (jV (i:=3) rfl) (jl Js (kT (xV T_Order) (jh (p:=pF (jA jd)) (i:=0) rfl jk) rfl) (jV (i:=4) rfl) rfl) rfl) X Hm ?_);intro turned F H Hm E X;replace SL0:=E.xd SL0;cases Hm;exact⟨F,_,rfl,⟨X,SL0⟩⟩
  ·rintro F1 S0_ turned σ_ F H Hm ⟨w1_,rfl,⟨X,SF_⟩⟩
   try dsimp only at Hm
   exact kf (K:=K) (jV (i:=3) rfl) X Hm Kk
theorem sc_Great_done:FnScope ["self","one"] ["self","one"] (jn ((jH (top 37) 0))):=⟨rfl,rfl,rfl,by decide +kernel,rfl,by decide +kernel,by decide +kernel⟩
theorem V3 (B:Bi mg) (T_Great:Txt_Great K mg j7) (T_Order:Txt_Order K mg jd) (Fn:Fun K "done" "Great.done" ((jH (top 37) 0)) f fd) (G0:Def P w K mg base "great_turn" 6 ["order","bits"] (sp2 K (pF (jA jd)) (pF cI) (rF cI) xc)):FnOk P w K mg base CX0 7 f fd ["self","one"] (sp2 K (pF (xz jd j7)) (pF cI) (rF cI) qt):=by
 refine Fn.ok sc_Great_done (fun vs H Q E h=>?_) (fun cdv A outer s H0 vs Q E_ hr h=>?_)
 ·obtain⟨_,_,_,_,_,_,rfl,_⟩:=h;rfl
 ·obtain⟨self,one,yK,qj,Fe,R,rfl,S_,j2,jC,Hm,Kk⟩:=h;have nd:=sc_Great_done.nd;have hu:=kG hr;refine⟨_,(jo (j1 (jU G0 (hr.mono (by decide)) rfl (jc (yR (pv 0) rfl) (jc (pv 1) ji))))),?_⟩
  try dsimp only[kH]
  have X:Ext Fe H0 Fe H0:=Ext.refl S_;unfold qt at Hm;replace j2:(xz jd j7).rep K Fe self yK:=j2;obtain rfl:qj=.int one:=jC;exact kf (K:=K) (jI (kT (Uf T_Great) (jh (p:=pF (xz jd j7)) (i:=0) rfl j2) rfl) (jV (i:=1) rfl) rfl) X Hm Kk
theorem sc_round_of:FnScope ["turn","one","circle","following"] ["turn","one"] (jn (top 2)):=⟨rfl,rfl,rfl,by decide +kernel,rfl,by decide +kernel,by decide +kernel⟩
theorem YV (B:Bi mg) (T_Great:Txt_Great K mg j7) (T_Order:Txt_Order K mg jd) (Fn:Fun K "round_of" "round_of" (top 2) f fd) (zL:Mth P w K mg base j7 "done" 7 ["self","one"] (sp2 K (pF (xz jd j7)) (pF cI) (rF cI) qt)):FnOk P w K mg base CX0 8 f fd ["turn","one"] (sp2 K (pF (xz jd j7)) (pF cI) (rO cI) xw):=by
 refine Fn.ok sc_round_of (fun vs H Q E h=>?_) (fun cdv A outer s H0 vs Q E_ hr h=>?_)
 ·obtain⟨_,_,_,_,_,_,rfl,_⟩:=h;rfl
 ·obtain⟨turn,one,zA,qj,Fe,R,rfl,S_,jB,jC,Hm,Kk⟩:=h;have nd:=sc_round_of.nd;have hu:=kG hr;refine⟨_,(jg (jM (i:=2) nd rfl (Or.inl rfl) (qC (jc (pv 1) ji)))
   (jg (jM (i:=3) nd rfl (Or.inl rfl) (zD zL (hr.mono (by decide)) (pv 0) (jc (pv 1) ji)))
   (jg (Jd PassesOwn.never (kq jgz (pv 3) (pv 1) (kD _)) (jg (kZ (zR Xx Xz Xy kJ (pv 2) (jc (pv 3) ji)))
   (jo (jM (i:=3) nd rfl (Or.inl rfl) (zD zL (hr.mono (by decide)) (pv 0) (jc (pv 3) ji))))))
   (jo (j1 (pv 2)))))),?_⟩
  try dsimp only[kH]
  have X:Ext Fe H0 Fe H0:=Ext.refl S_;unfold xw at Hm;replace jB:(xz jd j7).rep K Fe turn zA:=jB;obtain rfl:qj=.int one:=jC;refine(x5 (K:=K) (qE (jJ (jV (i:=1) rfl) (qr (c:=cI)) rfl) (by decide)) X Hm ?_);intro circle xo F H Hm E X Hn kj;replace jB:=E.xc jB;refine(q9 (K:=K) (kE JV (jh (p:=pF (xz jd j7)) (i:=0) rfl jB) (jV (i:=1) rfl) rfl) X Hm ?_);intro following F H Hm E X;replace jB:=E.xc jB;replace kj:=kj.mono E;refine Qc (K:=K) X Hm (fun F1 b σ' F' H'=>match b with | (circle,following)=>∃ (xo:Addr),σ'=[some zA,some (.int one),some (.ref xo),some (.int following)]/\(Ext Fe H0 F' H'/\Same F1 F')/\Own K H0 F' H' cI circle xo) ?_ ?_ ?_ ?_ ?_
  ·exact⟨_,rfl,⟨X,(Same.refl _)⟩,kj⟩
  ·rintro F1 ⟨circle,following⟩ σ_ F_ H_ ⟨xo,rfl,⟨X_,SF_⟩,kj⟩;exact⟨X_,SF_⟩
  ·rintro⟨circle,following⟩ σ_ F H ⟨xo,rfl,⟨X,SF_⟩,kj⟩;exact(qN (jl jgL (jV (i:=3) rfl) (jV (i:=1) rfl) rfl))
  ·rintro⟨circle,following⟩ B_ σ_ F_ H_ F H ⟨xo,rfl,⟨X,SF_⟩,kj⟩ E Hm
   try dsimp only at Hm
   have SL0:=SF_;replace jB:=Cd.mono _ SF_ jB;replace X:=Ext.trans X E;replace jB:=E.xc jB;replace kj:=kj.mono E;replace SL0:=E.xd SL0;refine(y9 (K:=K) (k':=2) rfl kj (jV (i:=3) rfl) X Hm ?_);intro circle F H Hm Cg X kj;replace jB:=Cd.mono _ Cg.f jB;replace SL0:=Same.trans SL0 Cg.f;refine(Gi (K:=K) (kE JV (jh (p:=pF (xz jd j7)) (i:=0) rfl jB) (jV (i:=3) rfl) rfl) X Hm ?_);intro following F H Hm E X;replace kj:=kj.mono E;replace SL0:=E.xd SL0;cases Hm;exact⟨F,_,rfl,⟨X,SL0⟩,kj⟩
  ·rintro⟨circle,following⟩ σ_ F_ H_ F H ⟨xo,rfl,⟨X,SF_⟩,kj⟩ E Hm
   try dsimp only at Hm
   replace X:=Ext.trans X E;replace kj:=kj.mono E;exact ze (K:=K) (i:=2) rfl kj X Hm Kk
theorem sc_all_rounds:FnScope ["turn","ones","found","gone_through","one","circle","other"] ["turn","ones"] (jn (top 3)):=⟨rfl,rfl,rfl,by decide +kernel,rfl,by decide +kernel,by decide +kernel⟩
theorem V4 (B:Bi mg) (T_Great:Txt_Great K mg j7) (T_Order:Txt_Order K mg jd) (Fn:Fun K "all_rounds" "all_rounds" (top 3) f fd) (Qm:Def P w K mg base "round_of" 8 ["turn","one"] (sp2 K (pF (xz jd j7)) (pF cI) (rO cI) xw)):FnOk P w K mg base CX0 9 f fd ["turn","ones"] (sp2 K (pF (xz jd j7)) (pB cI) (rN cI) xf):=by
 refine Fn.ok sc_all_rounds (fun vs H Q E h=>?_) (fun cdv A outer s H0 vs Q E_ hr h=>?_)
 ·obtain⟨_,_,_,_,_,_,rfl,_⟩:=h;rfl
 ·obtain⟨turn,ones,zA,qA,Fe,R,rfl,S_,jB,jF,Hm,Kk⟩:=h;have nd:=sc_all_rounds.nd;have hu:=kG hr;refine⟨_,(jg (jM (i:=2) nd rfl (Or.inl rfl) (qC ji))
   (jg (jM (i:=3) nd rfl (Or.inl rfl) Gk)
   (jg (kP PassesOwn.never rfl (kN (pv 1)) (jN (i:=4) nd rfl (Or.inl rfl)) (jo (Gy (qB (jeg (WS (hu1 hu) (pv 4) (pv 3)) (by with_unfolding_all rfl)) (jg (jM (i:=5) nd rfl (Or.inl rfl) (jU Qm (hr.mono (by decide)) rfl (jc (pv 0) (jc (pv 4) ji))))
   (jg (kZ (zR Xx Xz Xy kJ (pv 2) (jc (pv 5) ji)))
   (jo (kP PassesOwn.never rfl (kN (pv 5)) (jN (i:=6) nd rfl (Or.inl rfl)) (jo (GJ (hu1 hu) (pv 3) (pv 6) GA rfl)))))) kg))))
   (jo (j1 (pv 2)))))),?_⟩
  try dsimp only[kH]
  have X:Ext Fe H0 Fe H0:=Ext.refl S_;unfold xf at Hm;replace jB:(xz jd j7).rep K Fe turn zA:=jB;have jt:Bor K H0 Fe cI ones qA:=jF;clear jF;refine(x5 (K:=K) (qE (qr (c:=(cLn H0 cI))) (by decide)) X Hm ?_);intro found js F H Hm E X Hn O_found;replace jB:=E.xc jB;replace jt:=E.xb jt;refine(Ub (K:=K) (Jv (κ:=Int) (c:=cB)) X Hm ?_);intro gone_through jv F H Hm E X Hn O_gone_through;have jm:=Own.ne O_found Hn;have j0:=Ne.symm jm;replace jB:=E.xc jB;replace jt:=E.xb jt;replace O_found:=O_found.mono E;refine yt (K:=K) (c:=cI) ?_ X Hm (fun F1 b σ' F' H'=>match b with | (found,gone_through)=>∃ (js:Addr) (jv:Addr) (w1_:Option V) (w2_:Option V) (w3_:Option V),σ'=[some zA,some qA,some (.ref js),some (.ref jv),w1_,w2_,w3_]/\(Ext Fe H0 F' H'/\Same F1 F')/\Own K H0 F' H' (cLn H0 cI) found js/\OwnD K H0 F' H' cB gone_through jv/\js≠jv) ?_ ?_ ?_ ?_
  ·exact(Gz (i:=1) rfl jt)
  ·intro F H E X;replace O_found:=O_found.mono E;replace O_gone_through:=O_gone_through.mono E;exact⟨_,_,_,_,_,rfl,⟨X,(Same.refl _)⟩,O_found,O_gone_through,jm⟩
  ·rintro F1 ⟨found,gone_through⟩ σ_ F_ H_ ⟨js,jv,w1_,w2_,w3_,rfl,⟨X_,SF_⟩,O_found,O_gone_through,jm⟩;exact⟨X_,SF_⟩
  ·rintro F1 S0_ ⟨found,gone_through⟩ B_ one qj σ_ F_ H_ F H ⟨js,jv,w1_,w2_,w3_,rfl,⟨X,SF_⟩,O_found,O_gone_through,jm⟩ E jC Hm
   try dsimp only at Hm
   have SL0:=SF_;replace SF_:=Same.trans S0_ SF_;replace jB:=Cd.mono _ SF_ jB;have j0:=Ne.symm jm;replace X:=Ext.trans X E;replace jB:=E.xc jB;replace O_found:=O_found.mono E;replace O_gone_through:=O_gone_through.mono E;replace SL0:=E.xd SL0;obtain rfl:qj=.int one:=jC;refine qb ?_;refine(Q0 (K:=K) (fun b σ' H'=>∃ F':Hp,match b with | (found,gone_through)=>∃ (js:Addr) (jv:Addr) (w9_:Option V) (w10_:Option V),σ'=[some zA,some qA,some (.ref js),some (.ref jv),some (.int one),w9_,w10_]/\(Ext Fe H0 F' H'/\Same F F')/\Own K H0 F' H' (cLn H0 cI) found js/\OwnD K H0 F' H' cB gone_through jv/\js≠jv) (qR (jaj (jV (i:=4) rfl) (jh (p:=pD (κ:=Int) cB) (i:=3) rfl O_gone_through.b) rfl)) X Hm ?_ ?_ ?_)
   ·intro B_ F H Hm E X;replace jB:=E.xc jB;replace O_found:=O_found.mono E;replace O_gone_through:=O_gone_through.mono E;have SJ1:=E.f;refine(jeO (K:=K) (c:=cI) (jI (jh (p:=pF (xz jd j7)) (i:=0) rfl jB) (jV (i:=4) rfl) rfl) X Hm ?_);intro circle qm F H Hm E X jE;replace O_found:=O_found.mono E;replace O_gone_through:=O_gone_through.mono E;replace SJ1:=E.xd SJ1;refine(y9 (K:=K) (k':=2) rfl O_found (jh (p:=pF (cLn H0 cI)) (i:=5) rfl jE) X Hm ?_);intro found F H Hm Cg X O_found;replace O_gone_through:=OwnD.chg O_gone_through Cg j0;replace jE:=Cd.mono _ Cg.f jE;replace SJ1:=Same.trans SJ1 Cg.f;refine Vp (K:=K) (c:=cI) ?_ X Hm (fun F1 gone_through σ' F' H'=>∃ (jv:Addr) (w5_:Option V),σ'=[some zA,some qA,some (.ref js),some (.ref jv),some (.int one),some qm,w5_]/\(Ext Fe H0 F' H'/\Same F1 F')/\Own K H0 F' H' (cLn H0 cI) found js/\OwnD K H0 F' H' cB gone_through jv/\js≠jv) ?_ ?_ ?_ ?_
    ·exact(Q1 (jhh (jh (p:=pF (cLn H0 cI)) (i:=5) rfl jE)))
    ·intro F H E X;replace O_found:=O_found.mono E;replace O_gone_through:=O_gone_through.mono E;exact⟨_,_,rfl,⟨X,(Same.refl _)⟩,O_found,O_gone_through,jm⟩
    ·rintro F1 gone_through σ_ F_ H_ ⟨jv,w5_,rfl,⟨X_,SF_⟩,O_found,O_gone_through,jm⟩;exact⟨X_,SF_⟩
    ·rintro F1 S0_ gone_through B_ other Wg σ_ F_ H_ F H ⟨jv,w5_,rfl,⟨X,SF_⟩,O_found,O_gone_through,jm⟩ E GU Hm
     try dsimp only at Hm
     have SL2:=SF_;have j0:=Ne.symm jm;replace X:=Ext.trans X E;replace O_found:=O_found.mono E;replace O_gone_through:=O_gone_through.mono E;replace SL2:=E.xd SL2;obtain rfl:Wg=.int other:=GU;refine qb ?_;refine(Jw (K:=K) (k':=3) rfl O_gone_through (GB _) (jV (i:=6) rfl) X Hm ?_);intro gone_through F H Hm Cg X O_gone_through;replace O_found:=Own.chg O_found Cg jm;replace SL2:=Same.trans SL2 Cg.f;cases Hm;exact⟨F,_,_,rfl,⟨X,SL2⟩,O_found,O_gone_through,jm⟩
    ·rintro F1 S0_ gone_through σ_ F H Hm ⟨jv,w5_,rfl,⟨X,SF_⟩,O_found,O_gone_through,jm⟩
     try dsimp only at Hm
     replace SF_:=Same.trans S0_ SF_;replace SJ1:=Same.trans SJ1 SF_;have j0:=Ne.symm jm;cases Hm;exact⟨F,_,_,_,_,rfl,⟨X,SJ1⟩,O_found,O_gone_through,jm⟩
   ·intro B_ F H Hm E X;replace O_found:=O_found.mono E;replace O_gone_through:=O_gone_through.mono E;have SJ1:=E.f;refine Gb ?_;cases Hm;exact⟨F,_,_,_,_,rfl,⟨X,SJ1⟩,O_found,O_gone_through,jm⟩
   ·rintro⟨found,gone_through⟩ σ_ H Hm ⟨F,js,jv,w9_,w10_,rfl,⟨X,SF_⟩,O_found,O_gone_through,jm⟩
    try dsimp only at Hm
    replace SL0:=Same.trans SL0 SF_;have j0:=Ne.symm jm;cases Hm;exact⟨F,_,_,_,_,_,rfl,⟨X,SL0⟩,O_found,O_gone_through,jm⟩
  ·rintro F1 S0_ ⟨found,gone_through⟩ σ_ F H Hm ⟨js,jv,w1_,w2_,w3_,rfl,⟨X,SF_⟩,O_found,O_gone_through,jm⟩
   try dsimp only at Hm
   have j0:=Ne.symm jm;exact jcp (K:=K) (i:=2) rfl O_found X Hm Kk
theorem sc__law_whole:FnScope ["_law_found"] ["_law_found"] (jn (top 43)):=⟨rfl,rfl,rfl,by decide +kernel,rfl,by decide +kernel,by decide +kernel⟩
theorem V5 (B:Bi mg) (Fn:Fun K "_law_whole" "_law_whole" (top 43) f fd):FnOk P w K mg base CX0 1 f fd ["_law_found"] (sp1 K (pF cI) (rF cB) Jy):=by
 refine Fn.ok sc__law_whole (fun vs H Q E h=>?_) (fun cdv A outer s H0 vs Q E_ hr h=>?_)
 ·obtain⟨_,_,_,_,rfl,_⟩:=h;rfl
 ·obtain⟨found,ql,Fe,R,rfl,S_,jp,Hm,Kk⟩:=h;have nd:=sc__law_whole.nd;have hu:=kG hr;refine⟨_,(jo (j1 (Y2 (jP yY rfl B.isinstance_ (by kernel_rfl) (jc (pv 0) (jc (Gg (v:=.ty "int") rfl B.int_ (by kernel_rfl) rfl) ji))) (UI (jaP (jP yY rfl B.isinstance_ (by kernel_rfl) (jc (pv 0) (jc (Gg (v:=.ty "bool") rfl B.bool_ (by kernel_rfl) rfl) ji)))))))),?_⟩
  try dsimp only[kH]
  have X:Ext Fe H0 Fe H0:=Ext.refl S_;unfold Jy at Hm;obtain rfl:ql=.int found:=jp;exact kf (K:=K) (jab (xU (b:=true) (fun u h=>h) jeA (by first | rfl | with_unfolding_all rfl) (jV (i:=0) rfl) rfl) (jaa (xU (b:=false) (fun u h=>h) jeA (by first | rfl | with_unfolding_all rfl) (jV (i:=0) rfl) rfl) rfl) rfl) X Hm Kk
theorem sc__law_kind_right:FnScope ["_law_circle","_law_which"] ["_law_circle","_law_which"] (jn (top 61)):=⟨rfl,rfl,rfl,by decide +kernel,rfl,by decide +kernel,by decide +kernel⟩
theorem J4 (B:Bi mg) (Fn:Fun K "_law_kind_right" "_law_kind_right" (top 61) f fd) (G1:Def P w K mg base "_law_whole" 1 ["_law_found"] (sp1 K (pF cI) (rF cB) Jy)):FnOk P w K mg base CX0 2 f fd ["_law_circle","_law_which"] (sp2 K (pB cI) (pF cI) (rF cB) xI):=by
 refine Fn.ok sc__law_kind_right (fun vs H Q E h=>?_) (fun cdv A outer s H0 vs Q E_ hr h=>?_)
 ·obtain⟨_,_,_,_,_,_,rfl,_⟩:=h;rfl
 ·obtain⟨circle,which,qm,xl,Fe,R,rfl,S_,jE,xm,Hm,Kk⟩:=h;have nd:=sc__law_kind_right.nd;have hu:=kG hr;refine⟨_,(jg (qB (yq (qW (jP yY rfl B.isinstance_ (by kernel_rfl) (jc (pv 0) (jc (Gg (v:=.ty "list") rfl B.list_ (by kernel_rfl) rfl) ji))))) (jo (j1 GA)) kg)
   (jg (qB (kq yW (pv 1) jy (kD _)) (jo (j1 (jP (zC rfl) rfl B.all_ (by kernel_rfl) (jc (qk (own:=["_law_one"]) (ix:=[]) (qY rfl) rfl (kN (pv 0)) (fun _=>(jN (i:=0) (show List.Nodup (["_law_one"]:List Str) by decide +kernel) rfl (Or.inl rfl))) (fun _=>xZ) (fun _=>(jU G1 (hr.mono (by decide)) rfl (jc (pv 0) ji)))) ji)))) kg) QL)),?_⟩
  try dsimp only[kH]
  have X:Ext Fe H0 Fe H0:=Ext.refl S_;unfold xI at Hm;have kY:Bor K H0 Fe cI circle qm:=jE;clear jE;obtain rfl:xl=.int which:=xm;refine(Ga (K:=K) (xT (qR (xU (b:=true) (fun u h=>h) Vn (by first | rfl | with_unfolding_all rfl) (jdp (jh (p:=pB cI) (i:=0) rfl (Bor.b kY X))) rfl)) rfl) X Hm ?_ ?_)
  ·intro F H Hc Hm E X;exact kf (K:=K) (GB _) X Hm Kk
  ·intro F H Hc Hm E X;replace kY:=E.xb kY;refine Gb ?_;refine(Ga (K:=K) (qN (jl y0 (jV (i:=1) rfl) (jz _) rfl)) X Hm ?_ ?_)
   ·intro F H Hc Hm E X;replace kY:=E.xb kY;exact kf (K:=K) (xy WK (kl (xj (yH (yN (kl (jh (p:=pB cI) (i:=0) rfl (Bor.b kY X)))) [] rfl (fun b2 one _ _ E1=>yS) (fun b2 one _ _ E1=>(kK (jV (i:=0) rfl) rfl)) rfl))) rfl) X Hm Kk
   ·intro F H Hc Hm E X;cases Hm
theorem sc_lengths:FnScope ["rounds","counts","circle"] ["rounds"] (jn (top 4)):=⟨rfl,rfl,rfl,by decide +kernel,rfl,by decide +kernel,by decide +kernel⟩
theorem jaG (B:Bi mg) (Fn:Fun K "lengths" "lengths" (top 4) f fd):FnOk P w K mg base CX0 1 f fd ["rounds"] (sp1 K (pB (cL cI)) (rD (κ:=Int) cI) x8):=by
 refine Fn.ok sc_lengths (fun vs H Q E h=>?_) (fun cdv A outer s H0 vs Q E_ hr h=>?_)
 ·obtain⟨_,_,_,_,rfl,_⟩:=h;rfl
 ·obtain⟨rounds,ym,Fe,R,rfl,S_,yn,Hm,Kk⟩:=h;have nd:=sc_lengths.nd;have hu:=kG hr;refine⟨_,(jg (jM (i:=1) nd rfl (Or.inl rfl) Gk)
   (jg (kP PassesOwn.never rfl (kN (pv 0)) (jN (i:=2) nd rfl (Or.inl rfl)) (jo (GJ (hu1 hu) (pv 1) (jP jQ rfl B.len_ (by kernel_rfl) (jc (pv 2) ji)) (ke xD (QE (hu1 hu) (pv 1) (jP jQ rfl B.len_ (by kernel_rfl) (jc (pv 2) ji)) jy ⟨rfl,rfl,rfl,rfl⟩) jy) rfl)))
   (jo (j1 (pv 1))))),?_⟩
  try dsimp only[kH]
  have X:Ext Fe H0 Fe H0:=Ext.refl S_;unfold x8 at Hm;have jO:Bor K H0 Fe (cL cI) rounds ym:=yn;clear yn;refine(Ub (K:=K) (Jv (κ:=Int) (c:=cI)) X Hm ?_);intro counts xW F H Hm E X Hn O_counts;replace jO:=E.xb jO;refine yt (K:=K) (c:=(cL cI)) ?_ X Hm (fun F1 counts σ' F' H'=>∃ (xW:Addr) (w1_:Option V),σ'=[some ym,some (.ref xW),w1_]/\(Ext Fe H0 F' H'/\Same F1 F')/\OwnD K H0 F' H' cI counts xW) ?_ ?_ ?_ ?_
  ·exact(Gz (i:=0) rfl jO)
  ·intro F H E X;replace O_counts:=O_counts.mono E;exact⟨_,_,rfl,⟨X,(Same.refl _)⟩,O_counts⟩
  ·rintro F1 counts σ_ F_ H_ ⟨xW,w1_,rfl,⟨X_,SF_⟩,O_counts⟩;exact⟨X_,SF_⟩
  ·rintro F1 S0_ counts B_ circle qm σ_ F_ H_ F H ⟨xW,w1_,rfl,⟨X,SF_⟩,O_counts⟩ E jE Hm
   try dsimp only at Hm
   have SL0:=SF_;replace X:=Ext.trans X E;replace O_counts:=O_counts.mono E;replace SL0:=E.xd SL0;refine qb ?_;refine(Jw (K:=K) (k':=1) rfl O_counts (jl kI (zG (jh (p:=pD (κ:=Int) cI) (i:=1) rfl O_counts.b) (jL xY (kl (kW (jh (p:=pF (cL cI)) (i:=2) rfl jE))) rfl) (jz _) rfl) (jz _) rfl) (jL xY (kl (kW (jh (p:=pF (cL cI)) (i:=2) rfl jE))) rfl) X Hm ?_);intro counts F H Hm Cg X O_counts;replace SL0:=Same.trans SL0 Cg.f;cases Hm;exact⟨F,_,_,rfl,⟨X,SL0⟩,O_counts⟩
  ·rintro F1 S0_ counts σ_ F H Hm ⟨xW,w1_,rfl,⟨X,SF_⟩,O_counts⟩
   try dsimp only at Hm
   exact Vu (K:=K) (i:=1) rfl O_counts X Hm Kk
theorem sc__law_lengths_due:FnScope ["_law_rounds","_law_due_here","_law_circle"] ["_law_rounds"] (jn (top 59)):=⟨rfl,rfl,rfl,by decide +kernel,rfl,by decide +kernel,by decide +kernel⟩
theorem JB (B:Bi mg) (Fn:Fun K "_law_lengths_due" "_law_lengths_due" (top 59) f fd):FnOk P w K mg base CX0 1 f fd ["_law_rounds"] (sp1 K (pB (cL cI)) (rD (κ:=Int) cI) xk):=by
 refine Fn.ok sc__law_lengths_due (fun vs H Q E h=>?_) (fun cdv A outer s H0 vs Q E_ hr h=>?_)
 ·obtain⟨_,_,_,_,rfl,_⟩:=h;rfl
 ·obtain⟨rounds,ym,Fe,R,rfl,S_,yn,Hm,Kk⟩:=h;have nd:=sc__law_lengths_due.nd;have hu:=kG hr;refine⟨_,(jg (jM (i:=1) nd rfl (Or.inl rfl) Gk)
   (jg (kP PassesOwn.never rfl (kN (pv 0)) (jN (i:=2) nd rfl (Or.inl rfl)) (jo (GJ (hu1 hu) (pv 1) (jP jQ rfl B.len_ (by kernel_rfl) (jc (pv 2) ji)) (ke xD (QE (hu1 hu) (pv 1) (jP jQ rfl B.len_ (by kernel_rfl) (jc (pv 2) ji)) jy ⟨rfl,rfl,rfl,rfl⟩) jy) rfl)))
   (jo (j1 (pv 1))))),?_⟩
  try dsimp only[kH]
  have X:Ext Fe H0 Fe H0:=Ext.refl S_;unfold xk at Hm;have jO:Bor K H0 Fe (cL cI) rounds ym:=yn;clear yn;refine(Ub (K:=K) (Jv (κ:=Int) (c:=cI)) X Hm ?_);intro due_here qw F H Hm E X Hn O_due_here;replace jO:=E.xb jO;refine yt (K:=K) (c:=(cL cI)) ?_ X Hm (fun F1 due_here σ' F' H'=>∃ (qw:Addr) (w1_:Option V),σ'=[some ym,some (.ref qw),w1_]/\(Ext Fe H0 F' H'/\Same F1 F')/\OwnD K H0 F' H' cI due_here qw) ?_ ?_ ?_ ?_
  ·exact(Gz (i:=0) rfl jO)
  ·intro F H E X;replace O_due_here:=O_due_here.mono E;exact⟨_,_,rfl,⟨X,(Same.refl _)⟩,O_due_here⟩
  ·rintro F1 due_here σ_ F_ H_ ⟨qw,w1_,rfl,⟨X_,SF_⟩,O_due_here⟩;exact⟨X_,SF_⟩
  ·rintro F1 S0_ due_here B_ circle qm σ_ F_ H_ F H ⟨qw,w1_,rfl,⟨X,SF_⟩,O_due_here⟩ E jE Hm
   try dsimp only at Hm
   have SL0:=SF_;replace X:=Ext.trans X E;replace O_due_here:=O_due_here.mono E;replace SL0:=E.xd SL0;refine qb ?_;refine(Jw (K:=K) (k':=1) rfl O_due_here (jl kI (zG (jh (p:=pD (κ:=Int) cI) (i:=1) rfl O_due_here.b) (jL xY (kl (kW (jh (p:=pF (cL cI)) (i:=2) rfl jE))) rfl) (jz _) rfl) (jz _) rfl) (jL xY (kl (kW (jh (p:=pF (cL cI)) (i:=2) rfl jE))) rfl) X Hm ?_);intro due_here F H Hm Cg X O_due_here;replace SL0:=Same.trans SL0 Cg.f;cases Hm;exact⟨F,_,_,rfl,⟨X,SL0⟩,O_due_here⟩
  ·rintro F1 S0_ due_here σ_ F H Hm ⟨qw,w1_,rfl,⟨X,SF_⟩,O_due_here⟩
   try dsimp only at Hm
   exact Vu (K:=K) (i:=1) rfl O_due_here X Hm Kk
theorem sc__law_stirred_2:FnScope ["_law_ones","_law_cell","_law_left","_law_made","_law_k"] ["_law_ones","_law_cell"] (jn (top 57)):=⟨rfl,rfl,rfl,by decide +kernel,rfl,by decide +kernel,by decide +kernel⟩
theorem Qj (B:Bi mg) (Fn:Fun K "_law_stirred" "_law_stirred" (top 57) f fd):FnOk P w K mg base CX0 1 f fd ["_law_ones","_law_cell"] (sp2 K (pB (cT cI)) (pF cI) (rO (cT cI)) yb):=by
 refine Fn.ok sc__law_stirred_2 (fun vs H Q E h=>?_) (fun cdv A outer s H0 vs Q E_ hr h=>?_)
 ·obtain⟨_,_,_,_,_,_,rfl,_⟩:=h;rfl
 ·obtain⟨ones,cell,qA,jcX,Fe,R,rfl,S_,jF,jcY,Hm,Kk⟩:=h;have nd:=sc__law_stirred_2.nd;have hu:=kG hr;refine⟨_,(jg (jM (i:=2) nd rfl (Or.inl rfl) (qD qX rfl B.list_ (by kernel_rfl) (jc (pv 0) ji)))
   (jg (jM (i:=3) nd rfl (Or.inl rfl) (qC ji))
   (jg (kP PassesOwn.never rfl (kh rfl B.range_ (jc (jP jQ rfl B.len_ (by kernel_rfl) (jc (pv 0) ji)) ji)) (jN (i:=4) nd rfl (Or.inl rfl)) (jg (jM (i:=1) nd rfl (Or.inl rfl) (ke xX (ke Wv (ke xD (ke xX (pv 1) jy) jy) jy) jy))
   (jo (kZ (zR Xx Xz Xy kJ (pv 3) (jc (zR Xx PySem.F.slot_list_pop PySem.F.type_list_pop Y8 (pv 2) (jc (ke xX (pv 1) (jP jQ rfl B.len_ (by kernel_rfl) (jc (pv 2) ji))) ji)) ji))))))
   (jo (j1 (pv 3)))))),?_⟩
  try dsimp only[kH]
  have X:Ext Fe H0 Fe H0:=Ext.refl S_;unfold yb at Hm;have jt:Bor K H0 Fe (cT cI) ones qA:=jF;clear jF;obtain rfl:jcX=.int cell:=jcY;refine(x5 (K:=K) (jL Qb (kl (jh (p:=pB (cT cI)) (i:=0) rfl (Bor.b jt X))) rfl) X Hm ?_);intro left zu F H Hm E X Hn O_left;replace jt:=E.xb jt;refine(x5 (K:=K) (qE (qr (c:=(cT cI))) (by decide)) X Hm ?_);intro made zv F H Hm E X Hn qK;have kB:=Own.ne O_left Hn;have yd:=Ne.symm kB;replace jt:=E.xb jt;replace O_left:=O_left.mono E;refine Ji (K:=K) (c:=cI) ?_ X Hm (fun F1 b σ' F' H'=>match b with | (cell,left,made)=>∃ (zu:Addr) (zv:Addr) (w1_:Option V),σ'=[some qA,some (.int cell),some (.ref zu),some (.ref zv),w1_]/\(Ext Fe H0 F' H'/\Same F1 F')/\Own K H0 F' H' (cT cI) left zu/\Own K H0 F' H' (cT cI) made zv/\zu≠zv) ?_ ?_ ?_ ?_
  ·exact(kA (jL xY (kl (jh (p:=pB (cT cI)) (i:=0) rfl (Bor.b jt X))) rfl) rfl)
  ·intro F H E X;replace O_left:=O_left.mono E;replace qK:=qK.mono E;exact⟨_,_,_,rfl,⟨X,(Same.refl _)⟩,O_left,qK,kB⟩
  ·rintro F1 ⟨cell,left,made⟩ σ_ F_ H_ ⟨zu,zv,w1_,rfl,⟨X_,SF_⟩,O_left,qK,kB⟩;exact⟨X_,SF_⟩
  ·rintro F1 S0_ ⟨cell,left,made⟩ B_ k_ V_k_ σ_ F_ H_ F H ⟨zu,zv,w1_,rfl,⟨X,SF_⟩,O_left,qK,kB⟩ E P_k_ Hm
   try dsimp only at Hm
   have SL0:=SF_;have yd:=Ne.symm kB;replace X:=Ext.trans X E;replace O_left:=O_left.mono E;replace qK:=qK.mono E;replace SL0:=E.xd SL0;obtain rfl:V_k_=.int k_:=P_k_;refine qb ?_;refine(q9 (K:=K) (xF (by decide) (Gj ⟨by decide,by decide⟩ (jl kI (xF (by decide) (jV (i:=1) rfl) (jz _) rfl) (jz _) rfl) (jz _) rfl) (jz _) rfl) X Hm ?_);intro cell F H Hm E X;replace O_left:=O_left.mono E;replace qK:=qK.mono E;replace SL0:=E.xd SL0;refine(WW (K:=K) (k':=3) (j':=2) rfl rfl qK O_left yd (jl QY (jV (i:=1) rfl) (jL xY (kl (jh (p:=pB (cT cI)) (i:=2) rfl O_left.b)) rfl) rfl) X Hm ?_);intro made left F H1_ H Hm Cb_ Cg X qK O_left
   try dsimp only at Hm
   replace SL0:=Same.trans SL0 Cb_.f;replace SL0:=Same.trans SL0 Cg.f;cases Hm;exact⟨F,_,_,_,rfl,⟨X,SL0⟩,O_left,qK,kB⟩
  ·rintro F1 S0_ ⟨cell,left,made⟩ σ_ F H Hm ⟨zu,zv,w1_,rfl,⟨X,SF_⟩,O_left,qK,kB⟩
   try dsimp only at Hm
   have yd:=Ne.symm kB;exact ze (K:=K) (i:=3) rfl qK X Hm Kk
theorem sc__law_swapped:FnScope ["_law_under_here","_law_line","_law_at"] ["_law_under_here","_law_line","_law_at"] (jn (top 52)):=⟨rfl,rfl,rfl,by decide +kernel,rfl,by decide +kernel,by decide +kernel⟩
theorem Up (B:Bi mg) (Fn:Fun K "_law_swapped" "_law_swapped" (top 52) f fd):FnOk P w K mg base CX0 1 f fd ["_law_under_here","_law_line","_law_at"] (sp3 K (pB (cL cB)) (pF (cT cI)) (pF cI) (rF (cT cI)) xv):=by
 refine Fn.ok sc__law_swapped (fun vs H Q E h=>?_) (fun cdv A outer s H0 vs Q E_ hr h=>?_)
 ·obtain⟨_,_,_,_,_,_,_,_,rfl,_⟩:=h;rfl
 ·obtain⟨under_here,line,at_,ju,yl,jcU,Fe,R,rfl,S_,je,jS,jcV,Hm,Kk⟩:=h;have nd:=sc__law_swapped.nd;have hu:=kG hr;refine⟨_,(jg (qB (qW (qS kS (qS kS (pv 0) (qS zd (pv 1) (ke xD (pv 2) jy) (fun _ _=>rfl)) (fun _ _=>rfl)) (qS zd (pv 1) (pv 2) (fun _ _=>rfl)) (fun _ _=>rfl))) (jo (j1 (pv 1))) kg)
   (jo (j1 (ke JQ (ke JQ (zB Qd (pv 1) GC (GD (pv 2))) (QP (jc (qS zd (pv 1) (ke xD (pv 2) jy) (fun _ _=>rfl)) (jc (qS zd (pv 1) (pv 2) (fun _ _=>rfl)) ji)))) (zB Qd (pv 1) (GD (ke xD (pv 2) jy)) GC))))),?_⟩
  try dsimp only[kH]
  have X:Ext Fe H0 Fe H0:=Ext.refl S_;unfold xv at Hm;have jb:Bor K H0 Fe (cL cB) under_here ju:=je;clear je;replace jS:(cT cI).rep K Fe line yl:=jS;obtain rfl:jcU=.int at_:=jcV;refine(jdz (K:=K) (qR (kr yM (kl (kW (kr yM (kl (jh (p:=pB (cL cB)) (i:=0) rfl (Bor.b jb X))) (jl Js (jh (p:=pF (cT cI)) (i:=1) rfl jS) (jl kI (jV (i:=2) rfl) (jz _) rfl) rfl) rfl))) (jl Js (jh (p:=pF (cT cI)) (i:=1) rfl jS) (jV (i:=2) rfl) rfl) rfl)) X Hm ?_ ?_)
  ·intro F H Hm E X
   try dsimp only[wr] at Hm
   replace jS:=E.xc jS;exact kf (K:=K) (jh (p:=pF (cT cI)) (i:=1) rfl jS) X Hm Kk
  ·intro F H Hm E X
   try dsimp only[wk] at Hm
   replace jS:=E.xc jS;refine Gb ?_;exact kf (K:=K) (kr WQ (kr WQ (zb (jh (p:=pF (cT cI)) (i:=1) rfl jS) GF (xE (jV (i:=2) rfl) rfl) rfl) (Yu (WL (jl Js (jh (p:=pF (cT cI)) (i:=1) rfl jS) (jl kI (jV (i:=2) rfl) (jz _) rfl) rfl) (WL (jl Js (jh (p:=pF (cT cI)) (i:=1) rfl jS) (jV (i:=2) rfl) rfl) (qr (c:=cI)) rfl) rfl) (by decide)) rfl) (zb (jh (p:=pF (cT cI)) (i:=1) rfl jS) (xE (jl kI (jV (i:=2) rfl) (jz _) rfl) rfl) GF rfl) rfl) X Hm Kk
theorem sc__law_slid:FnScope ["_law_under_here","_law_line","_law_at"] ["_law_under_here","_law_line"] (jn (top 53)):=⟨rfl,rfl,rfl,by decide +kernel,rfl,by decide +kernel,by decide +kernel⟩
theorem Yc (B:Bi mg) (Fn:Fun K "_law_slid" "_law_slid" (top 53) f fd) (xx:Def P w K mg base "_law_swapped" 1 ["_law_under_here","_law_line","_law_at"] (sp3 K (pB (cL cB)) (pF (cT cI)) (pF cI) (rF (cT cI)) xv)):FnOk P w K mg base CX0 2 f fd ["_law_under_here","_law_line"] (sp2 K (pB (cL cB)) (pF (cT cI)) (rF (cT cI)) Qw):=by
 refine Fn.ok sc__law_slid (fun vs H Q E h=>?_) (fun cdv A outer s H0 vs Q E_ hr h=>?_)
 ·obtain⟨_,_,_,_,_,_,rfl,_⟩:=h;rfl
 ·obtain⟨under_here,line,ju,yl,Fe,R,rfl,S_,je,jS,Hm,Kk⟩:=h;have nd:=sc__law_slid.nd;have hu:=kG hr;refine⟨_,(jg (kP PassesOwn.never rfl (kh rfl B.range_ (jc (ke Gw (jP jQ rfl B.len_ (by kernel_rfl) (jc (pv 1) ji)) jy) ji)) (jN (i:=2) nd rfl (Or.inl rfl)) (jo (jM (i:=1) nd rfl (Or.inl rfl) (jU xx (hr.mono (by decide)) rfl (jc (pv 0) (jc (pv 1) (jc (pv 2) ji)))))))
   (jo (j1 (pv 1)))),?_⟩
  try dsimp only[kH]
  have X:Ext Fe H0 Fe H0:=Ext.refl S_;unfold Qw at Hm;have jb:Bor K H0 Fe (cL cB) under_here ju:=je;clear je;replace jS:(cT cI).rep K Fe line yl:=jS;refine Ji (K:=K) (c:=cI) ?_ X Hm (fun F1 line σ' F' H'=>∃ (yl:V) (w1_:Option V),σ'=[some ju,some yl,w1_]/\(Ext Fe H0 F' H'/\Same F1 F')/\(cT cI).rep K F' line yl) ?_ ?_ ?_ ?_
  ·exact(kA (jl kI (jL UO (jh (p:=pF (cT cI)) (i:=1) rfl jS) rfl) (jz _) rfl) rfl)
  ·intro F H E X;replace jS:=E.xc jS;exact⟨_,_,rfl,⟨X,(Same.refl _)⟩,jS⟩
  ·rintro F1 line σ_ F_ H_ ⟨yl,w1_,rfl,⟨X_,SF_⟩,jS⟩;exact⟨X_,SF_⟩
  ·rintro F1 S0_ line B_ at_ jcU σ_ F_ H_ F H ⟨yl,w1_,rfl,⟨X,SF_⟩,jS⟩ E jcV Hm
   try dsimp only at Hm
   have SL0:=SF_;replace SF_:=Same.trans S0_ SF_;replace jb:=Bor.mono jb SF_;replace X:=Ext.trans X E;replace jb:=E.xb jb;replace jS:=E.xc jS;replace SL0:=E.xd SL0;obtain rfl:jcU=.int at_:=jcV;refine qb ?_;refine(yj (K:=K) (c:=(cT cI)) (kQ (jh (p:=pB (cL cB)) (i:=0) rfl (Bor.b jb X)) (jh (p:=pF (cT cI)) (i:=1) rfl jS) (jV (i:=2) rfl) rfl) X Hm ?_);intro line yl F H Hm E X jS;replace SL0:=E.xd SL0;cases Hm;exact⟨F,_,_,rfl,⟨X,SL0⟩,jS⟩
  ·rintro F1 S0_ line σ_ F H Hm ⟨yl,w1_,rfl,⟨X,SF_⟩,jS⟩
   try dsimp only at Hm
   exact kf (K:=K) (jh (p:=pF (cT cI)) (i:=1) rfl jS) X Hm Kk
theorem sc__law_turned_2:FnScope ["_law_under_here","_law_one","_law_which","_law_n","_law_k","_law_j"] ["_law_under_here","_law_one","_law_which"] (jn (top 55)):=⟨rfl,rfl,rfl,by decide +kernel,rfl,by decide +kernel,by decide +kernel⟩
theorem QC (B:Bi mg) (Fn:Fun K "_law_turned" "_law_turned" (top 55) f fd) (JE:Def P w K mg base "_law_slid" 2 ["_law_under_here","_law_line"] (sp2 K (pB (cL cB)) (pF (cT cI)) (rF (cT cI)) Qw)) (xx:Def P w K mg base "_law_swapped" 1 ["_law_under_here","_law_line","_law_at"] (sp3 K (pB (cL cB)) (pF (cT cI)) (pF cI) (rF (cT cI)) xv)):FnOk P w K mg base CX0 3 f fd ["_law_under_here","_law_one","_law_which"] (sp3 K (pB (cL cB)) (pF (cT cI)) (pF cI) (rF (cT cI)) qV):=by
 refine Fn.ok sc__law_turned_2 (fun vs H Q E h=>?_) (fun cdv A outer s H0 vs Q E_ hr h=>?_)
 ·obtain⟨_,_,_,_,_,_,_,_,rfl,_⟩:=h;rfl
 ·obtain⟨under_here,one,which,ju,qj,xl,Fe,R,rfl,S_,je,jC,xm,Hm,Kk⟩:=h;have nd:=sc__law_turned_2.nd;have hu:=kG hr;refine⟨_,(jg (qB (kq yW (pv 2) jy (kD _)) Vy kg)
   (jg (qB (kq yW (pv 2) jy (kD _)) (jo (j1 (jU JE (hr.mono (by decide)) rfl (jc (pv 0) (jc (pv 1) ji))))) kg)
   (jg (jM (i:=3) nd rfl (Or.inl rfl) (jP jQ rfl B.len_ (by kernel_rfl) (jc (pv 1) ji)))
   (jg (kP PassesOwn.never rfl (kh rfl B.range_ (jc (ke Gw (pv 3) jy) ji)) (jN (i:=4) nd rfl (Or.inl rfl)) (jo (kP PassesOwn.never rfl (kh rfl B.range_ (jc (ke Gw (ke Gw (pv 3) jy) (pv 4)) ji)) (jN (i:=5) nd rfl (Or.inl rfl)) (jo (jM (i:=1) nd rfl (Or.inl rfl) (jU xx (hr.mono (by decide)) rfl (jc (pv 0) (jc (pv 1) (jc (qS kS (qC (jc (pv 5) (jc (ke Gw (ke Gw (pv 3) jy) (pv 5)) ji))) (ke Gw (pv 2) jy) (fun _ _=>rfl)) ji)))))))))
   (jo (j1 (pv 1))))))),?_⟩
  try dsimp only[kH]
  have X:Ext Fe H0 Fe H0:=Ext.refl S_;unfold qV at Hm;have jb:Bor K H0 Fe (cL cB) under_here ju:=je;clear je;replace jC:(cT cI).rep K Fe one qj:=jC;obtain rfl:xl=.int which:=xm;refine(Ga (K:=K) (qN (jl y0 (jV (i:=2) rfl) (jz _) rfl)) X Hm ?_ ?_)
  ·intro F H Hc Hm E X;cases Hm
  ·intro F H Hc Hm E X;replace jb:=E.xb jb;replace jC:=E.xc jC;refine Gb ?_;refine(Ga (K:=K) (qN (jl y0 (jV (i:=2) rfl) (jz _) rfl)) X Hm ?_ ?_)
   ·intro F H Hc Hm E X;replace jb:=E.xb jb;replace jC:=E.xc jC;exact kf (K:=K) (jI (jh (p:=pB (cL cB)) (i:=0) rfl (Bor.b jb X)) (jh (p:=pF (cT cI)) (i:=1) rfl jC) rfl) X Hm Kk
   ·intro F H Hc Hm E X;replace jb:=E.xb jb;replace jC:=E.xc jC;refine Gb ?_;refine(q9 (K:=K) (jL UO (jh (p:=pF (cT cI)) (i:=1) rfl jC) rfl) X Hm ?_);intro n_ F H Hm E X;replace jb:=E.xb jb;replace jC:=E.xc jC;refine Ji (K:=K) (c:=cI) ?_ X Hm (fun F1 one σ' F' H'=>∃ (qj:V) (w1_:Option V) (w2_:Option V),σ'=[some ju,some qj,some (.int which),some (.int n_),w1_,w2_]/\(Ext Fe H0 F' H'/\Same F1 F')/\(cT cI).rep K F' one qj) ?_ ?_ ?_ ?_
    ·exact(kA (jl kI (jV (i:=3) rfl) (jz _) rfl) rfl)
    ·intro F H E X;replace jC:=E.xc jC;exact⟨_,_,_,rfl,⟨X,(Same.refl _)⟩,jC⟩
    ·rintro F1 one σ_ F_ H_ ⟨qj,w1_,w2_,rfl,⟨X_,SF_⟩,jC⟩;exact⟨X_,SF_⟩
    ·rintro F1 S0_ one B_ k_ V_k_ σ_ F_ H_ F H ⟨qj,w1_,w2_,rfl,⟨X,SF_⟩,jC⟩ E P_k_ Hm
     try dsimp only at Hm
     have SL0:=SF_;replace SF_:=Same.trans S0_ SF_;replace jb:=Bor.mono jb SF_;replace X:=Ext.trans X E;replace jb:=E.xb jb;replace jC:=E.xc jC;replace SL0:=E.xd SL0;obtain rfl:V_k_=.int k_:=P_k_;refine qb ?_;refine UQ (K:=K) (c:=cI) ?_ X Hm (fun F1 one σ' F' H'=>∃ (qj:V) (w3_:Option V),σ'=[some ju,some qj,some (.int which),some (.int n_),some (.int k_),w3_]/\(Ext Fe H0 F' H'/\Same F1 F')/\(cT cI).rep K F' one qj) ?_ ?_ ?_ ?_
     ·exact(kA (jl kI (jl kI (jV (i:=3) rfl) (jz _) rfl) (jV (i:=4) rfl) rfl) rfl)
     ·intro F H E X;replace jC:=E.xc jC;exact⟨_,_,rfl,⟨X,(Same.refl _)⟩,jC⟩
     ·rintro F1 one σ_ F_ H_ ⟨qj,w3_,rfl,⟨X_,SF_⟩,jC⟩;exact⟨X_,SF_⟩
     ·rintro F1 S0_ one B_ j_ V_j_ σ_ F_ H_ F H ⟨qj,w3_,rfl,⟨X,SF_⟩,jC⟩ E P_j_ Hm
      try dsimp only at Hm
      have SL1:=SF_;replace SF_:=Same.trans S0_ SF_;replace jb:=Bor.mono jb SF_;replace X:=Ext.trans X E;replace jb:=E.xb jb;replace jC:=E.xc jC;replace SL1:=E.xd SL1;obtain rfl:V_j_=.int j_:=P_j_;refine qb ?_;refine(yj (K:=K) (c:=(cT cI)) (Jf (jh (p:=pB (cL cB)) (i:=0) rfl (Bor.b jb X)) (jh (p:=pF (cT cI)) (i:=1) rfl jC) (jl yM (kl (xj (qE (jJ (jV (i:=5) rfl) (jJ (jl kI (jl kI (jV (i:=3) rfl) (jz _) rfl) (jV (i:=5) rfl) rfl) (qr (c:=cI)) rfl) rfl) (by decide)))) (jl kI (jV (i:=2) rfl) (jz _) rfl) rfl) rfl) X Hm ?_);intro one qj F H Hm E X jC;replace SL1:=E.xd SL1;cases Hm;exact⟨F,_,_,rfl,⟨X,SL1⟩,jC⟩
     ·rintro F1 S0_ one σ_ F H Hm ⟨qj,w3_,rfl,⟨X,SF_⟩,jC⟩
      try dsimp only at Hm
      replace SF_:=Same.trans S0_ SF_;replace SL0:=Same.trans SL0 SF_;cases Hm;exact⟨F,_,_,_,rfl,⟨X,SL0⟩,jC⟩
    ·rintro F1 S0_ one σ_ F H Hm ⟨qj,w1_,w2_,rfl,⟨X,SF_⟩,jC⟩
     try dsimp only at Hm
     exact kf (K:=K) (jh (p:=pF (cT cI)) (i:=1) rfl jC) X Hm Kk
theorem sc__law_round_2:FnScope ["_law_under_here","_law_one","_law_which","_law_found","_law_here"] ["_law_under_here","_law_one","_law_which"] (jn (top 56)):=⟨rfl,rfl,rfl,by decide +kernel,rfl,by decide +kernel,by decide +kernel⟩
theorem Uq (B:Bi mg) (Fn:Fun K "_law_round" "_law_round" (top 56) f fd) (yo:Def P w K mg base "_law_turned" 3 ["_law_under_here","_law_one","_law_which"] (sp3 K (pB (cL cB)) (pF (cT cI)) (pF cI) (rF (cT cI)) qV)):FnOk P w K mg base CX0 4 f fd ["_law_under_here","_law_one","_law_which"] (sp3 K (pB (cL cB)) (pF (cT cI)) (pF cI) (rO (cT cI)) yI):=by
 refine Fn.ok sc__law_round_2 (fun vs H Q E h=>?_) (fun cdv A outer s H0 vs Q E_ hr h=>?_)
 ·obtain⟨_,_,_,_,_,_,_,_,rfl,_⟩:=h;rfl
 ·obtain⟨under_here,one,which,ju,qj,xl,Fe,R,rfl,S_,je,jC,xm,Hm,Kk⟩:=h;have nd:=sc__law_round_2.nd;have hu:=kG hr;refine⟨_,(jg (jM (i:=3) nd rfl (Or.inl rfl) (qC (jc (pv 1) ji)))
   (jg (jM (i:=4) nd rfl (Or.inl rfl) (jU yo (hr.mono (by decide)) rfl (jc (pv 0) (jc (pv 1) (jc (pv 2) ji)))))
   (jg (Jd PassesOwn.never (kq (QU hu) (pv 4) (pv 1) (kD _)) (jg (kZ (zR Xx Xz Xy kJ (pv 3) (jc (pv 4) ji)))
   (jo (jM (i:=4) nd rfl (Or.inl rfl) (jU yo (hr.mono (by decide)) rfl (jc (pv 0) (jc (pv 4) (jc (pv 2) ji))))))))
   (jo (j1 (pv 3)))))),?_⟩
  try dsimp only[kH]
  have X:Ext Fe H0 Fe H0:=Ext.refl S_;unfold yI at Hm;have jb:Bor K H0 Fe (cL cB) under_here ju:=je;clear je;replace jC:(cT cI).rep K Fe one qj:=jC;obtain rfl:xl=.int which:=xm;refine(x5 (K:=K) (qE (jJ (jh (p:=pF (cT cI)) (i:=1) rfl jC) (qr (c:=(cT cI))) rfl) (by decide)) X Hm ?_);intro found js F H Hm E X Hn O_found;replace jb:=E.xb jb;replace jC:=E.xc jC;refine(x6 (K:=K) (c:=(cT cI)) (kQ (jh (p:=pB (cL cB)) (i:=0) rfl (Bor.b jb X)) (jh (p:=pF (cT cI)) (i:=1) rfl jC) (jV (i:=2) rfl) rfl) X Hm ?_);intro here Qz F H Hm E X yV;replace jb:=E.xb jb;replace jC:=E.xc jC;replace O_found:=O_found.mono E;refine Qc (K:=K) X Hm (fun F1 b σ' F' H'=>match b with | (found,here)=>∃ (js:Addr) (Qz:V),σ'=[some ju,some qj,some (.int which),some (.ref js),some Qz]/\(Ext Fe H0 F' H'/\Same F1 F')/\Own K H0 F' H' (cT cI) found js/\(cT cI).rep K F' here Qz) ?_ ?_ ?_ ?_ ?_
  ·exact⟨_,_,rfl,⟨X,(Same.refl _)⟩,O_found,yV⟩
  ·rintro F1 ⟨found,here⟩ σ_ F_ H_ ⟨js,Qz,rfl,⟨X_,SF_⟩,O_found,yV⟩;exact⟨X_,SF_⟩
  ·rintro⟨found,here⟩ σ_ F H ⟨js,Qz,rfl,⟨X,SF_⟩,O_found,yV⟩;replace jC:=Cd.mono _ SF_ jC;exact(qN (jl (Yt (eqT eqI) (by decide) nfT) (yF (jh (p:=pF (cT cI)) (i:=4) rfl yV)) (yF (jh (p:=pF (cT cI)) (i:=1) rfl jC)) rfl))
  ·rintro⟨found,here⟩ B_ σ_ F_ H_ F H ⟨js,Qz,rfl,⟨X,SF_⟩,O_found,yV⟩ E Hm
   try dsimp only at Hm
   have SL0:=SF_;replace jb:=Bor.mono jb SF_;replace X:=Ext.trans X E;replace jb:=E.xb jb;replace O_found:=O_found.mono E;replace yV:=E.xc yV;replace SL0:=E.xd SL0;refine(y9 (K:=K) (k':=3) rfl O_found (jh (p:=pF (cT cI)) (i:=4) rfl yV) X Hm ?_);intro found F H Hm Cg X O_found;replace jb:=Bor.mono jb Cg.f;replace yV:=Cd.mono _ Cg.f yV;replace SL0:=Same.trans SL0 Cg.f;refine(yj (K:=K) (c:=(cT cI)) (kQ (jh (p:=pB (cL cB)) (i:=0) rfl (Bor.b jb X)) (jh (p:=pF (cT cI)) (i:=4) rfl yV) (jV (i:=2) rfl) rfl) X Hm ?_);intro here Qz F H Hm E X yV;replace O_found:=O_found.mono E;replace SL0:=E.xd SL0;cases Hm;exact⟨F,_,_,rfl,⟨X,SL0⟩,O_found,yV⟩
  ·rintro⟨found,here⟩ σ_ F_ H_ F H ⟨js,Qz,rfl,⟨X,SF_⟩,O_found,yV⟩ E Hm
   try dsimp only at Hm
   replace X:=Ext.trans X E;replace O_found:=O_found.mono E;exact ze (K:=K) (i:=3) rfl O_found X Hm Kk
theorem sc__law_due_2:FnScope ["_law_under_here","_law_ones","_law_which","_law_found","_law_one"] ["_law_under_here","_law_ones","_law_which"] (jn (top 58)):=⟨rfl,rfl,rfl,by decide +kernel,rfl,by decide +kernel,by decide +kernel⟩
theorem V6 (B:Bi mg) (Fn:Fun K "_law_due" "_law_due" (top 58) f fd) (zU:Def P w K mg base "_law_round" 4 ["_law_under_here","_law_one","_law_which"] (sp3 K (pB (cL cB)) (pF (cT cI)) (pF cI) (rO (cT cI)) yI)):FnOk P w K mg base CX0 5 f fd ["_law_under_here","_law_ones","_law_which"] (sp3 K (pB (cL cB)) (pB (cT cI)) (pF cI) (rO (cL (cT cI))) GP):=by
 refine Fn.ok sc__law_due_2 (fun vs H Q E h=>?_) (fun cdv A outer s H0 vs Q E_ hr h=>?_)
 ·obtain⟨_,_,_,_,_,_,_,_,rfl,_⟩:=h;rfl
 ·obtain⟨under_here,ones,which,ju,qA,xl,Fe,R,rfl,S_,je,jF,xm,Hm,Kk⟩:=h;have nd:=sc__law_due_2.nd;have hu:=kG hr;refine⟨_,(jg (jM (i:=3) nd rfl (Or.inl rfl) (qC ji))
   (jg (kP PassesOwn.never rfl (kN (pv 1)) (jN (i:=4) nd rfl (Or.inr rfl)) (jo (Gy (qB (yq (qW (jP (Vf rfl) rfl B.any_ (by kernel_rfl) (jc (qk (own:=["_law_circle"]) (ix:=[4]) (qY rfl) rfl (kN (pv 3)) (fun _=>(jN (i:=0) (show List.Nodup (["_law_circle","_law_one"]:List Str) by decide +kernel) rfl (Or.inl rfl))) (fun _=>xZ) (fun _=>(zc (Zb hu) (pv 1) (pv 0) (by with_unfolding_all rfl)))) ji)))) (jo (kZ (zR Xx Xz Xy kJ (pv 3) (jc (jU zU (hr.mono (by decide)) rfl (jc (pv 0) (jc (pv 4) (jc (pv 2) ji)))) ji)))) kg))))
   (jo (j1 (pv 3))))),?_⟩
  try dsimp only[kH]
  have X:Ext Fe H0 Fe H0:=Ext.refl S_;unfold GP at Hm;have jb:Bor K H0 Fe (cL cB) under_here ju:=je;clear je;have jt:Bor K H0 Fe (cT cI) ones qA:=jF;clear jF;obtain rfl:xl=.int which:=xm;refine(x5 (K:=K) (qE (qr (c:=(cL (cT cI)))) (by decide)) X Hm ?_);intro found js F H Hm E X Hn O_found;replace jb:=E.xb jb;replace jt:=E.xb jt;refine yt (K:=K) (c:=(cT cI)) ?_ X Hm (fun F1 found σ' F' H'=>∃ (js:Addr) (w1_:Option V),σ'=[some ju,some qA,some (.int which),some (.ref js),w1_]/\(Ext Fe H0 F' H'/\Same F1 F')/\Own K H0 F' H' (cL (cT cI)) found js) ?_ ?_ ?_ ?_
  ·exact(Gz (i:=1) rfl jt)
  ·intro F H E X;replace O_found:=O_found.mono E;exact⟨_,_,rfl,⟨X,(Same.refl _)⟩,O_found⟩
  ·rintro F1 found σ_ F_ H_ ⟨js,w1_,rfl,⟨X_,SF_⟩,O_found⟩;exact⟨X_,SF_⟩
  ·rintro F1 S0_ found B_ one qj σ_ F_ H_ F H ⟨js,w1_,rfl,⟨X,SF_⟩,O_found⟩ E jC Hm
   try dsimp only at Hm
   have SL0:=SF_;replace SF_:=Same.trans S0_ SF_;replace jb:=Bor.mono jb SF_;replace X:=Ext.trans X E;replace jb:=E.xb jb;replace O_found:=O_found.mono E;replace SL0:=E.xd SL0;refine qb ?_;refine(Qs (K:=K) (fun found σ' H'=>∃ F':Hp,∃ (js:Addr),σ'=[some ju,some qA,some (.int which),some (.ref js),some qj]/\(Ext Fe H0 F' H'/\Same F F')/\Own K H0 F' H' (cL (cT cI)) found js) (y3 (qR (xy jfy (kl (xj (yG (yN (kl (jh (p:=pB (cL (cT cI))) (i:=3) rfl O_found.b))) [some qj] rfl (fun b3 circle qm _ _ E2 jE=>yS) (fun b3 circle qm _ _ E2 jE=>(jl (jgM (eqT eqI) (by decide)) (yF (jh (p:=pF (cT cI)) (i:=1) rfl (Cd.mono _ (E2).f jC))) (yF (jh (p:=pF (cL (cT cI))) (i:=0) rfl jE)) rfl)) rfl))) rfl)) rfl) X Hm ?_ ?_ ?_)
   ·intro B_ F H Hm E X;replace jb:=E.xb jb;replace O_found:=O_found.mono E;replace jC:=E.xc jC;have SJ1:=E.f;refine(z_ (K:=K) (i:=3) rfl O_found (qZ (kQ (jh (p:=pB (cL cB)) (i:=0) rfl (Bor.b jb X)) (jh (p:=pF (cT cI)) (i:=4) rfl jC) (jV (i:=2) rfl) rfl)) X Hm ?_);intro found F H Hm Cg X O_found;replace SJ1:=Same.trans SJ1 Cg.f;cases Hm;exact⟨F,_,rfl,⟨X,SJ1⟩,O_found⟩
   ·intro B_ F H Hm E X;replace O_found:=O_found.mono E;have SJ1:=E.f;refine Gb ?_;cases Hm;exact⟨F,_,rfl,⟨X,SJ1⟩,O_found⟩
   ·rintro found σ_ H Hm ⟨F,js,rfl,⟨X,SF_⟩,O_found⟩
    try dsimp only at Hm
    replace SL0:=Same.trans SL0 SF_;cases Hm;exact⟨F,_,_,rfl,⟨X,SL0⟩,O_found⟩
  ·rintro F1 S0_ found σ_ F H Hm ⟨js,w1_,rfl,⟨X,SF_⟩,O_found⟩
   try dsimp only at Hm
   exact ze (K:=K) (i:=3) rfl O_found X Hm Kk
theorem sc_Slide_init:FnScope ["self","order"] ["self","order"] (jn ((jH (top 36) 0))):=⟨rfl,rfl,rfl,by decide +kernel,rfl,by decide +kernel,by decide +kernel⟩
theorem V7 (B:Bi mg) (T_Order:Txt_Order K mg jd) (T_Slide:Txt_Slide K mg j3) (Fn:Fun K "__init__" "Turn.__init__" ((jH (top 36) 0)) f fd):FnOk P w K mg base CX0 1 f fd ["self","order"] (jae K j3 (pF (jA jd)) (xr jd j3) xJ):=by
 refine Fn.ok sc_Slide_init (fun vs H Q E h=>?_) (fun cdv A outer s Hq vs Q E_ hr h=>?_)
 ·obtain⟨_,_,_,_,_,_,_,rfl,_⟩:=h;rfl
 ·obtain⟨order,kC,Fe,H0,x_self,dx_self,R,rfl,rfl,n1_,n2_,n3_,S_,jk,Hm,Kk⟩:=h;have nd:=sc_Slide_init.nd;have hu:=kG hr;refine⟨_,(jo (QO (pv 0) (pv 1) rfl)),?_⟩
  try dsimp only[kH]
  obtain⟨X,xh⟩:=Gc (C:=j3) S_ n1_ n2_ n3_;unfold xJ at Hm;replace jk:(jA jd).rep K Fe order kC:=jk;refine(UT (K:=K) (k':=0) (c:=(jA jd)) rfl xh T_Slide.cl T_Slide.n_order (wy (Xm 0) (by decide:0<1000)) (jh (p:=pF (jA jd)) (i:=1) rfl jk) X Hm ?_);intro f_order GX F H Hm Cg X xQ xh;cases Hm;obtain⟨F',X',Cg,hx⟩:=OwnI.freeze xh X;exact Kk F' H X' ⟨x_self,dx_self,_,rfl,hx,Cd.mono _ Cg.f xQ⟩
theorem sc_Above_init:FnScope ["self","order"] ["self","order"] (jn ((jH (top 36) 0))):=⟨rfl,rfl,rfl,by decide +kernel,rfl,by decide +kernel,by decide +kernel⟩
theorem V8 (B:Bi mg) (T_Above:Txt_Above K mg j4) (T_Order:Txt_Order K mg jd) (Fn:Fun K "__init__" "Turn.__init__" ((jH (top 36) 0)) f fd):FnOk P w K mg base CX0 1 f fd ["self","order"] (jae K j4 (pF (jA jd)) (xt jd j4) xK):=by
 refine Fn.ok sc_Above_init (fun vs H Q E h=>?_) (fun cdv A outer s Hq vs Q E_ hr h=>?_)
 ·obtain⟨_,_,_,_,_,_,_,rfl,_⟩:=h;rfl
 ·obtain⟨order,kC,Fe,H0,x_self,dx_self,R,rfl,rfl,n1_,n2_,n3_,S_,jk,Hm,Kk⟩:=h;have nd:=sc_Above_init.nd;have hu:=kG hr;refine⟨_,(jo (QO (pv 0) (pv 1) rfl)),?_⟩
  try dsimp only[kH]
  obtain⟨X,xh⟩:=Gc (C:=j4) S_ n1_ n2_ n3_;unfold xK at Hm;replace jk:(jA jd).rep K Fe order kC:=jk;refine(UT (K:=K) (k':=0) (c:=(jA jd)) rfl xh T_Above.cl T_Above.n_order (wy (Xm 0) (by decide:0<1000)) (jh (p:=pF (jA jd)) (i:=1) rfl jk) X Hm ?_);intro f_order GX F H Hm Cg X xQ xh;cases Hm;obtain⟨F',X',Cg,hx⟩:=OwnI.freeze xh X;exact Kk F' H X' ⟨x_self,dx_self,_,rfl,hx,Cd.mono _ Cg.f xQ⟩
theorem sc_Below_init:FnScope ["self","order"] ["self","order"] (jn ((jH (top 36) 0))):=⟨rfl,rfl,rfl,by decide +kernel,rfl,by decide +kernel,by decide +kernel⟩
theorem V9 (B:Bi mg) (T_Below:Txt_Below K mg j5) (T_Order:Txt_Order K mg jd) (Fn:Fun K "__init__" "Turn.__init__" ((jH (top 36) 0)) f fd):FnOk P w K mg base CX0 1 f fd ["self","order"] (jae K j5 (pF (jA jd)) (xu jd j5) xL):=by
 refine Fn.ok sc_Below_init (fun vs H Q E h=>?_) (fun cdv A outer s Hq vs Q E_ hr h=>?_)
 ·obtain⟨_,_,_,_,_,_,_,rfl,_⟩:=h;rfl
 ·obtain⟨order,kC,Fe,H0,x_self,dx_self,R,rfl,rfl,n1_,n2_,n3_,S_,jk,Hm,Kk⟩:=h;have nd:=sc_Below_init.nd;have hu:=kG hr;refine⟨_,(jo (QO (pv 0) (pv 1) rfl)),?_⟩
  try dsimp only[kH]
  obtain⟨X,xh⟩:=Gc (C:=j5) S_ n1_ n2_ n3_;unfold xL at Hm;replace jk:(jA jd).rep K Fe order kC:=jk;refine(UT (K:=K) (k':=0) (c:=(jA jd)) rfl xh T_Below.cl T_Below.n_order (wy (Xm 0) (by decide:0<1000)) (jh (p:=pF (jA jd)) (i:=1) rfl jk) X Hm ?_);intro f_order GX F H Hm Cg X xQ xh;cases Hm;obtain⟨F',X',Cg,hx⟩:=OwnI.freeze xh X;exact Kk F' H X' ⟨x_self,dx_self,_,rfl,hx,Cd.mono _ Cg.f xQ⟩
theorem sc__law_turn_2:FnScope ["_law_order","_law_which"] ["_law_order","_law_which"] (jn (top 62)):=⟨rfl,rfl,rfl,by decide +kernel,rfl,by decide +kernel,by decide +kernel⟩
theorem UG (B:Bi mg) (T_Above:Txt_Above K mg j4) (T_Below:Txt_Below K mg j5) (T_Order:Txt_Order K mg jd) (T_Slide:Txt_Slide K mg j3) (Fn:Fun K "_law_turn" "_law_turn" (top 62) f fd) (G2:Kls P w K mg base "Slide" j3 1 ["self","order"] (jae K j3 (pF (jA jd)) (xr jd j3) xJ)) (G3:Kls P w K mg base "Above" j4 1 ["self","order"] (jae K j4 (pF (jA jd)) (xt jd j4) xK)) (G4:Kls P w K mg base "Below" j5 1 ["self","order"] (jae K j5 (pF (jA jd)) (xu jd j5) xL)):FnOk P w K mg base CX0 3 f fd ["_law_order","_law_which"] (sp2 K (pF (jA jd)) (pF cI) (rF (Qf (xr jd j3) (Qf (xt jd j4) (xu jd j5)))) Go):=by
 refine Fn.ok sc__law_turn_2 (fun vs H Q E h=>?_) (fun cdv A outer s H0 vs Q E_ hr h=>?_)
 ·obtain⟨_,_,_,_,_,_,rfl,_⟩:=h;rfl
 ·obtain⟨order,which,kC,xl,Fe,R,rfl,S_,jk,xm,Hm,Kk⟩:=h;have nd:=sc__law_turn_2.nd;have hu:=kG hr;refine⟨_,(jg (qB (kq yW (pv 1) jy (kD _)) Vy kg)
   (jg (qB (kq yW (pv 1) jy (kD _)) (jo (j1 (UM G2 (hr.mono (by decide)) rfl (jc (pv 0) ji)))) kg)
   (jg (qB (kq yW (pv 1) jy (kD _)) (jo (j1 (UM G3 (hr.mono (by decide)) rfl (jc (pv 0) ji)))) kg)
   (jo (j1 (UM G4 (hr.mono (by decide)) rfl (jc (pv 0) ji))))))),?_⟩
  try dsimp only[kH]
  have X:Ext Fe H0 Fe H0:=Ext.refl S_;unfold Go at Hm;replace jk:(jA jd).rep K Fe order kC:=jk;obtain rfl:xl=.int which:=xm;refine(Ga (K:=K) (qN (jl y0 (jV (i:=1) rfl) (jz _) rfl)) X Hm ?_ ?_)
  ·intro F H Hc Hm E X;cases Hm
  ·intro F H Hc Hm E X;replace jk:=E.xc jk;refine Gb ?_;refine(Ga (K:=K) (qN (jl y0 (jV (i:=1) rfl) (jz _) rfl)) X Hm ?_ ?_)
   ·intro F H Hc Hm E X;replace jk:=E.xc jk;exact kf (K:=K) (Zw (zF (jh (p:=pF (jA jd)) (i:=0) rfl jk) rfl) rfl) X Hm Kk
   ·intro F H Hc Hm E X;replace jk:=E.xc jk;refine Gb ?_;refine(Ga (K:=K) (qN (jl y0 (jV (i:=1) rfl) (jz _) rfl)) X Hm ?_ ?_)
    ·intro F H Hc Hm E X;replace jk:=E.xc jk;exact kf (K:=K) (Vt (Zw (zF (jh (p:=pF (jA jd)) (i:=0) rfl jk) rfl) rfl) rfl) X Hm Kk
    ·intro F H Hc Hm E X;replace jk:=E.xc jk;refine Gb ?_;exact kf (K:=K) (Vt (Vt (zF (jh (p:=pF (jA jd)) (i:=0) rfl jk) rfl) rfl) rfl) X Hm Kk
theorem sc_is_line:FnScope ["order","line","ahead","thing"] ["order","line"] (jn (top 29)):=⟨rfl,rfl,rfl,by decide +kernel,rfl,by decide +kernel,by decide +kernel⟩
theorem jaH (B:Bi mg) (T_Order:Txt_Order K mg jd) (Fn:Fun K "is_line" "is_line" (top 29) f fd) (qL:Mth P w K mg base jd "size" 1 ["self"] (sp1 K (pF (jA jd)) (rF cI) kF)) (xn:Def P w K mg base "holds_all" 1 ["bits","others"] (sp2 K (pF cI) (pF cI) (rF cB) kO)):FnOk P w K mg base CX0 2 f fd ["order","line"] (sp2 K (pF (jA jd)) (pF (cT cI)) (rF cB) xM):=by
 refine Fn.ok sc_is_line (fun vs H Q E h=>?_) (fun cdv A outer s H0 vs Q E_ hr h=>?_)
 ·obtain⟨_,_,_,_,_,_,rfl,_⟩:=h;rfl
 ·obtain⟨order,line,kC,yl,Fe,R,rfl,S_,jk,jS,Hm,Kk⟩:=h;have nd:=sc_is_line.nd;have hu:=kG hr;refine⟨_,(jg (qB (kq (QU hu) (jP WP rfl B.sorted_ (by kernel_rfl) (jc (pv 1) ji)) (qD (Vg rfl) rfl B.list_ (by kernel_rfl) (jc (jfg rfl B.range_ (jc (Yp qL (hr.mono (by decide)) (pv 0)) ji)) ji)) (kD _)) (jo (j1 GA)) kg)
   (jg (jM (i:=2) nd rfl (Or.inl rfl) jy)
   (jg (kP PassesOwn.never rfl (jaV (pv 1)) (jN (i:=3) nd rfl (Or.inl rfl)) (jg (qB (yq (qW (jU xn (hr.mono (by decide)) rfl (jc (pv 2) (jc (qS zd (yR (pv 0) rfl) (pv 3) (fun _ _=>rfl)) ji))))) (jo (j1 GA)) kg)
   (jo (jM (i:=2) nd rfl (Or.inl rfl) (ke jaY (pv 2) (ke jaX jy (pv 3)))))))
   (jo (j1 GA))))),?_⟩
  try dsimp only[kH]
  have X:Ext Fe H0 Fe H0:=Ext.refl S_;unfold xM at Hm;replace jk:(jA jd).rep K Fe order kC:=jk;replace jS:(cT cI).rep K Fe line yl:=jS;refine(jdz (K:=K) (qN (kr (Yt (eqL eqI) (by decide) nfL) (jdp (xj (jL jb0 (jh (p:=pF (cT cI)) (i:=1) rfl jS) rfl))) (jdp (xj (jbZ (GI Gm (jh (p:=pF (jA jd)) (i:=0) rfl jk) rfl) rfl))) rfl)) X Hm ?_ ?_)
  ·intro F H Hm E X
   try dsimp only[wr] at Hm
   exact kf (K:=K) (GB _) X Hm Kk
  ·intro F H Hm E X
   try dsimp only[wk] at Hm
   replace jk:=E.xc jk;replace jS:=E.xc jS;refine Gb ?_;refine(q9 (K:=K) (jz _) X Hm ?_);intro ahead F H Hm E X;replace jk:=E.xc jk;replace jS:=E.xc jS;refine jdJ (K:=K) (c:=cI) (fun c=>c=R) ?_ X Hm ?_ (fun F1 ahead σ' F' H'=>∃ (w4_:Option V),σ'=[some kC,some yl,some (.int ahead),w4_]/\(Ext Fe H0 F' H'/\Same F1 F')) ?_ ?_ ?_ ?_
   ·exact(jgT (jh (p:=pF (cT cI)) (i:=1) rfl jS))
   ·intro c h;exact Option.some.inj h
   ·intro F H E X;exact⟨_,rfl,⟨X,(Same.refl _)⟩⟩
   ·rintro F1 ahead σ_ F_ H_ ⟨w4_,rfl,⟨X_,SF_⟩⟩;exact⟨X_,SF_⟩
   ·rintro F1 S0_ ahead B_ thing xO σ_ F_ H_ F H ⟨w4_,rfl,⟨X,SF_⟩⟩ E xP Hm Hr
    try dsimp only at Hm
    have SL0:=SF_;replace SF_:=Same.trans S0_ SF_;replace jk:=Cd.mono _ SF_ jk;replace X:=Ext.trans X E;replace jk:=E.xc jk;replace SL0:=E.xd SL0;obtain rfl:xO=.int thing:=xP;refine qb ?_;refine(jdz (K:=K) (y3 (qR (kL (jV (i:=2) rfl) (jl Js (kT (xV T_Order) (jh (p:=pF (jA jd)) (i:=0) rfl jk) rfl) (jV (i:=3) rfl) rfl) rfl)) rfl) X Hm ?_ ?_)
    ·intro F H Hm E X
     try dsimp only[wr] at Hm
     obtain⟨y_,Hy_,Hm⟩:=bind_some Hm;cases Hm;exact kf (K:=K) (GB _) X (Hy_.trans (congrArg some (Hr _ rfl))) Kk
    ·intro F H Hm E X
     try dsimp only[wk] at Hm
     replace SL0:=E.xd SL0;refine Gb ?_;refine(Gi (K:=K) (kr kI (jV (i:=2) rfl) (jl jfm (jz _) (jV (i:=3) rfl) rfl) rfl) X Hm ?_);intro ahead F H Hm E X;replace SL0:=E.xd SL0;cases Hm;exact⟨_,F,rfl,_,rfl,⟨X,SL0⟩⟩
   ·rintro F1 S0_ ahead σ_ F H Hm ⟨w4_,rfl,⟨X,SF_⟩⟩
    try dsimp only at Hm
    exact kf (K:=K) (GB _) X Hm Kk
theorem sc_check_line:FnScope ["order","line"] ["order","line"] (jn (top 30)):=⟨rfl,rfl,rfl,by decide +kernel,rfl,by decide +kernel,by decide +kernel⟩
theorem V_ (B:Bi mg) (T_Order:Txt_Order K mg jd) (Fn:Fun K "check_line" "check_line" (top 30) f fd) (Uu:Def P w K mg base "is_line" 2 ["order","line"] (sp2 K (pF (jA jd)) (pF (cT cI)) (rF cB) xM)):FnOk P w K mg base CX0 3 f fd ["order","line"] (sp2 K (pF (jA jd)) (pF (cT cI)) (rF cU) kx):=by
 refine Fn.ok sc_check_line (fun vs H Q E h=>?_) (fun cdv A outer s H0 vs Q E_ hr h=>?_)
 ·obtain⟨_,_,_,_,_,_,rfl,_⟩:=h;rfl
 ·obtain⟨order,line,kC,yl,Fe,R,rfl,S_,jk,jS,Hm,Kk⟩:=h;have nd:=sc_check_line.nd;have hu:=kG hr;refine⟨_,(jo (qB (yq (qW (jU Uu (hr.mono (by decide)) rfl (jc (pv 0) (jc (pv 1) ji))))) (jo JI) kg)),?_⟩
  try dsimp only[kH]
  have X:Ext Fe H0 Fe H0:=Ext.refl S_;unfold kx at Hm;replace jk:(jA jd).rep K Fe order kC:=jk;replace jS:(cT cI).rep K Fe line yl:=jS;refine(jfq (K:=K) (y3 (qR (jI (jh (p:=pF (jA jd)) (i:=0) rfl jk) (jh (p:=pF (cT cI)) (i:=1) rfl jS) rfl)) rfl) X Hm ?_ ?_)
  ·intro F H Hm E X
   try dsimp only[wr] at Hm
   cases Hm
  ·intro F H Hm E X
   try dsimp only[wk] at Hm
   refine Gb ?_;cases Hm;exact Kk _ F H X rfl
theorem sc_Order_check_thing:FnScope ["self","thing"] ["self","thing"] (jn ((jH (top 19) 2))):=⟨rfl,rfl,rfl,by decide +kernel,rfl,by decide +kernel,by decide +kernel⟩
theorem Jk (B:Bi mg) (T_Order:Txt_Order K mg jd) (Fn:Fun K "check_thing" "Order.check_thing" ((jH (top 19) 2)) f fd):FnOk P w K mg base CX0 1 f fd ["self","thing"] (sp2 K (pF (jA jd)) (pF cI) (rF cU) j8):=by
 refine Fn.ok sc_Order_check_thing (fun vs H Q E h=>?_) (fun cdv A outer s H0 vs Q E_ hr h=>?_)
 ·obtain⟨_,_,_,_,_,_,rfl,_⟩:=h;rfl
 ·obtain⟨self,thing,yK,xO,Fe,R,rfl,S_,j2,xP,Hm,Kk⟩:=h;have nd:=sc_Order_check_thing.nd;have hu:=kG hr;refine⟨_,(jo (qB (yq (Y5 jc9 ZQ jy (pv 1) (yR (pv 0) rfl))) (jo JI) kg)),?_⟩
  try dsimp only[kH]
  have X:Ext Fe H0 Fe H0:=Ext.refl S_;unfold j8 at Hm;replace j2:(jA jd).rep K Fe self yK:=j2;obtain rfl:xO=.int thing:=xP;refine(jbu (K:=K) (xT (qN (Q5 (jz _) (jV (i:=1) rfl) (kT (Jn T_Order) (jh (p:=pF (jA jd)) (i:=0) rfl j2) rfl) rfl)) rfl) X Hm ?_ ?_)
  ·intro F H Hc Hm E X;cases Hm
  ·intro F H Hc Hm E X;refine Gb ?_;cases Hm;exact Kk _ F H X rfl
theorem sc_Order_just_above:FnScope ["self","thing"] ["self","thing"] (jn ((jH (top 19) 6))):=⟨rfl,rfl,rfl,by decide +kernel,rfl,by decide +kernel,by decide +kernel⟩
theorem JC (B:Bi mg) (T_Order:Txt_Order K mg jd) (Fn:Fun K "just_above" "Order.just_above" ((jH (top 19) 6)) f fd) (kU:Mth P w K mg base jd "check_thing" 1 ["self","thing"] (sp2 K (pF (jA jd)) (pF cI) (rF cU) j8)):FnOk P w K mg base CX0 2 f fd ["self","thing"] (sp2 K (pF (jA jd)) (pF cI) (rO cI) kn):=by
 refine Fn.ok sc_Order_just_above (fun vs H Q E h=>?_) (fun cdv A outer s H0 vs Q E_ hr h=>?_)
 ·obtain⟨_,_,_,_,_,_,rfl,_⟩:=h;rfl
 ·obtain⟨self,thing,yK,xO,Fe,R,rfl,S_,j2,xP,Hm,Kk⟩:=h;have nd:=sc_Order_just_above.nd;have hu:=kG hr;refine⟨_,(jg (kZ (zD kU (hr.mono (by decide)) (pv 0) (jc (pv 1) ji)))
   (jo (j1 (qk (own:=["low","high"]) (ix:=[1]) (qY rfl) rfl (jaV (yR (pv 0) rfl)) (fun _=>(Ws rfl (yC (jN (i:=0) (show List.Nodup (["low","high","thing"]:List Str) by decide +kernel) rfl (Or.inl rfl)) (yC (jN (i:=1) (show List.Nodup (["low","high","thing"]:List Str) by decide +kernel) rfl (Or.inl rfl)) QM)))) (fun _=>zS (kq yW (pv 0) (pv 2) (kD _))) (fun _=>(pv 1)))))),?_⟩
  try dsimp only[kH]
  have X:Ext Fe H0 Fe H0:=Ext.refl S_;unfold kn at Hm;replace j2:(jA jd).rep K Fe self yK:=j2;obtain rfl:xO=.int thing:=xP;refine(Q2 (K:=K) (kE yU (jh (p:=pF (jA jd)) (i:=0) rfl j2) (jV (i:=1) rfl) rfl) X Hm ?_);intro _ F H Hm E X;replace j2:=E.xc j2;exact kf (K:=K) (JP (jez (kT (yT T_Order) (jh (p:=pF (jA jd)) (i:=0) rfl j2) rfl)) [some (.int thing)] rfl (fun b2 low high _ _ E1=>(qN (jl y0 (jV (i:=0) rfl) (jV (i:=2) rfl) rfl))) (fun b2 low high _ _ E1=>(jV (i:=1) rfl)) rfl) X Hm Kk
theorem sc_places_within:FnScope ["row","things"] ["row","things"] (jn (top 33)):=⟨rfl,rfl,rfl,by decide +kernel,rfl,by decide +kernel,by decide +kernel⟩
theorem QD (B:Bi mg) (Fn:Fun K "places_within" "places_within" (top 33) f fd):FnOk P w K mg base CX0 1 f fd ["row","things"] (sp2 K (pF (cT cI)) (pB cI) (rO cI) j6):=by
 refine Fn.ok sc_places_within (fun vs H Q E h=>?_) (fun cdv A outer s H0 vs Q E_ hr h=>?_)
 ·obtain⟨_,_,_,_,_,_,rfl,_⟩:=h;rfl
 ·obtain⟨row,zJ,y8,Jh,Fe,R,rfl,S_,kc,zK,Hm,Kk⟩:=h;have nd:=sc_places_within.nd;have hu:=kG hr;refine⟨_,(jo (j1 (qk (own:=["thing"]) (ix:=[0]) (qY rfl) rfl (kN (pv 1)) (fun _=>(jN (i:=0) (show List.Nodup (["thing","row"]:List Str) by decide +kernel) rfl (Or.inl rfl))) (fun _=>zS (kq (Zb hu) (pv 0) (pv 1) (by with_unfolding_all rfl))) (fun _=>(jia PySem.F.slot_tuple_index PySem.F.type_tuple_index jb3 (pv 1) (jc (pv 0) ji)))))),?_⟩
  try dsimp only[kH]
  have X:Ext Fe H0 Fe H0:=Ext.refl S_;unfold j6 at Hm;replace kc:(cT cI).rep K Fe row y8:=kc;have qJ:Bor K H0 Fe cI zJ Jh:=zK;clear zK;exact kf (K:=K) (yH (yN (kl (jh (p:=pB cI) (i:=1) rfl (Bor.b qJ X)))) [some y8] rfl (fun b2 thing _ _ E1=>(qN (jl (jgN eqI (by decide)) (yF (jV (i:=0) rfl)) (yF (jh (p:=pF (cT cI)) (i:=1) rfl (Cd.mono _ (E1).f kc))) rfl))) (fun b2 thing _ _ E1=>(Vr (jh (p:=pF (cT cI)) (i:=1) rfl (Cd.mono _ (E1).f kc)) (jV (i:=0) rfl) rfl)) rfl) X Hm Kk
theorem sc_slid:FnScope ["order","row","moved","gap","higher","place"] ["order","row"] (jn (top 34)):=⟨rfl,rfl,rfl,by decide +kernel,rfl,by decide +kernel,by decide +kernel⟩
theorem jge (B:Bi mg) (T_Order:Txt_Order K mg jd) (Fn:Fun K "slid" "slid" (top 34) f fd) (xB:Mth P w K mg base jd "just_above" 2 ["self","thing"] (sp2 K (pF (jA jd)) (pF cI) (rO cI) kn)) (qg:Def P w K mg base "places_within" 1 ["row","things"] (sp2 K (pF (cT cI)) (pB cI) (rO cI) j6)):FnOk P w K mg base CX0 3 f fd ["order","row"] (sp2 K (pF (jA jd)) (pF (cT cI)) (rF (cT cI)) Gd):=by
 refine Fn.ok sc_slid (fun vs H Q E h=>?_) (fun cdv A outer s H0 vs Q E_ hr h=>?_)
 ·obtain⟨_,_,_,_,_,_,rfl,_⟩:=h;rfl
 ·obtain⟨order,row,kC,y8,Fe,R,rfl,S_,jk,kc,Hm,Kk⟩:=h;have nd:=sc_slid.nd;have hu:=kG hr;refine⟨_,(jg (jM (i:=2) nd rfl (Or.inl rfl) (qD qX rfl B.list_ (by kernel_rfl) (jc (pv 1) ji)))
   (jg (jM (i:=3) nd rfl (Or.inl rfl) (qS zd (pv 1) jy (fun _ _=>rfl)))
   (jg (jM (i:=4) nd rfl (Or.inl rfl) (jU qg (hr.mono (by decide)) rfl (jc (pv 1) (jc (zD xB (hr.mono (by decide)) (pv 0) (jc (pv 3) ji)) ji))))
   (jg (Jd PassesOwn.never (kq ja2 (jP jQ rfl B.len_ (by kernel_rfl) (jc (pv 4) ji)) jy (kD _)) (jg (jM (i:=5) nd rfl (Or.inl rfl) (jP (jb4 rfl) rfl B.min_ (by kernel_rfl) (jc (pv 4) ji)))
   (jg (jaR (pv 3) (jaQ (pv 2) (pv 5) U8))
   (jg (jM (i:=3) nd rfl (Or.inl rfl) (qS zd (pv 1) (pv 5) (fun _ _=>rfl)))
   (jo (jM (i:=4) nd rfl (Or.inl rfl) (jU qg (hr.mono (by decide)) rfl (jc (pv 1) (jc (zD xB (hr.mono (by decide)) (pv 0) (jc (pv 3) ji)) ji)))))))))
   (jo (j1 (qD yX rfl B.tuple_ (by kernel_rfl) (jc (ke Y9 (zB jbb (pv 2) (GD jy) GC) (qC (jc (pv 3) ji))) ji)))))))),?_⟩
  try dsimp only[kH]
  have X:Ext Fe H0 Fe H0:=Ext.refl S_;unfold Gd at Hm;replace jk:(jA jd).rep K Fe order kC:=jk;replace kc:(cT cI).rep K Fe row y8:=kc;refine(x5 (K:=K) (jL jbo (jh (p:=pF (cT cI)) (i:=1) rfl kc) rfl) X Hm ?_);intro moved ye F H Hm E X Hn O_moved;replace jk:=E.xc jk;replace kc:=E.xc kc;refine(q9 (K:=K) (jl Js (jh (p:=pF (cT cI)) (i:=1) rfl kc) (jz _) rfl) X Hm ?_);intro gap F H Hm E X;replace jk:=E.xc jk;replace kc:=E.xc kc;replace O_moved:=O_moved.mono E;refine(x6 (K:=K) (c:=(cL cI)) (qZ (kL (jh (p:=pF (cT cI)) (i:=1) rfl kc) (xj (kE zh (jh (p:=pF (jA jd)) (i:=0) rfl jk) (jV (i:=3) rfl) rfl)) rfl)) X Hm ?_);intro higher zM F H Hm E X qo;replace jk:=E.xc jk;replace kc:=E.xc kc;replace O_moved:=O_moved.mono E;refine Qc (K:=K) X Hm (fun F1 b σ' F' H'=>match b with | (moved,gap,higher)=>∃ (ye:Addr) (zM:V) (w3_:Option V),σ'=[some kC,some y8,some (.ref ye),some (.int gap),some zM,w3_]/\(Ext Fe H0 F' H'/\Same F1 F')/\Own K H0 F' H' cI moved ye/\(cL cI).rep K F' higher zM) ?_ ?_ ?_ ?_ ?_
  ·exact⟨_,_,_,rfl,⟨X,(Same.refl _)⟩,O_moved,qo⟩
  ·rintro F1 ⟨moved,gap,higher⟩ σ_ F_ H_ ⟨ye,zM,w3_,rfl,⟨X_,SF_⟩,O_moved,qo⟩;exact⟨X_,SF_⟩
  ·rintro⟨moved,gap,higher⟩ σ_ F H ⟨ye,zM,w3_,rfl,⟨X,SF_⟩,O_moved,qo⟩;exact(qN (jl Qr (jL xY (kl (kW (jh (p:=pF (cL cI)) (i:=4) rfl qo))) rfl) (jz _) rfl))
  ·rintro⟨moved,gap,higher⟩ B_ σ_ F_ H_ F H ⟨ye,zM,w3_,rfl,⟨X,SF_⟩,O_moved,qo⟩ E Hm
   try dsimp only at Hm
   have SL0:=SF_;replace jk:=Cd.mono _ SF_ jk;replace kc:=Cd.mono _ SF_ kc;replace X:=Ext.trans X E;replace jk:=E.xc jk;replace kc:=E.xc kc;replace O_moved:=O_moved.mono E;replace qo:=E.xc qo;replace SL0:=E.xd SL0;refine(q9 (K:=K) (jL jg4 (kl (kW (jh (p:=pF (cL cI)) (i:=4) rfl qo))) rfl) X Hm ?_);intro place F H Hm E X;replace jk:=E.xc jk;replace kc:=E.xc kc;replace O_moved:=O_moved.mono E;replace qo:=E.xc qo;replace SL0:=E.xd SL0;refine(Vo (K:=K) (k':=2) rfl O_moved (jV (i:=3) rfl) (jV (i:=5) rfl) X Hm ?_);intro moved F H Hm Cg X O_moved;replace jk:=Cd.mono _ Cg.f jk;replace kc:=Cd.mono _ Cg.f kc;replace qo:=Cd.mono _ Cg.f qo;replace SL0:=Same.trans SL0 Cg.f;refine(q9 (K:=K) (jl Js (jh (p:=pF (cT cI)) (i:=1) rfl kc) (jV (i:=5) rfl) rfl) X Hm ?_);intro gap F H Hm E X;replace jk:=E.xc jk;replace kc:=E.xc kc;replace O_moved:=O_moved.mono E;replace qo:=E.xc qo;replace SL0:=E.xd SL0;refine(yj (K:=K) (c:=(cL cI)) (qZ (kL (jh (p:=pF (cT cI)) (i:=1) rfl kc) (xj (kE zh (jh (p:=pF (jA jd)) (i:=0) rfl jk) (jV (i:=3) rfl) rfl)) rfl)) X Hm ?_);intro higher zM F H Hm E X qo;replace O_moved:=O_moved.mono E;replace SL0:=E.xd SL0;cases Hm;exact⟨F,_,_,_,rfl,⟨X,SL0⟩,O_moved,qo⟩
  ·rintro⟨moved,gap,higher⟩ σ_ F_ H_ F H ⟨ye,zM,w3_,rfl,⟨X,SF_⟩,O_moved,qo⟩ E Hm
   try dsimp only at Hm
   replace X:=Ext.trans X E;replace O_moved:=O_moved.mono E;exact kf (K:=K) (xy Zd (kl (xj (jl jdq (xj (UR (kl (jh (p:=pB cI) (i:=2) rfl O_moved.b)) (xE (jz _) rfl) GF rfl)) (xj (qE (jJ (jV (i:=3) rfl) (qr (c:=cI)) rfl) (by decide))) rfl))) rfl) X Hm Kk
theorem sc_Slide_done:FnScope ["self","one"] ["self","one"] (jn ((jH (top 38) 0))):=⟨rfl,rfl,rfl,by decide +kernel,rfl,by decide +kernel,by decide +kernel⟩
theorem Wa (B:Bi mg) (T_Order:Txt_Order K mg jd) (T_Slide:Txt_Slide K mg j3) (Fn:Fun K "done" "Slide.done" ((jH (top 38) 0)) f fd) (qM:Def P w K mg base "check_line" 3 ["order","line"] (sp2 K (pF (jA jd)) (pF (cT cI)) (rF cU) kx)) (U3:Def P w K mg base "slid" 3 ["order","row"] (sp2 K (pF (jA jd)) (pF (cT cI)) (rF (cT cI)) Gd)):FnOk P w K mg base CX0 4 f fd ["self","one"] (sp2 K (pF (xr jd j3)) (pF (cT cI)) (rF (cT cI)) qd):=by
 refine Fn.ok sc_Slide_done (fun vs H Q E h=>?_) (fun cdv A outer s H0 vs Q E_ hr h=>?_)
 ·obtain⟨_,_,_,_,_,_,rfl,_⟩:=h;rfl
 ·obtain⟨self,one,yK,qj,Fe,R,rfl,S_,j2,jC,Hm,Kk⟩:=h;have nd:=sc_Slide_done.nd;have hu:=kG hr;refine⟨_,(jg (kZ (jU qM (hr.mono (by decide)) rfl (jc (yR (pv 0) rfl) (jc (pv 1) ji))))
   (jo (j1 (jU U3 (hr.mono (by decide)) rfl (jc (yR (pv 0) rfl) (jc (pv 1) ji)))))),?_⟩
  try dsimp only[kH]
  have X:Ext Fe H0 Fe H0:=Ext.refl S_;unfold qd at Hm;replace j2:(xr jd j3).rep K Fe self yK:=j2;replace jC:(cT cI).rep K Fe one qj:=jC;refine(Q2 (K:=K) (jI (kT (GK T_Slide) (jh (p:=pF (xr jd j3)) (i:=0) rfl j2) rfl) (jh (p:=pF (cT cI)) (i:=1) rfl jC) rfl) X Hm ?_);intro _ F H Hm E X;replace j2:=E.xc j2;replace jC:=E.xc jC;exact kf (K:=K) (jI (kT (GK T_Slide) (jh (p:=pF (xr jd j3)) (i:=0) rfl j2) rfl) (jh (p:=pF (cT cI)) (i:=1) rfl jC) rfl) X Hm Kk
theorem sc_Above_done:FnScope ["self","one","row","end"] ["self","one"] (jn ((jH (top 39) 0))):=⟨rfl,rfl,rfl,by decide +kernel,rfl,by decide +kernel,by decide +kernel⟩
theorem Wb (B:Bi mg) (T_Above:Txt_Above K mg j4) (T_Order:Txt_Order K mg jd) (Fn:Fun K "done" "Above.done" ((jH (top 39) 0)) f fd) (qM:Def P w K mg base "check_line" 3 ["order","line"] (sp2 K (pF (jA jd)) (pF (cT cI)) (rF cU) kx)) (U3:Def P w K mg base "slid" 3 ["order","row"] (sp2 K (pF (jA jd)) (pF (cT cI)) (rF (cT cI)) Gd)):FnOk P w K mg base CX0 4 f fd ["self","one"] (sp2 K (pF (xt jd j4)) (pF (cT cI)) (rF (cT cI)) qe):=by
 refine Fn.ok sc_Above_done (fun vs H Q E h=>?_) (fun cdv A outer s H0 vs Q E_ hr h=>?_)
 ·obtain⟨_,_,_,_,_,_,rfl,_⟩:=h;rfl
 ·obtain⟨self,one,yK,qj,Fe,R,rfl,S_,j2,jC,Hm,Kk⟩:=h;have nd:=sc_Above_done.nd;have hu:=kG hr;refine⟨_,(jg (kZ (jU qM (hr.mono (by decide)) rfl (jc (yR (pv 0) rfl) (jc (pv 1) ji))))
   (jg (jM (i:=2) nd rfl (Or.inl rfl) (pv 1))
   (jg (kP PassesOwn.never rfl (jb_ rfl B.range_ (jc (jP jQ rfl B.len_ (by kernel_rfl) (jc (pv 1) ji)) (jc jy (jc (je5 jaZ jy) ji)))) (jN (i:=3) nd rfl (Or.inl rfl)) (jo (jM (i:=2) nd rfl (Or.inl rfl) (ke JQ (jU U3 (hr.mono (by decide)) rfl (jc (yR (pv 0) rfl) (jc (zB Qd (pv 2) GC (GD (pv 3))) ji))) (zB Qd (pv 2) (GD (pv 3)) GC)))))
   (jo (j1 (pv 2)))))),?_⟩
  try dsimp only[kH]
  have X:Ext Fe H0 Fe H0:=Ext.refl S_;unfold qe at Hm;replace j2:(xt jd j4).rep K Fe self yK:=j2;replace jC:(cT cI).rep K Fe one qj:=jC;refine(Q2 (K:=K) (jI (kT (GL T_Above) (jh (p:=pF (xt jd j4)) (i:=0) rfl j2) rfl) (jh (p:=pF (cT cI)) (i:=1) rfl jC) rfl) X Hm ?_);intro _ F H Hm E X;replace j2:=E.xc j2;replace jC:=E.xc jC;refine(x6 (K:=K) (c:=(cT cI)) (jh (p:=pF (cT cI)) (i:=1) rfl jC) X Hm ?_);intro row y8 F H Hm E X kc;replace j2:=E.xc j2;replace jC:=E.xc jC;refine Ji (K:=K) (c:=cI) ?_ X Hm (fun F1 row σ' F' H'=>∃ (y8:V) (w1_:Option V),σ'=[some yK,some qj,some y8,w1_]/\(Ext Fe H0 F' H'/\Same F1 F')/\(cT cI).rep K F' row y8) ?_ ?_ ?_ ?_
  ·exact(YJ (jL UO (jh (p:=pF (cT cI)) (i:=1) rfl jC) rfl) (jz _) (Q3 o_u (jz _) rfl) rfl)
  ·intro F H E X;replace kc:=E.xc kc;exact⟨_,_,rfl,⟨X,(Same.refl _)⟩,kc⟩
  ·rintro F1 row σ_ F_ H_ ⟨y8,w1_,rfl,⟨X_,SF_⟩,kc⟩;exact⟨X_,SF_⟩
  ·rintro F1 S0_ row B_ end_ jhM σ_ F_ H_ F H ⟨y8,w1_,rfl,⟨X,SF_⟩,kc⟩ E jhN Hm
   try dsimp only at Hm
   have SL0:=SF_;replace SF_:=Same.trans S0_ SF_;replace j2:=Cd.mono _ SF_ j2;replace X:=Ext.trans X E;replace j2:=E.xc j2;replace kc:=E.xc kc;replace SL0:=E.xd SL0;obtain rfl:jhM=.int end_:=jhN;refine qb ?_;refine(yj (K:=K) (c:=(cT cI)) (kr WQ (jI (kT (GL T_Above) (jh (p:=pF (xt jd j4)) (i:=0) rfl j2) rfl) (zb (jh (p:=pF (cT cI)) (i:=2) rfl kc) GF (xE (jV (i:=3) rfl) rfl) rfl) rfl) (zb (jh (p:=pF (cT cI)) (i:=2) rfl kc) (xE (jV (i:=3) rfl) rfl) GF rfl) rfl) X Hm ?_);intro row y8 F H Hm E X kc;replace SL0:=E.xd SL0;cases Hm;exact⟨F,_,_,rfl,⟨X,SL0⟩,kc⟩
  ·rintro F1 S0_ row σ_ F H Hm ⟨y8,w1_,rfl,⟨X,SF_⟩,kc⟩
   try dsimp only at Hm
   exact kf (K:=K) (jh (p:=pF (cT cI)) (i:=2) rfl kc) X Hm Kk
theorem sc_Order_just_below:FnScope ["self","thing"] ["self","thing"] (jn ((jH (top 19) 5))):=⟨rfl,rfl,rfl,by decide +kernel,rfl,by decide +kernel,by decide +kernel⟩
theorem JD (B:Bi mg) (T_Order:Txt_Order K mg jd) (Fn:Fun K "just_below" "Order.just_below" ((jH (top 19) 5)) f fd) (kU:Mth P w K mg base jd "check_thing" 1 ["self","thing"] (sp2 K (pF (jA jd)) (pF cI) (rF cU) j8)):FnOk P w K mg base CX0 2 f fd ["self","thing"] (sp2 K (pF (jA jd)) (pF cI) (rO cI) ko):=by
 refine Fn.ok sc_Order_just_below (fun vs H Q E h=>?_) (fun cdv A outer s H0 vs Q E_ hr h=>?_)
 ·obtain⟨_,_,_,_,_,_,rfl,_⟩:=h;rfl
 ·obtain⟨self,thing,yK,xO,Fe,R,rfl,S_,j2,xP,Hm,Kk⟩:=h;have nd:=sc_Order_just_below.nd;have hu:=kG hr;refine⟨_,(jg (kZ (zD kU (hr.mono (by decide)) (pv 0) (jc (pv 1) ji)))
   (jo (j1 (qk (own:=["low","high"]) (ix:=[1]) (qY rfl) rfl (jaV (yR (pv 0) rfl)) (fun _=>(Ws rfl (yC (jN (i:=0) (show List.Nodup (["low","high","thing"]:List Str) by decide +kernel) rfl (Or.inl rfl)) (yC (jN (i:=1) (show List.Nodup (["low","high","thing"]:List Str) by decide +kernel) rfl (Or.inl rfl)) QM)))) (fun _=>zS (kq yW (pv 1) (pv 2) (kD _))) (fun _=>(pv 0)))))),?_⟩
  try dsimp only[kH]
  have X:Ext Fe H0 Fe H0:=Ext.refl S_;unfold ko at Hm;replace j2:(jA jd).rep K Fe self yK:=j2;obtain rfl:xO=.int thing:=xP;refine(Q2 (K:=K) (kE yU (jh (p:=pF (jA jd)) (i:=0) rfl j2) (jV (i:=1) rfl) rfl) X Hm ?_);intro _ F H Hm E X;replace j2:=E.xc j2;exact kf (K:=K) (JP (jez (kT (yT T_Order) (jh (p:=pF (jA jd)) (i:=0) rfl j2) rfl)) [some (.int thing)] rfl (fun b2 low high _ _ E1=>(qN (jl y0 (jV (i:=1) rfl) (jV (i:=2) rfl) rfl))) (fun b2 low high _ _ E1=>(jV (i:=0) rfl)) rfl) X Hm Kk
theorem sc_slid_back:FnScope ["order","row","moved","gap","lower","place"] ["order","row"] (jn (top 35)):=⟨rfl,rfl,rfl,by decide +kernel,rfl,by decide +kernel,by decide +kernel⟩
theorem Yd (B:Bi mg) (T_Order:Txt_Order K mg jd) (Fn:Fun K "slid_back" "slid_back" (top 35) f fd) (xC:Mth P w K mg base jd "just_below" 2 ["self","thing"] (sp2 K (pF (jA jd)) (pF cI) (rO cI) ko)) (qg:Def P w K mg base "places_within" 1 ["row","things"] (sp2 K (pF (cT cI)) (pB cI) (rO cI) j6)):FnOk P w K mg base CX0 3 f fd ["order","row"] (sp2 K (pF (jA jd)) (pF (cT cI)) (rF (cT cI)) qP):=by
 refine Fn.ok sc_slid_back (fun vs H Q E h=>?_) (fun cdv A outer s H0 vs Q E_ hr h=>?_)
 ·obtain⟨_,_,_,_,_,_,rfl,_⟩:=h;rfl
 ·obtain⟨order,row,kC,y8,Fe,R,rfl,S_,jk,kc,Hm,Kk⟩:=h;have nd:=sc_slid_back.nd;have hu:=kG hr;refine⟨_,(jg (jM (i:=2) nd rfl (Or.inl rfl) (qD qX rfl B.list_ (by kernel_rfl) (jc (pv 1) ji)))
   (jg (jM (i:=3) nd rfl (Or.inl rfl) (qS zd (pv 1) (je5 jaZ jy) (fun _ _=>rfl)))
   (jg (jM (i:=4) nd rfl (Or.inl rfl) (jU qg (hr.mono (by decide)) rfl (jc (pv 1) (jc (zD xC (hr.mono (by decide)) (pv 0) (jc (pv 3) ji)) ji))))
   (jg (Jd PassesOwn.never (kq ja2 (jP jQ rfl B.len_ (by kernel_rfl) (jc (pv 4) ji)) jy (kD _)) (jg (jM (i:=5) nd rfl (Or.inl rfl) (jP (jb5 rfl) rfl B.max_ (by kernel_rfl) (jc (pv 4) ji)))
   (jg (jaR (pv 3) (jaQ (pv 2) (pv 5) U8))
   (jg (jM (i:=3) nd rfl (Or.inl rfl) (qS zd (pv 1) (pv 5) (fun _ _=>rfl)))
   (jo (jM (i:=4) nd rfl (Or.inl rfl) (jU qg (hr.mono (by decide)) rfl (jc (pv 1) (jc (zD xC (hr.mono (by decide)) (pv 0) (jc (pv 3) ji)) ji)))))))))
   (jo (j1 (qD yX rfl B.tuple_ (by kernel_rfl) (jc (ke Y9 (qC (jc (pv 3) ji)) (zB jbb (pv 2) GC (GD (je5 jaZ jy)))) ji)))))))),?_⟩
  try dsimp only[kH]
  have X:Ext Fe H0 Fe H0:=Ext.refl S_;unfold qP at Hm;replace jk:(jA jd).rep K Fe order kC:=jk;replace kc:(cT cI).rep K Fe row y8:=kc;refine(x5 (K:=K) (jL jbo (jh (p:=pF (cT cI)) (i:=1) rfl kc) rfl) X Hm ?_);intro moved ye F H Hm E X Hn O_moved;replace jk:=E.xc jk;replace kc:=E.xc kc;refine(q9 (K:=K) (jl Js (jh (p:=pF (cT cI)) (i:=1) rfl kc) (Q3 o_u (jz _) rfl) rfl) X Hm ?_);intro gap F H Hm E X;replace jk:=E.xc jk;replace kc:=E.xc kc;replace O_moved:=O_moved.mono E;refine(x6 (K:=K) (c:=(cL cI)) (qZ (kL (jh (p:=pF (cT cI)) (i:=1) rfl kc) (xj (kE zi (jh (p:=pF (jA jd)) (i:=0) rfl jk) (jV (i:=3) rfl) rfl)) rfl)) X Hm ?_);intro lower G5 F H Hm E X xp;replace jk:=E.xc jk;replace kc:=E.xc kc;replace O_moved:=O_moved.mono E;refine Qc (K:=K) X Hm (fun F1 b σ' F' H'=>match b with | (moved,gap,lower)=>∃ (ye:Addr) (G5:V) (w3_:Option V),σ'=[some kC,some y8,some (.ref ye),some (.int gap),some G5,w3_]/\(Ext Fe H0 F' H'/\Same F1 F')/\Own K H0 F' H' cI moved ye/\(cL cI).rep K F' lower G5) ?_ ?_ ?_ ?_ ?_
  ·exact⟨_,_,_,rfl,⟨X,(Same.refl _)⟩,O_moved,xp⟩
  ·rintro F1 ⟨moved,gap,lower⟩ σ_ F_ H_ ⟨ye,G5,w3_,rfl,⟨X_,SF_⟩,O_moved,xp⟩;exact⟨X_,SF_⟩
  ·rintro⟨moved,gap,lower⟩ σ_ F H ⟨ye,G5,w3_,rfl,⟨X,SF_⟩,O_moved,xp⟩;exact(qN (jl Qr (jL xY (kl (kW (jh (p:=pF (cL cI)) (i:=4) rfl xp))) rfl) (jz _) rfl))
  ·rintro⟨moved,gap,lower⟩ B_ σ_ F_ H_ F H ⟨ye,G5,w3_,rfl,⟨X,SF_⟩,O_moved,xp⟩ E Hm
   try dsimp only at Hm
   have SL0:=SF_;replace jk:=Cd.mono _ SF_ jk;replace kc:=Cd.mono _ SF_ kc;replace X:=Ext.trans X E;replace jk:=E.xc jk;replace kc:=E.xc kc;replace O_moved:=O_moved.mono E;replace xp:=E.xc xp;replace SL0:=E.xd SL0;refine(q9 (K:=K) (jL jg5 (kl (kW (jh (p:=pF (cL cI)) (i:=4) rfl xp))) rfl) X Hm ?_);intro place F H Hm E X;replace jk:=E.xc jk;replace kc:=E.xc kc;replace O_moved:=O_moved.mono E;replace xp:=E.xc xp;replace SL0:=E.xd SL0;refine(Vo (K:=K) (k':=2) rfl O_moved (jV (i:=3) rfl) (jV (i:=5) rfl) X Hm ?_);intro moved F H Hm Cg X O_moved;replace jk:=Cd.mono _ Cg.f jk;replace kc:=Cd.mono _ Cg.f kc;replace xp:=Cd.mono _ Cg.f xp;replace SL0:=Same.trans SL0 Cg.f;refine(q9 (K:=K) (jl Js (jh (p:=pF (cT cI)) (i:=1) rfl kc) (jV (i:=5) rfl) rfl) X Hm ?_);intro gap F H Hm E X;replace jk:=E.xc jk;replace kc:=E.xc kc;replace O_moved:=O_moved.mono E;replace xp:=E.xc xp;replace SL0:=E.xd SL0;refine(yj (K:=K) (c:=(cL cI)) (qZ (kL (jh (p:=pF (cT cI)) (i:=1) rfl kc) (xj (kE zi (jh (p:=pF (jA jd)) (i:=0) rfl jk) (jV (i:=3) rfl) rfl)) rfl)) X Hm ?_);intro lower G5 F H Hm E X xp;replace O_moved:=O_moved.mono E;replace SL0:=E.xd SL0;cases Hm;exact⟨F,_,_,_,rfl,⟨X,SL0⟩,O_moved,xp⟩
  ·rintro⟨moved,gap,lower⟩ σ_ F_ H_ F H ⟨ye,G5,w3_,rfl,⟨X,SF_⟩,O_moved,xp⟩ E Hm
   try dsimp only at Hm
   replace X:=Ext.trans X E;replace O_moved:=O_moved.mono E;exact kf (K:=K) (xy Zd (kl (xj (jl jdq (xj (qE (jJ (jV (i:=3) rfl) (qr (c:=cI)) rfl) (by decide))) (xj (UR (kl (jh (p:=pB cI) (i:=2) rfl O_moved.b)) GF (xE (Q3 o_u (jz _) rfl) rfl) rfl)) rfl))) rfl) X Hm Kk
theorem sc_Below_done:FnScope ["self","one","row","start"] ["self","one"] (jn ((jH (top 40) 0))):=⟨rfl,rfl,rfl,by decide +kernel,rfl,by decide +kernel,by decide +kernel⟩
theorem Wc (B:Bi mg) (T_Below:Txt_Below K mg j5) (T_Order:Txt_Order K mg jd) (Fn:Fun K "done" "Below.done" ((jH (top 40) 0)) f fd) (qM:Def P w K mg base "check_line" 3 ["order","line"] (sp2 K (pF (jA jd)) (pF (cT cI)) (rF cU) kx)) (JF:Def P w K mg base "slid_back" 3 ["order","row"] (sp2 K (pF (jA jd)) (pF (cT cI)) (rF (cT cI)) qP)):FnOk P w K mg base CX0 4 f fd ["self","one"] (sp2 K (pF (xu jd j5)) (pF (cT cI)) (rF (cT cI)) qf):=by
 refine Fn.ok sc_Below_done (fun vs H Q E h=>?_) (fun cdv A outer s H0 vs Q E_ hr h=>?_)
 ·obtain⟨_,_,_,_,_,_,rfl,_⟩:=h;rfl
 ·obtain⟨self,one,yK,qj,Fe,R,rfl,S_,j2,jC,Hm,Kk⟩:=h;have nd:=sc_Below_done.nd;have hu:=kG hr;refine⟨_,(jg (kZ (jU qM (hr.mono (by decide)) rfl (jc (yR (pv 0) rfl) (jc (pv 1) ji))))
   (jg (jM (i:=2) nd rfl (Or.inl rfl) (pv 1))
   (jg (kP PassesOwn.never rfl (kh rfl B.range_ (jc (ke Gw (jP jQ rfl B.len_ (by kernel_rfl) (jc (pv 1) ji)) jy) ji)) (jN (i:=3) nd rfl (Or.inl rfl)) (jo (jM (i:=2) nd rfl (Or.inl rfl) (ke JQ (zB Qd (pv 2) GC (GD (pv 3))) (jU JF (hr.mono (by decide)) rfl (jc (yR (pv 0) rfl) (jc (zB Qd (pv 2) (GD (pv 3)) GC) ji)))))))
   (jo (j1 (pv 2)))))),?_⟩
  try dsimp only[kH]
  have X:Ext Fe H0 Fe H0:=Ext.refl S_;unfold qf at Hm;replace j2:(xu jd j5).rep K Fe self yK:=j2;replace jC:(cT cI).rep K Fe one qj:=jC;refine(Q2 (K:=K) (jI (kT (GM T_Below) (jh (p:=pF (xu jd j5)) (i:=0) rfl j2) rfl) (jh (p:=pF (cT cI)) (i:=1) rfl jC) rfl) X Hm ?_);intro _ F H Hm E X;replace j2:=E.xc j2;replace jC:=E.xc jC;refine(x6 (K:=K) (c:=(cT cI)) (jh (p:=pF (cT cI)) (i:=1) rfl jC) X Hm ?_);intro row y8 F H Hm E X kc;replace j2:=E.xc j2;replace jC:=E.xc jC;refine Ji (K:=K) (c:=cI) ?_ X Hm (fun F1 row σ' F' H'=>∃ (y8:V) (w1_:Option V),σ'=[some yK,some qj,some y8,w1_]/\(Ext Fe H0 F' H'/\Same F1 F')/\(cT cI).rep K F' row y8) ?_ ?_ ?_ ?_
  ·exact(kA (jl kI (jL UO (jh (p:=pF (cT cI)) (i:=1) rfl jC) rfl) (jz _) rfl) rfl)
  ·intro F H E X;replace kc:=E.xc kc;exact⟨_,_,rfl,⟨X,(Same.refl _)⟩,kc⟩
  ·rintro F1 row σ_ F_ H_ ⟨y8,w1_,rfl,⟨X_,SF_⟩,kc⟩;exact⟨X_,SF_⟩
  ·rintro F1 S0_ row B_ J_ jgf σ_ F_ H_ F H ⟨y8,w1_,rfl,⟨X,SF_⟩,kc⟩ E jgg Hm
   try dsimp only at Hm
   have SL0:=SF_;replace SF_:=Same.trans S0_ SF_;replace j2:=Cd.mono _ SF_ j2;replace X:=Ext.trans X E;replace j2:=E.xc j2;replace kc:=E.xc kc;replace SL0:=E.xd SL0;obtain rfl:jgf=.int J_:=jgg;refine qb ?_;refine(yj (K:=K) (c:=(cT cI)) (kr WQ (zb (jh (p:=pF (cT cI)) (i:=2) rfl kc) GF (xE (jV (i:=3) rfl) rfl) rfl) (jI (kT (GM T_Below) (jh (p:=pF (xu jd j5)) (i:=0) rfl j2) rfl) (zb (jh (p:=pF (cT cI)) (i:=2) rfl kc) (xE (jV (i:=3) rfl) rfl) GF rfl) rfl) rfl) X Hm ?_);intro row y8 F H Hm E X kc;replace SL0:=E.xd SL0;cases Hm;exact⟨F,_,_,rfl,⟨X,SL0⟩,kc⟩
  ·rintro F1 S0_ row σ_ F H Hm ⟨y8,w1_,rfl,⟨X,SF_⟩,kc⟩
   try dsimp only at Hm
   exact kf (K:=K) (jh (p:=pF (cT cI)) (i:=2) rfl kc) X Hm Kk
theorem sc_round_of_2:FnScope ["turn","one","circle","following"] ["turn","one"] (jn (top 2)):=⟨rfl,rfl,rfl,by decide +kernel,rfl,by decide +kernel,by decide +kernel⟩
theorem Wd (B:Bi mg) (T_Above:Txt_Above K mg j4) (T_Below:Txt_Below K mg j5) (T_Order:Txt_Order K mg jd) (T_Slide:Txt_Slide K mg j3) (Fn:Fun K "round_of" "round_of" (top 2) f fd) (zN:Mth P w K mg base j3 "done" 4 ["self","one"] (sp2 K (pF (xr jd j3)) (pF (cT cI)) (rF (cT cI)) qd)) (zO:Mth P w K mg base j4 "done" 4 ["self","one"] (sp2 K (pF (xt jd j4)) (pF (cT cI)) (rF (cT cI)) qe)) (zP:Mth P w K mg base j5 "done" 4 ["self","one"] (sp2 K (pF (xu jd j5)) (pF (cT cI)) (rF (cT cI)) qf)):FnOk P w K mg base CX0 5 f fd ["turn","one"] (sp2 K (pF (Qf (xr jd j3) (Qf (xt jd j4) (xu jd j5)))) (pF (cT cI)) (rO (cT cI)) qu):=by
 refine Fn.ok sc_round_of_2 (fun vs H Q E h=>?_) (fun cdv A outer s H0 vs Q E_ hr h=>?_)
 ·obtain⟨_,_,_,_,_,_,rfl,_⟩:=h;rfl
 ·obtain⟨turn,one,zA,qj,Fe,R,rfl,S_,jB,jC,Hm,Kk⟩:=h;have nd:=sc_round_of_2.nd;have hu:=kG hr;refine⟨_,(jg (jM (i:=2) nd rfl (Or.inl rfl) (qC (jc (pv 1) ji)))
   (jg (jM (i:=3) nd rfl (Or.inl rfl) (Zv (zD zN (hr.mono (by decide)) (pv 0) (jc (pv 1) ji)) (Zv (zD zO (hr.mono (by decide)) (pv 0) (jc (pv 1) ji)) (zD zP (hr.mono (by decide)) (pv 0) (jc (pv 1) ji)))))
   (jg (Jd PassesOwn.never (kq (QU hu) (pv 3) (pv 1) (kD _)) (jg (kZ (zR Xx Xz Xy kJ (pv 2) (jc (pv 3) ji)))
   (jo (jM (i:=3) nd rfl (Or.inl rfl) (Zv (zD zN (hr.mono (by decide)) (pv 0) (jc (pv 3) ji)) (Zv (zD zO (hr.mono (by decide)) (pv 0) (jc (pv 3) ji)) (zD zP (hr.mono (by decide)) (pv 0) (jc (pv 3) ji))))))))
   (jo (j1 (pv 2)))))),?_⟩
  try dsimp only[kH]
  have X:Ext Fe H0 Fe H0:=Ext.refl S_;unfold qu at Hm;replace jB:(Qf (xr jd j3) (Qf (xt jd j4) (xu jd j5))).rep K Fe turn zA:=jB;replace jC:(cT cI).rep K Fe one qj:=jC;refine(x5 (K:=K) (qE (jJ (jh (p:=pF (cT cI)) (i:=1) rfl jC) (qr (c:=(cT cI))) rfl) (by decide)) X Hm ?_);intro circle xo F H Hm E X Hn kj;replace jB:=E.xc jB;replace jC:=E.xc jC;refine(x6 (K:=K) (c:=(cT cI)) (Zx jB (fun o1 jB=>(kE JW (jh (p:=pF (xr jd j3)) (i:=0) rfl jB) (jh (p:=pF (cT cI)) (i:=1) rfl jC) rfl)) (fun o2 jB=>(Zx jB (fun o3 jB=>(kE JX (jh (p:=pF (xt jd j4)) (i:=0) rfl jB) (jh (p:=pF (cT cI)) (i:=1) rfl jC) rfl)) (fun o4 jB=>(kE JY (jh (p:=pF (xu jd j5)) (i:=0) rfl jB) (jh (p:=pF (cT cI)) (i:=1) rfl jC) rfl)) rfl)) rfl) X Hm ?_);intro following xR F H Hm E X ky;replace jB:=E.xc jB;replace jC:=E.xc jC;replace kj:=kj.mono E;refine Qc (K:=K) X Hm (fun F1 b σ' F' H'=>match b with | (circle,following)=>∃ (xo:Addr) (xR:V),σ'=[some zA,some qj,some (.ref xo),some xR]/\(Ext Fe H0 F' H'/\Same F1 F')/\Own K H0 F' H' (cT cI) circle xo/\(cT cI).rep K F' following xR) ?_ ?_ ?_ ?_ ?_
  ·exact⟨_,_,rfl,⟨X,(Same.refl _)⟩,kj,ky⟩
  ·rintro F1 ⟨circle,following⟩ σ_ F_ H_ ⟨xo,xR,rfl,⟨X_,SF_⟩,kj,ky⟩;exact⟨X_,SF_⟩
  ·rintro⟨circle,following⟩ σ_ F H ⟨xo,xR,rfl,⟨X,SF_⟩,kj,ky⟩;replace jC:=Cd.mono _ SF_ jC;exact(qN (jl (Yt (eqT eqI) (by decide) nfT) (yF (jh (p:=pF (cT cI)) (i:=3) rfl ky)) (yF (jh (p:=pF (cT cI)) (i:=1) rfl jC)) rfl))
  ·rintro⟨circle,following⟩ B_ σ_ F_ H_ F H ⟨xo,xR,rfl,⟨X,SF_⟩,kj,ky⟩ E Hm
   try dsimp only at Hm
   have SL0:=SF_;replace jB:=Cd.mono _ SF_ jB;replace X:=Ext.trans X E;replace jB:=E.xc jB;replace kj:=kj.mono E;replace ky:=E.xc ky;replace SL0:=E.xd SL0;refine(y9 (K:=K) (k':=2) rfl kj (jh (p:=pF (cT cI)) (i:=3) rfl ky) X Hm ?_);intro circle F H Hm Cg X kj;replace jB:=Cd.mono _ Cg.f jB;replace ky:=Cd.mono _ Cg.f ky;replace SL0:=Same.trans SL0 Cg.f;refine(yj (K:=K) (c:=(cT cI)) (Zx jB (fun o6 jB=>(kE JW (jh (p:=pF (xr jd j3)) (i:=0) rfl jB) (jh (p:=pF (cT cI)) (i:=3) rfl ky) rfl)) (fun o7 jB=>(Zx jB (fun o8 jB=>(kE JX (jh (p:=pF (xt jd j4)) (i:=0) rfl jB) (jh (p:=pF (cT cI)) (i:=3) rfl ky) rfl)) (fun o9 jB=>(kE JY (jh (p:=pF (xu jd j5)) (i:=0) rfl jB) (jh (p:=pF (cT cI)) (i:=3) rfl ky) rfl)) rfl)) rfl) X Hm ?_);intro following xR F H Hm E X ky;replace kj:=kj.mono E;replace SL0:=E.xd SL0;cases Hm;exact⟨F,_,_,rfl,⟨X,SL0⟩,kj,ky⟩
  ·rintro⟨circle,following⟩ σ_ F_ H_ F H ⟨xo,xR,rfl,⟨X,SF_⟩,kj,ky⟩ E Hm
   try dsimp only at Hm
   replace X:=Ext.trans X E;replace kj:=kj.mono E;exact ze (K:=K) (i:=2) rfl kj X Hm Kk
theorem sc_all_rounds_2:FnScope ["turn","ones","found","gone_through","one","circle","other"] ["turn","ones"] (jn (top 3)):=⟨rfl,rfl,rfl,by decide +kernel,rfl,by decide +kernel,by decide +kernel⟩
theorem Ur (B:Bi mg) (T_Above:Txt_Above K mg j4) (T_Below:Txt_Below K mg j5) (T_Order:Txt_Order K mg jd) (T_Slide:Txt_Slide K mg j3) (Fn:Fun K "all_rounds" "all_rounds" (top 3) f fd) (G6:Def P w K mg base "round_of" 5 ["turn","one"] (sp2 K (pF (Qf (xr jd j3) (Qf (xt jd j4) (xu jd j5)))) (pF (cT cI)) (rO (cT cI)) qu)):FnOk P w K mg base CX0 6 f fd ["turn","ones"] (sp2 K (pF (Qf (xr jd j3) (Qf (xt jd j4) (xu jd j5)))) (pB (cT cI)) (rN (cT cI)) qv):=by
 refine Fn.ok sc_all_rounds_2 (fun vs H Q E h=>?_) (fun cdv A outer s H0 vs Q E_ hr h=>?_)
 ·obtain⟨_,_,_,_,_,_,rfl,_⟩:=h;rfl
 ·obtain⟨turn,ones,zA,qA,Fe,R,rfl,S_,jB,jF,Hm,Kk⟩:=h;have nd:=sc_all_rounds_2.nd;have hu:=kG hr;refine⟨_,(jg (jM (i:=2) nd rfl (Or.inl rfl) (qC ji))
   (jg (jM (i:=3) nd rfl (Or.inl rfl) (jdS (fl:=Kt.fl (List Int))))
   (jg (kP PassesOwn.never rfl (kN (pv 1)) (jN (i:=4) nd rfl (Or.inl rfl)) (jo (Gy (qB (jeg (WS (hu1 hu) (pv 4) (pv 3)) (by with_unfolding_all rfl)) (jg (jM (i:=5) nd rfl (Or.inl rfl) (jU G6 (hr.mono (by decide)) rfl (jc (pv 0) (jc (pv 4) ji))))
   (jg (kZ (zR Xx Xz Xy kJ (pv 2) (jc (pv 5) ji)))
   (jo (kP PassesOwn.never rfl (kN (pv 5)) (jN (i:=6) nd rfl (Or.inl rfl)) (jo (GJ (hu1 hu) (pv 3) (pv 6) GA rfl)))))) kg))))
   (jo (j1 (pv 2)))))),?_⟩
  try dsimp only[kH]
  have X:Ext Fe H0 Fe H0:=Ext.refl S_;unfold qv at Hm;replace jB:(Qf (xr jd j3) (Qf (xt jd j4) (xu jd j5))).rep K Fe turn zA:=jB;have jt:Bor K H0 Fe (cT cI) ones qA:=jF;clear jF;refine(x5 (K:=K) (qE (qr (c:=(cLn H0 (cT cI)))) (by decide)) X Hm ?_);intro found js F H Hm E X Hn O_found;replace jB:=E.xc jB;replace jt:=E.xb jt;refine(jfP (K:=K) (jdY (κ:=(List Int)) (c:=cB)) X Hm ?_);intro gone_through jv F H Hm E X Hn O_gone_through;have jm:=Own.ne O_found Hn;have j0:=Ne.symm jm;replace jB:=E.xc jB;replace jt:=E.xb jt;replace O_found:=O_found.mono E;refine yt (K:=K) (c:=(cT cI)) ?_ X Hm (fun F1 b σ' F' H'=>match b with | (found,gone_through)=>∃ (js:Addr) (jv:Addr) (w1_:Option V) (w2_:Option V) (w3_:Option V),σ'=[some zA,some qA,some (.ref js),some (.ref jv),w1_,w2_,w3_]/\(Ext Fe H0 F' H'/\Same F1 F')/\Own K H0 F' H' (cLn H0 (cT cI)) found js/\OwnDT K H0 F' H' cB gone_through jv/\js≠jv) ?_ ?_ ?_ ?_
  ·exact(Gz (i:=1) rfl jt)
  ·intro F H E X;replace O_found:=O_found.mono E;replace O_gone_through:=O_gone_through.mono E;exact⟨_,_,_,_,_,rfl,⟨X,(Same.refl _)⟩,O_found,O_gone_through,jm⟩
  ·rintro F1 ⟨found,gone_through⟩ σ_ F_ H_ ⟨js,jv,w1_,w2_,w3_,rfl,⟨X_,SF_⟩,O_found,O_gone_through,jm⟩;exact⟨X_,SF_⟩
  ·rintro F1 S0_ ⟨found,gone_through⟩ B_ one qj σ_ F_ H_ F H ⟨js,jv,w1_,w2_,w3_,rfl,⟨X,SF_⟩,O_found,O_gone_through,jm⟩ E jC Hm
   try dsimp only at Hm
   have SL0:=SF_;replace SF_:=Same.trans S0_ SF_;replace jB:=Cd.mono _ SF_ jB;have j0:=Ne.symm jm;replace X:=Ext.trans X E;replace jB:=E.xc jB;replace O_found:=O_found.mono E;replace O_gone_through:=O_gone_through.mono E;replace SL0:=E.xd SL0;refine qb ?_;refine(Q0 (K:=K) (fun b σ' H'=>∃ F':Hp,match b with | (found,gone_through)=>∃ (js:Addr) (jv:Addr) (w9_:Option V) (w10_:Option V),σ'=[some zA,some qA,some (.ref js),some (.ref jv),some qj,w9_,w10_]/\(Ext Fe H0 F' H'/\Same F F')/\Own K H0 F' H' (cLn H0 (cT cI)) found js/\OwnDT K H0 F' H' cB gone_through jv/\js≠jv) (qR (YM (jh (p:=pF (cT cI)) (i:=4) rfl jC) (jh (p:=pDT (κ:=(List Int)) cB) (i:=3) rfl O_gone_through.b) rfl)) X Hm ?_ ?_ ?_)
   ·intro B_ F H Hm E X;replace jB:=E.xc jB;replace O_found:=O_found.mono E;replace O_gone_through:=O_gone_through.mono E;replace jC:=E.xc jC;have SJ1:=E.f;refine(jeO (K:=K) (c:=(cT cI)) (jI (jh (p:=pF (Qf (xr jd j3) (Qf (xt jd j4) (xu jd j5)))) (i:=0) rfl jB) (jh (p:=pF (cT cI)) (i:=4) rfl jC) rfl) X Hm ?_);intro circle qm F H Hm E X jE;replace O_found:=O_found.mono E;replace O_gone_through:=O_gone_through.mono E;replace SJ1:=E.xd SJ1;refine(y9 (K:=K) (k':=2) rfl O_found (jh (p:=pF (cLn H0 (cT cI))) (i:=5) rfl jE) X Hm ?_);intro found F H Hm Cg X O_found;replace O_gone_through:=OwnDT.chg O_gone_through Cg j0;replace jE:=Cd.mono _ Cg.f jE;replace SJ1:=Same.trans SJ1 Cg.f;refine Vp (K:=K) (c:=(cT cI)) ?_ X Hm (fun F1 gone_through σ' F' H'=>∃ (jv:Addr) (w5_:Option V),σ'=[some zA,some qA,some (.ref js),some (.ref jv),some qj,some qm,w5_]/\(Ext Fe H0 F' H'/\Same F1 F')/\Own K H0 F' H' (cLn H0 (cT cI)) found js/\OwnDT K H0 F' H' cB gone_through jv/\js≠jv) ?_ ?_ ?_ ?_
    ·exact(Q1 (jhh (jh (p:=pF (cLn H0 (cT cI))) (i:=5) rfl jE)))
    ·intro F H E X;replace O_found:=O_found.mono E;replace O_gone_through:=O_gone_through.mono E;exact⟨_,_,rfl,⟨X,(Same.refl _)⟩,O_found,O_gone_through,jm⟩
    ·rintro F1 gone_through σ_ F_ H_ ⟨jv,w5_,rfl,⟨X_,SF_⟩,O_found,O_gone_through,jm⟩;exact⟨X_,SF_⟩
    ·rintro F1 S0_ gone_through B_ other Wg σ_ F_ H_ F H ⟨jv,w5_,rfl,⟨X,SF_⟩,O_found,O_gone_through,jm⟩ E GU Hm
     try dsimp only at Hm
     have SL2:=SF_;have j0:=Ne.symm jm;replace X:=Ext.trans X E;replace O_found:=O_found.mono E;replace O_gone_through:=O_gone_through.mono E;replace SL2:=E.xd SL2;refine qb ?_;refine(jdZ (K:=K) (k':=3) rfl O_gone_through (GB _) (jh (p:=pF (cT cI)) (i:=6) rfl GU) X Hm ?_);intro gone_through F H Hm Cg X O_gone_through;replace O_found:=Own.chg O_found Cg jm;replace SL2:=Same.trans SL2 Cg.f;cases Hm;exact⟨F,_,_,rfl,⟨X,SL2⟩,O_found,O_gone_through,jm⟩
    ·rintro F1 S0_ gone_through σ_ F H Hm ⟨jv,w5_,rfl,⟨X,SF_⟩,O_found,O_gone_through,jm⟩
     try dsimp only at Hm
     replace SF_:=Same.trans S0_ SF_;replace SJ1:=Same.trans SJ1 SF_;have j0:=Ne.symm jm;cases Hm;exact⟨F,_,_,_,_,rfl,⟨X,SJ1⟩,O_found,O_gone_through,jm⟩
   ·intro B_ F H Hm E X;replace O_found:=O_found.mono E;replace O_gone_through:=O_gone_through.mono E;have SJ1:=E.f;refine Gb ?_;cases Hm;exact⟨F,_,_,_,_,rfl,⟨X,SJ1⟩,O_found,O_gone_through,jm⟩
   ·rintro⟨found,gone_through⟩ σ_ H Hm ⟨F,js,jv,w9_,w10_,rfl,⟨X,SF_⟩,O_found,O_gone_through,jm⟩
    try dsimp only at Hm
    replace SL0:=Same.trans SL0 SF_;have j0:=Ne.symm jm;cases Hm;exact⟨F,_,_,_,_,_,rfl,⟨X,SL0⟩,O_found,O_gone_through,jm⟩
  ·rintro F1 S0_ ⟨found,gone_through⟩ σ_ F H Hm ⟨js,jv,w1_,w2_,w3_,rfl,⟨X,SF_⟩,O_found,O_gone_through,jm⟩
   try dsimp only at Hm
   have j0:=Ne.symm jm;exact jcp (K:=K) (i:=2) rfl O_found X Hm Kk
theorem sc__law_kind_right_2:FnScope ["_law_circle","_law_which"] ["_law_circle","_law_which"] (jn (top 61)):=⟨rfl,rfl,rfl,by decide +kernel,rfl,by decide +kernel,by decide +kernel⟩
theorem Jl (B:Bi mg) (Fn:Fun K "_law_kind_right" "_law_kind_right" (top 61) f fd):FnOk P w K mg base CX0 1 f fd ["_law_circle","_law_which"] (sp2 K (pB (cT cI)) (pF cI) (rF cB) qQ):=by
 refine Fn.ok sc__law_kind_right_2 (fun vs H Q E h=>?_) (fun cdv A outer s H0 vs Q E_ hr h=>?_)
 ·obtain⟨_,_,_,_,_,_,rfl,_⟩:=h;rfl
 ·obtain⟨circle,which,qm,xl,Fe,R,rfl,S_,jE,xm,Hm,Kk⟩:=h;have nd:=sc__law_kind_right_2.nd;have hu:=kG hr;refine⟨_,(jg (qB (yq (qW (jP yY rfl B.isinstance_ (by kernel_rfl) (jc (pv 0) (jc (Gg (v:=.ty "list") rfl B.list_ (by kernel_rfl) rfl) ji))))) (jo (j1 GA)) kg)
   (jg (qB (kq yW (pv 1) jy (kD _)) Vy kg)
   (jo (j1 (jP (zC rfl) rfl B.all_ (by kernel_rfl) (jc (qk (own:=["_law_one"]) (ix:=[]) (qY rfl) rfl (kN (pv 0)) (fun _=>(jN (i:=0) (show List.Nodup (["_law_one"]:List Str) by decide +kernel) rfl (Or.inl rfl))) (fun _=>xZ) (fun _=>(jP yY rfl B.isinstance_ (by kernel_rfl) (jc (pv 0) (jc (Gg (v:=.ty "tuple") rfl B.tuple_ (by kernel_rfl) rfl) ji))))) ji)))))),?_⟩
  try dsimp only[kH]
  have X:Ext Fe H0 Fe H0:=Ext.refl S_;unfold qQ at Hm;have kY:Bor K H0 Fe (cT cI) circle qm:=jE;clear jE;obtain rfl:xl=.int which:=xm;refine(Ga (K:=K) (xT (qR (xU (b:=true) (fun u h=>h) Vn (by first | rfl | with_unfolding_all rfl) (jdp (jh (p:=pB (cT cI)) (i:=0) rfl (Bor.b kY X))) rfl)) rfl) X Hm ?_ ?_)
  ·intro F H Hc Hm E X;exact kf (K:=K) (GB _) X Hm Kk
  ·intro F H Hc Hm E X;replace kY:=E.xb kY;refine Gb ?_;refine(Ga (K:=K) (qN (jl y0 (jV (i:=1) rfl) (jz _) rfl)) X Hm ?_ ?_)
   ·intro F H Hc Hm E X;cases Hm
   ·intro F H Hc Hm E X;replace kY:=E.xb kY;refine Gb ?_;exact kf (K:=K) (xy WK (kl (xj (yG (yN (kl (jh (p:=pB (cT cI)) (i:=0) rfl (Bor.b kY X)))) [] rfl (fun b2 one qj _ _ E1 jC=>yS) (fun b2 one qj _ _ E1 jC=>(xU (b:=true) (fun u h=>h) jgX (by first | rfl | with_unfolding_all rfl) (jh (p:=pF (cT cI)) (i:=0) rfl jC) rfl)) rfl))) rfl) X Hm Kk
theorem sc_lengths_2:FnScope ["rounds","counts","circle"] ["rounds"] (jn (top 4)):=⟨rfl,rfl,rfl,by decide +kernel,rfl,by decide +kernel,by decide +kernel⟩
theorem Ye (B:Bi mg) (Fn:Fun K "lengths" "lengths" (top 4) f fd):FnOk P w K mg base CX0 1 f fd ["rounds"] (sp1 K (pB (cL (cT cI))) (rD (κ:=Int) cI) yc):=by
 refine Fn.ok sc_lengths_2 (fun vs H Q E h=>?_) (fun cdv A outer s H0 vs Q E_ hr h=>?_)
 ·obtain⟨_,_,_,_,rfl,_⟩:=h;rfl
 ·obtain⟨rounds,ym,Fe,R,rfl,S_,yn,Hm,Kk⟩:=h;have nd:=sc_lengths_2.nd;have hu:=kG hr;refine⟨_,(jg (jM (i:=1) nd rfl (Or.inl rfl) Gk)
   (jg (kP PassesOwn.never rfl (kN (pv 0)) (jN (i:=2) nd rfl (Or.inl rfl)) (jo (GJ (hu1 hu) (pv 1) (jP jQ rfl B.len_ (by kernel_rfl) (jc (pv 2) ji)) (ke xD (QE (hu1 hu) (pv 1) (jP jQ rfl B.len_ (by kernel_rfl) (jc (pv 2) ji)) jy ⟨rfl,rfl,rfl,rfl⟩) jy) rfl)))
   (jo (j1 (pv 1))))),?_⟩
  try dsimp only[kH]
  have X:Ext Fe H0 Fe H0:=Ext.refl S_;unfold yc at Hm;have jO:Bor K H0 Fe (cL (cT cI)) rounds ym:=yn;clear yn;refine(Ub (K:=K) (Jv (κ:=Int) (c:=cI)) X Hm ?_);intro counts xW F H Hm E X Hn O_counts;replace jO:=E.xb jO;refine yt (K:=K) (c:=(cL (cT cI))) ?_ X Hm (fun F1 counts σ' F' H'=>∃ (xW:Addr) (w1_:Option V),σ'=[some ym,some (.ref xW),w1_]/\(Ext Fe H0 F' H'/\Same F1 F')/\OwnD K H0 F' H' cI counts xW) ?_ ?_ ?_ ?_
  ·exact(Gz (i:=0) rfl jO)
  ·intro F H E X;replace O_counts:=O_counts.mono E;exact⟨_,_,rfl,⟨X,(Same.refl _)⟩,O_counts⟩
  ·rintro F1 counts σ_ F_ H_ ⟨xW,w1_,rfl,⟨X_,SF_⟩,O_counts⟩;exact⟨X_,SF_⟩
  ·rintro F1 S0_ counts B_ circle qm σ_ F_ H_ F H ⟨xW,w1_,rfl,⟨X,SF_⟩,O_counts⟩ E jE Hm
   try dsimp only at Hm
   have SL0:=SF_;replace X:=Ext.trans X E;replace O_counts:=O_counts.mono E;replace SL0:=E.xd SL0;refine qb ?_;refine(Jw (K:=K) (k':=1) rfl O_counts (jl kI (zG (jh (p:=pD (κ:=Int) cI) (i:=1) rfl O_counts.b) (jL xY (kl (kW (jh (p:=pF (cL (cT cI))) (i:=2) rfl jE))) rfl) (jz _) rfl) (jz _) rfl) (jL xY (kl (kW (jh (p:=pF (cL (cT cI))) (i:=2) rfl jE))) rfl) X Hm ?_);intro counts F H Hm Cg X O_counts;replace SL0:=Same.trans SL0 Cg.f;cases Hm;exact⟨F,_,_,rfl,⟨X,SL0⟩,O_counts⟩
  ·rintro F1 S0_ counts σ_ F H Hm ⟨xW,w1_,rfl,⟨X,SF_⟩,O_counts⟩
   try dsimp only at Hm
   exact Vu (K:=K) (i:=1) rfl O_counts X Hm Kk
theorem sc__law_lengths_due_2:FnScope ["_law_rounds","_law_due_here","_law_circle"] ["_law_rounds"] (jn (top 59)):=⟨rfl,rfl,rfl,by decide +kernel,rfl,by decide +kernel,by decide +kernel⟩
theorem GS (B:Bi mg) (Fn:Fun K "_law_lengths_due" "_law_lengths_due" (top 59) f fd):FnOk P w K mg base CX0 1 f fd ["_law_rounds"] (sp1 K (pB (cL (cT cI))) (rD (κ:=Int) cI) qx):=by
 refine Fn.ok sc__law_lengths_due_2 (fun vs H Q E h=>?_) (fun cdv A outer s H0 vs Q E_ hr h=>?_)
 ·obtain⟨_,_,_,_,rfl,_⟩:=h;rfl
 ·obtain⟨rounds,ym,Fe,R,rfl,S_,yn,Hm,Kk⟩:=h;have nd:=sc__law_lengths_due_2.nd;have hu:=kG hr;refine⟨_,(jg (jM (i:=1) nd rfl (Or.inl rfl) Gk)
   (jg (kP PassesOwn.never rfl (kN (pv 0)) (jN (i:=2) nd rfl (Or.inl rfl)) (jo (GJ (hu1 hu) (pv 1) (jP jQ rfl B.len_ (by kernel_rfl) (jc (pv 2) ji)) (ke xD (QE (hu1 hu) (pv 1) (jP jQ rfl B.len_ (by kernel_rfl) (jc (pv 2) ji)) jy ⟨rfl,rfl,rfl,rfl⟩) jy) rfl)))
   (jo (j1 (pv 1))))),?_⟩
  try dsimp only[kH]
  have X:Ext Fe H0 Fe H0:=Ext.refl S_;unfold qx at Hm;have jO:Bor K H0 Fe (cL (cT cI)) rounds ym:=yn;clear yn;refine(Ub (K:=K) (Jv (κ:=Int) (c:=cI)) X Hm ?_);intro due_here qw F H Hm E X Hn O_due_here;replace jO:=E.xb jO;refine yt (K:=K) (c:=(cL (cT cI))) ?_ X Hm (fun F1 due_here σ' F' H'=>∃ (qw:Addr) (w1_:Option V),σ'=[some ym,some (.ref qw),w1_]/\(Ext Fe H0 F' H'/\Same F1 F')/\OwnD K H0 F' H' cI due_here qw) ?_ ?_ ?_ ?_
  ·exact(Gz (i:=0) rfl jO)
  ·intro F H E X;replace O_due_here:=O_due_here.mono E;exact⟨_,_,rfl,⟨X,(Same.refl _)⟩,O_due_here⟩
  ·rintro F1 due_here σ_ F_ H_ ⟨qw,w1_,rfl,⟨X_,SF_⟩,O_due_here⟩;exact⟨X_,SF_⟩
  ·rintro F1 S0_ due_here B_ circle qm σ_ F_ H_ F H ⟨qw,w1_,rfl,⟨X,SF_⟩,O_due_here⟩ E jE Hm
   try dsimp only at Hm
   have SL0:=SF_;replace X:=Ext.trans X E;replace O_due_here:=O_due_here.mono E;replace SL0:=E.xd SL0;refine qb ?_;refine(Jw (K:=K) (k':=1) rfl O_due_here (jl kI (zG (jh (p:=pD (κ:=Int) cI) (i:=1) rfl O_due_here.b) (jL xY (kl (kW (jh (p:=pF (cL (cT cI))) (i:=2) rfl jE))) rfl) (jz _) rfl) (jz _) rfl) (jL xY (kl (kW (jh (p:=pF (cL (cT cI))) (i:=2) rfl jE))) rfl) X Hm ?_);intro due_here F H Hm Cg X O_due_here;replace SL0:=Same.trans SL0 Cg.f;cases Hm;exact⟨F,_,_,rfl,⟨X,SL0⟩,O_due_here⟩
  ·rintro F1 S0_ due_here σ_ F H Hm ⟨qw,w1_,rfl,⟨X,SF_⟩,O_due_here⟩
   try dsimp only at Hm
   exact Vu (K:=K) (i:=1) rfl O_due_here X Hm Kk
theorem sc_law:FnScope ["_law_script","_law_which","_law_n","_law_pairs_here","_law_under_here","_law_ones","_law_due_here","_law_handed","_law_turn_here","_law_found","_law_many"] ["_law_script"] (jn (top 63)):=⟨rfl,rfl,rfl,by decide +kernel,rfl,by decide +kernel,by decide +kernel⟩
theorem jhJ (B:Bi mg) (T_Above:Txt_Above K mg j4) (T_Below:Txt_Below K mg j5) (T_Great:Txt_Great K mg j7) (T_Order:Txt_Order K mg jd) (T_Slide:Txt_Slide K mg j3) (Fn:Fun K "law" "law" (top 63) f fd) (ku:Def P w K mg base "_law_cell_at" 1 ["_law_script","_law_k"] (sp2 K (pF cScr) (pF cI) (rF cI) kz)) (G7:Def P w K mg base "_law_pairs" 2 ["_law_script","_law_at","_law_n"] (sp3 K (pF cScr) (pF cI) (pF cI) (rO (cP cI cI)) Gn)) (G8:Def P w K mg base "_law_under" 1 ["_law_n","_law_pairs_here"] (sp2 K (pF cI) (pB (cP cI cI)) (rO (cL cB)) yO)) (yA:Def P w K mg base "_law_some_downs" 5 ["_law_under_here","_law_kind"] (sp2 K (pB (cL cB)) (pF cI) (rF (cL cI)) xG)) (zV:Def P w K mg base "_law_stirred" 1 ["_law_ones","_law_cell"] (sp2 K (pB cI) (pF cI) (rO cI) zj)) (Qn:Def P w K mg base "_law_due" 5 ["_law_under_here","_law_ones","_law_which"] (sp3 K (pB (cL cB)) (pB cI) (pF cI) (rO (cL cI)) WY)) (zQ:Kls P w K mg base "Order" jd 4 ["self","many","pairs"] (jhT K jd (pF cI) (pB (cP cI cI)) (jA jd) qH)) (JG:Def P w K mg base "_law_turn" 3 ["_law_order","_law_which"] (sp2 K (pF (jA jd)) (pF cI) (rF (xz jd j7)) Ug)) (G9:Def P w K mg base "all_rounds" 9 ["turn","ones"] (sp2 K (pF (xz jd j7)) (pB cI) (rN cI) xf)) (yB:Def P w K mg base "_law_kind_right" 2 ["_law_circle","_law_which"] (sp2 K (pB cI) (pF cI) (rF cB) xI)) (G_:Def P w K mg base "lengths" 1 ["rounds"] (sp1 K (pB (cL cI)) (rD (κ:=Int) cI) x8)) (yp:Def P w K mg base "_law_lengths_due" 1 ["_law_rounds"] (sp1 K (pB (cL cI)) (rD (κ:=Int) cI) xk)) (yP:Def P w K mg base "_law_all_lines" 1 ["_law_under_here"] (sp1 K (pB (cL cB)) (rF (cL (cT cI))) xH)) (yQ:Def P w K mg base "_law_stirred" 1 ["_law_ones","_law_cell"] (sp2 K (pB (cT cI)) (pF cI) (rO (cT cI)) yb)) (Ja:Def P w K mg base "_law_due" 5 ["_law_under_here","_law_ones","_law_which"] (sp3 K (pB (cL cB)) (pB (cT cI)) (pF cI) (rO (cL (cT cI))) GP)) (Gu:Def P w K mg base "_law_turn" 3 ["_law_order","_law_which"] (sp2 K (pF (jA jd)) (pF cI) (rF (Qf (xr jd j3) (Qf (xt jd j4) (xu jd j5)))) Go)) (zW:Def P w K mg base "all_rounds" 6 ["turn","ones"] (sp2 K (pF (Qf (xr jd j3) (Qf (xt jd j4) (xu jd j5)))) (pB (cT cI)) (rN (cT cI)) qv)) (yf:Def P w K mg base "_law_kind_right" 1 ["_law_circle","_law_which"] (sp2 K (pB (cT cI)) (pF cI) (rF cB) qQ)) (JH:Def P w K mg base "lengths" 1 ["rounds"] (sp1 K (pB (cL (cT cI))) (rD (κ:=Int) cI) yc)) (x4:Def P w K mg base "_law_lengths_due" 1 ["_law_rounds"] (sp1 K (pB (cL (cT cI))) (rD (κ:=Int) cI) qx)) (ZK:mg "dict"=none):FnOk P w K mg base CX0 10 f fd ["_law_script"] (sp1 K (pF cScr) (rF cB) WZ):=by
 refine Fn.ok sc_law (fun vs H Q E h=>?_) (fun cdv A outer s H0 vs Q E_ hr h=>?_)
 ·obtain⟨_,_,_,_,rfl,_⟩:=h;rfl
 ·obtain⟨script,ya,Fe,R,rfl,S_,jf,Hm,Kk⟩:=h;have nd:=sc_law.nd;have hu:=kG hr;refine⟨_,(jg (jM (i:=1) nd rfl (Or.inr rfl) (qS kS (qC (jc jy (jc jy (jc jy (jc jy (jc jy (jc jy ji))))))) (ke xX (jU ku (hr.mono (by decide)) rfl (jc (pv 0) (jc jy ji))) jy) (fun _ _=>rfl)))
   (jg (jM (i:=2) nd rfl (Or.inl rfl) (ke xD jy (ke xX (jU ku (hr.mono (by decide)) rfl (jc (pv 0) (jc jy ji))) (qS kS (qC (jc jy (jc jy ji))) (qD ja3 rfl B.int_ (by kernel_rfl) (jc (zc ja2 (pv 1) jy (kD _)) ji)) (fun _ _=>rfl)))))
   (jg (jM (i:=3) nd rfl (Or.inl rfl) (jU G7 (hr.mono (by decide)) rfl (jc (pv 0) (jc jy (jc (pv 2) ji)))))
   (jg (jM (i:=4) nd rfl (Or.inl rfl) (jU G8 (hr.mono (by decide)) rfl (jc (pv 2) (jc (pv 3) ji))))
   (jg (qB (kq yW (pv 1) jy (kD _)) (jo (jM (i:=5) nd rfl (Or.inl rfl) (jU yA (hr.mono (by decide)) rfl (jc (pv 4) (jc (jU ku (hr.mono (by decide)) rfl (jc (pv 0) (jc jy ji))) ji))))) (jo (jM (i:=5) nd rfl (Or.inl rfl) (jU yP (hr.mono (by decide)) rfl (jc (pv 4) ji)))))
   (jfQ (jg (jM (i:=5) nd rfl (Or.inl rfl) (jU zV (hr.mono (by decide)) rfl (jc (pv 5) (jc (jU ku (hr.mono (by decide)) rfl (jc (pv 0) (jc jy ji))) ji))))
   (jg (jM (i:=6) nd rfl (Or.inl rfl) (jU Qn (hr.mono (by decide)) rfl (jc (pv 4) (jc (pv 5) (jc (pv 1) ji)))))
   (jg (jM (i:=7) nd rfl (Or.inl rfl) (qD qX rfl B.list_ (by kernel_rfl) (jc (pv 5) ji)))
   (jg (kP PassesOwn.never rfl (kh rfl B.range_ (jc jy ji)) (jN (i:=8) nd rfl (Or.inl rfl)) (jg (jM (i:=9) nd rfl (Or.inl rfl) (jU G9 (hr.mono (by decide)) rfl (jc (jU JG (hr.mono (by decide)) rfl (jc (UM zQ (hr.mono (by decide)) rfl (jc (pv 2) (jc (qD qX rfl B.list_ (by kernel_rfl) (jc (pv 3) ji)) ji))) (jc (pv 1) ji))) (jc (pv 7) ji))))
   (jg (qB (PW.pt (Wp (yq (qW (jP yY rfl B.isinstance_ (by kernel_rfl) (jc (pv 9) (jc (Gg (v:=.ty "list") rfl B.list_ (by kernel_rfl) rfl) ji))))) (Wp (kq (QU hu) (pv 9) (pv 6) (kD _)) (UH (kq (QU hu) (pv 7) (pv 5) (kD _)))))) (jo (j1 GA)) kg)
   (jg (qB (yq (qW (jP (zC rfl) rfl B.all_ (by kernel_rfl) (jc (qk (own:=["_law_circle"]) (ix:=[1]) (qY rfl) rfl (kN (pv 9)) (fun _=>(jN (i:=0) (show List.Nodup (["_law_circle","_law_which"]:List Str) by decide +kernel) rfl (Or.inl rfl))) (fun _=>xZ) (fun _=>(jU yB (hr.mono (by decide)) rfl (jc (pv 0) (jc (pv 1) ji))))) ji)))) (jo (j1 GA)) kg)
   (jg (jM (i:=10) nd rfl (Or.inl rfl) (jU G_ (hr.mono (by decide)) rfl (jc (pv 9) ji)))
   (jg (qB (PW.pt (Wp (yq (qW (jP yY rfl B.isinstance_ (by kernel_rfl) (jc (pv 10) (jc (Gg (v:=.ty "dict") rfl ZK (by kernel_rfl) rfl) ji))))) (UH (kq (jeM hu) (pv 10) (jU yp (hr.mono (by decide)) rfl (jc (pv 6) ji)) (kD _))))) (jo (j1 GA)) kg)
   (jg (kZ (zR Xx Xz Xy kJ (qS kS (pv 9) jy (fun _ _=>rfl)) (jc jy ji)))
   (jo (GJ (hu1 hu) (pv 10) jy jy rfl)))))))))
   (jo (j1 (zc (jeL hu) (jU G_ (hr.mono (by decide)) rfl (jc (qC ji) ji)) Gk (kD _)))))))) (jg (jM (i:=5) nd rfl (Or.inl rfl) (jU yQ (hr.mono (by decide)) rfl (jc (pv 5) (jc (jU ku (hr.mono (by decide)) rfl (jc (pv 0) (jc jy ji))) ji))))
   (jg (jM (i:=6) nd rfl (Or.inl rfl) (jU Ja (hr.mono (by decide)) rfl (jc (pv 4) (jc (pv 5) (jc (pv 1) ji)))))
   (jg (jM (i:=7) nd rfl (Or.inl rfl) (qD qX rfl B.list_ (by kernel_rfl) (jc (pv 5) ji)))
   (jg (kP PassesOwn.never rfl (kh rfl B.range_ (jc jy ji)) (jN (i:=8) nd rfl (Or.inl rfl)) (jg (jM (i:=9) nd rfl (Or.inl rfl) (jU zW (hr.mono (by decide)) rfl (jc (jU Gu (hr.mono (by decide)) rfl (jc (UM zQ (hr.mono (by decide)) rfl (jc (pv 2) (jc (qD qX rfl B.list_ (by kernel_rfl) (jc (pv 3) ji)) ji))) (jc (pv 1) ji))) (jc (pv 7) ji))))
   (jg (qB (PW.pt (Wp (yq (qW (jP yY rfl B.isinstance_ (by kernel_rfl) (jc (pv 9) (jc (Gg (v:=.ty "list") rfl B.list_ (by kernel_rfl) rfl) ji))))) (Wp (kq (QU hu) (pv 9) (pv 6) (kD _)) (UH (kq (QU hu) (pv 7) (pv 5) (kD _)))))) (jo (j1 GA)) kg)
   (jg (qB (yq (qW (jP (zC rfl) rfl B.all_ (by kernel_rfl) (jc (qk (own:=["_law_circle"]) (ix:=[1]) (qY rfl) rfl (kN (pv 9)) (fun _=>(jN (i:=0) (show List.Nodup (["_law_circle","_law_which"]:List Str) by decide +kernel) rfl (Or.inl rfl))) (fun _=>xZ) (fun _=>(jU yf (hr.mono (by decide)) rfl (jc (pv 0) (jc (pv 1) ji))))) ji)))) (jo (j1 GA)) kg)
   (jg (jM (i:=10) nd rfl (Or.inl rfl) (jU JH (hr.mono (by decide)) rfl (jc (pv 9) ji)))
   (jg (qB (PW.pt (Wp (yq (qW (jP yY rfl B.isinstance_ (by kernel_rfl) (jc (pv 10) (jc (Gg (v:=.ty "dict") rfl ZK (by kernel_rfl) rfl) ji))))) (UH (kq (jeM hu) (pv 10) (jU x4 (hr.mono (by decide)) rfl (jc (pv 6) ji)) (kD _))))) (jo (j1 GA)) kg)
   (jg (kZ (zR Xx Xz Xy kJ (qS kS (pv 9) jy (fun _ _=>rfl)) (jc jy ji)))
   (jo (GJ (hu1 hu) (pv 10) jy jy rfl)))))))))
   (jo (j1 (zc (jeL hu) (jU G_ (hr.mono (by decide)) rfl (jc (qC ji) ji)) Gk (kD _)))))))))))))),?_⟩
  try dsimp only[kH]
  have X:Ext Fe H0 Fe H0:=Ext.refl S_;unfold WZ at Hm;replace jf:cScr.rep K Fe script ya:=jf;refine(q9 (K:=K) (kr yM (kl (xj (qE (jJ (jz _) (jJ (jz _) (jJ (jz _) (jJ (jz _) (jJ (jz _) (jJ (jz _) (qr (c:=cI)) rfl) rfl) rfl) rfl) rfl) rfl) (by decide)))) (JO (by decide) (jI (jh (p:=pF cScr) (i:=0) rfl jf) (jz _) rfl) (jz _) rfl) rfl) X Hm ?_);intro which F H Hm E X;replace jf:=E.xc jf;refine(q9 (K:=K) (kr kI (jz _) (kr QY (jI (jh (p:=pF cScr) (i:=0) rfl jf) (jz _) rfl) (jl yM (kl (xj (qE (jJ (jz _) (jJ (jz _) (qr (c:=cI)) rfl) rfl) (by decide)))) (jL jg2 (jl Qr (jV (i:=1) rfl) (jz _) rfl) rfl) rfl) rfl) rfl) X Hm ?_);intro n_ F H Hm E X;replace jf:=E.xc jf;refine(x6 (K:=K) (c:=(cL (cP cI cI))) (qZ (kQ (jh (p:=pF cScr) (i:=0) rfl jf) (jz _) (jV (i:=2) rfl) rfl)) X Hm ?_);intro pairs_here xN F H Hm E X jj;replace jf:=E.xc jf;refine(x6 (K:=K) (c:=(cL (cL cB))) (qZ (jI (jV (i:=2) rfl) (kW (jh (p:=pF (cL (cP cI cI))) (i:=3) rfl jj)) rfl)) X Hm ?_);intro under_here ju F H Hm E X je;replace jf:=E.xc jf;replace jj:=E.xc jj;refine(Ga (K:=K) (qN (jl y0 (jV (i:=1) rfl) (jz _) rfl)) X Hm ?_ ?_)
  ·intro F H Hc Hm E X;replace jf:=E.xc jf;replace jj:=E.xc jj;replace je:=E.xc je;refine(yj (K:=K) (c:=(cL cI)) (kL (kW (jh (p:=pF (cL (cL cB))) (i:=4) rfl je)) (jI (jh (p:=pF cScr) (i:=0) rfl jf) (jz _) rfl) rfl) X Hm ?_);intro ones qA F H Hm E X jF;replace jf:=E.xc jf;replace jj:=E.xc jj;replace je:=E.xc je;refine nx' ?_;refine Or.inl ?_;refine(x6 (K:=K) (c:=(cL cI)) (qZ (kL (kW (jh (p:=pF (cL cI)) (i:=5) rfl jF)) (jI (jh (p:=pF cScr) (i:=0) rfl jf) (jz _) rfl) rfl)) X Hm ?_);intro ones qA F H Hm E X jF;replace jf:=E.xc jf;replace jj:=E.xc jj;replace je:=E.xc je;refine(x6 (K:=K) (c:=(cL (cL cI))) (qZ (kQ (kW (jh (p:=pF (cL (cL cB))) (i:=4) rfl je)) (kW (jh (p:=pF (cL cI)) (i:=5) rfl jF)) (jV (i:=1) rfl) rfl)) X Hm ?_);intro due_here Qo F H Hm E X jr;replace jf:=E.xc jf;replace jj:=E.xc jj;replace je:=E.xc je;replace jF:=E.xc jF;refine(x6 (K:=K) (c:=(cL cI)) (qZ (jL Qb (kl (kW (jh (p:=pF (cL cI)) (i:=5) rfl jF))) rfl)) X Hm ?_);intro handed Wj F H Hm E X jK;replace jf:=E.xc jf;replace jj:=E.xc jj;replace je:=E.xc je;replace jF:=E.xc jF;replace jr:=E.xc jr;refine jbF (K:=K) (c:=cI) (fun c=>c=R) ?_ X Hm ?_ (fun F1 b σ' F' H'=>∃ (w12_:Option V) (w13_:Option V) (w14_:Option V),σ'=[some ya,some (.int which),some (.int n_),some xN,some ju,some qA,some Qo,some Wj,w12_,w13_,w14_]/\(Ext Fe H0 F' H'/\Same F1 F')) ?_ ?_ ?_ ?_
   ·exact(kA (jz _) rfl)
   ·intro c h;exact Option.some.inj h
   ·intro F H E X;exact⟨_,_,_,rfl,⟨X,(Same.refl _)⟩⟩
   ·rintro F1 _ σ_ F_ H_ ⟨w12_,w13_,w14_,rfl,⟨X_,SF_⟩⟩;exact⟨X_,SF_⟩
   ·rintro F1 S0_ _ B_ turn_here zq σ_ F_ H_ F H ⟨w12_,w13_,w14_,rfl,⟨X,SF_⟩⟩ E zt Hm Hr
    try dsimp only at Hm
    have SL0:=SF_;replace SF_:=Same.trans S0_ SF_;replace jf:=Cd.mono _ SF_ jf;replace jj:=Cd.mono _ SF_ jj;replace je:=Cd.mono _ SF_ je;replace jF:=Cd.mono _ SF_ jF;replace jr:=Cd.mono _ SF_ jr;replace jK:=Cd.mono _ SF_ jK;replace X:=Ext.trans X E;replace jf:=E.xc jf;replace jj:=E.xc jj;replace je:=E.xc je;replace jF:=E.xc jF;replace jr:=E.xc jr;replace jK:=E.xc jK;replace SL0:=E.xd SL0;obtain rfl:zq=.int turn_here:=zt;refine qb ?_;have Wk:=jf;have Jb:=jj;have Jc:=je;have jcZ:=jF;have Qp:=jr;have Wl:=jK;have jgh:=SL0;have QX_:=X;refine(jcq (K:=K) (kL (kL (Qt (jV (i:=2) rfl) (xj (jL Qb (kl (kW (jh (p:=pF (cL (cP cI cI))) (i:=3) rfl jj))) rfl)) rfl) (jV (i:=1) rfl) rfl) (kW (jh (p:=pF (cL cI)) (i:=7) rfl jK)) rfl) X Hm ?_);intro found ql F H Hm E X jp;replace jf:=E.xc jf;replace jj:=E.xc jj;replace je:=E.xc je;replace jF:=E.xc jF;replace jr:=E.xc jr;replace jK:=E.xc jK;replace SL0:=E.xd SL0;have QE_:=E;refine(Ga (K:=K) (GH (xT (qR (xU (b:=true) (fun u h=>h) Vn (by first | rfl | with_unfolding_all rfl) (yF (WX (jh (p:=pF (cL (cLn _ cI))) (i:=9) rfl jp))) rfl)) rfl) (GH (qN (jl (Yt (eqL (eqL eqI)) (by decide) nfL) (yF (WX (jh (p:=pF (cL (cLn _ cI))) (i:=9) rfl jp))) (yF (jh (p:=pF (cL (cL cI))) (i:=6) rfl jr)) rfl)) (qN (jl (Yt (eqL eqI) (by decide) nfL) (yF (jh (p:=pF (cL cI)) (i:=7) rfl jK)) (yF (jh (p:=pF (cL cI)) (i:=5) rfl jF)) rfl)) rfl) rfl) X Hm ?_ ?_)
    ·intro F H Hc Hm E X;replace QE_:=Ext.trans QE_ E;obtain⟨y_,Hy_,Hm⟩:=bind_some Hm;cases Hm;exact kf (K:=K) (GB _) X (Hy_.trans (congrArg some (Hr _ rfl))) Kk
    ·intro F H Hc Hm E X;replace jf:=E.xc jf;replace jj:=E.xc jj;replace je:=E.xc je;replace jF:=E.xc jF;replace jr:=E.xc jr;replace jK:=E.xc jK;replace jp:=E.xc jp;replace SL0:=E.xd SL0;replace QE_:=Ext.trans QE_ E;refine Gb ?_;refine(jdz (K:=K) (y3 (qR (xy WK (kl (xj (yG (yN (kl (kW (WX (jh (p:=pF (cL (cLn _ cI))) (i:=9) rfl jp))))) [some (.int which)] rfl (fun b21 circle qm _ _ E20 jE=>yS) (fun b21 circle qm _ _ E20 jE=>(jI (kW (jh (p:=pF (cL cI)) (i:=0) rfl jE)) (jV (i:=1) rfl) rfl)) rfl))) rfl)) rfl) X Hm ?_ ?_)
     ·intro F H Hm E X
      try dsimp only[wr] at Hm
      replace QE_:=Ext.trans QE_ E;obtain⟨y_,Hy_,Hm⟩:=bind_some Hm;cases Hm;exact kf (K:=K) (GB _) X (Hy_.trans (congrArg some (Hr _ rfl))) Kk
     ·intro F H Hm E X
      try dsimp only[wk] at Hm
      replace jf:=E.xc jf;replace jj:=E.xc jj;replace je:=E.xc je;replace jF:=E.xc jF;replace jr:=E.xc jr;replace jK:=E.xc jK;replace jp:=E.xc jp;replace SL0:=E.xd SL0;replace QE_:=Ext.trans QE_ E;refine Gb ?_;refine(Ub (K:=K) (kK (kW (WX (jh (p:=pF (cL (cLn _ cI))) (i:=9) rfl jp))) rfl) X Hm ?_);intro many jhO F H Hm E X Hn O_many;replace jf:=E.xc jf;replace jj:=E.xc jj;replace je:=E.xc je;replace jF:=E.xc jF;replace jr:=E.xc jr;replace jK:=E.xc jK;replace jp:=E.xc jp;replace SL0:=E.xd SL0;replace QE_:=Ext.trans QE_ E;refine(jdz (K:=K) (Q4 (xT (qR (xU (b:=true) (fun u h=>h) jcn (by first | rfl | with_unfolding_all rfl) (jh (p:=pD (κ:=Int) cI) (i:=10) rfl O_many.b) rfl)) rfl) (qN (kr jhg (jh (p:=pD (κ:=Int) cI) (i:=10) rfl O_many.b) (UW (kK (kW (jh (p:=pF (cL (cL cI))) (i:=6) rfl jr)) rfl)) rfl)) rfl) X Hm ?_ ?_)
      ·intro F H Hm E X
       try dsimp only[wr] at Hm
       replace QE_:=Ext.trans QE_ E;obtain⟨y_,Hy_,Hm⟩:=bind_some Hm;cases Hm;exact kf (K:=K) (GB _) X (Hy_.trans (congrArg some (Hr _ rfl))) Kk
      ·intro F H Hm E X
       try dsimp only[wk] at Hm
       replace jf:=E.xc jf;replace jj:=E.xc jj;replace je:=E.xc je;replace jF:=E.xc jF;replace jr:=E.xc jr;replace jK:=E.xc jK;replace jp:=E.xc jp;replace O_many:=O_many.mono E;replace SL0:=E.xd SL0;replace QE_:=Ext.trans QE_ E;refine Gb ?_;refine(jcr (K:=K) (i:=9) rfl jp QX_ QE_ Hm ?_);intro F H Hm Sf_ Sb_ X Dk_;replace jf:=Cd.mono _ Sf_ Wk;replace jj:=Cd.mono _ Sf_ Jb;replace je:=Cd.mono _ Sf_ Jc;replace jF:=Cd.mono _ Sf_ jcZ;replace jr:=Cd.mono _ Sf_ Qp;replace jK:=Cd.mono _ Sf_ Wl;replace O_many:=OwnD.spoil O_many Sb_ Dk_;replace SL0:=Same.trans jgh Sf_;refine(Jw (K:=K) (k':=10) rfl O_many (jz _) (jz _) X Hm ?_);intro many F H Hm Cg X O_many;replace SL0:=Same.trans SL0 Cg.f;cases Hm;exact⟨_,F,rfl,_,_,_,rfl,⟨X,SL0⟩⟩
   ·rintro F1 S0_ _ σ_ F H Hm ⟨w12_,w13_,w14_,rfl,⟨X,SF_⟩⟩
    try dsimp only at Hm
    exact kf (K:=K) (kr jhf (UW (kK (xj (qE (qr (c:=(cL cI))) (by decide))) rfl)) (UW (Jv (κ:=Int) (c:=cI))) rfl) X Hm Kk
  ·intro F H Hc Hm E X;replace jf:=E.xc jf;replace jj:=E.xc jj;replace je:=E.xc je;refine(yj (K:=K) (c:=(cL (cT cI))) (kK (kW (jh (p:=pF (cL (cL cB))) (i:=4) rfl je)) rfl) X Hm ?_);intro ones qA F H Hm E X jF;replace jf:=E.xc jf;replace jj:=E.xc jj;replace je:=E.xc je;refine nx' ?_;refine Or.inr ?_;refine(x6 (K:=K) (c:=(cL (cT cI))) (qZ (kL (kW (jh (p:=pF (cL (cT cI))) (i:=5) rfl jF)) (jI (jh (p:=pF cScr) (i:=0) rfl jf) (jz _) rfl) rfl)) X Hm ?_);intro ones qA F H Hm E X jF;replace jf:=E.xc jf;replace jj:=E.xc jj;replace je:=E.xc je;refine(x6 (K:=K) (c:=(cL (cL (cT cI)))) (qZ (kQ (kW (jh (p:=pF (cL (cL cB))) (i:=4) rfl je)) (kW (jh (p:=pF (cL (cT cI))) (i:=5) rfl jF)) (jV (i:=1) rfl) rfl)) X Hm ?_);intro due_here Qo F H Hm E X jr;replace jf:=E.xc jf;replace jj:=E.xc jj;replace je:=E.xc je;replace jF:=E.xc jF;refine(x6 (K:=K) (c:=(cL (cT cI))) (qZ (jL Qb (kl (kW (jh (p:=pF (cL (cT cI))) (i:=5) rfl jF))) rfl)) X Hm ?_);intro handed Wj F H Hm E X jK;replace jf:=E.xc jf;replace jj:=E.xc jj;replace je:=E.xc je;replace jF:=E.xc jF;replace jr:=E.xc jr;refine jbF (K:=K) (c:=cI) (fun c=>c=R) ?_ X Hm ?_ (fun F1 b σ' F' H'=>∃ (w35_:Option V) (w36_:Option V) (w37_:Option V),σ'=[some ya,some (.int which),some (.int n_),some xN,some ju,some qA,some Qo,some Wj,w35_,w36_,w37_]/\(Ext Fe H0 F' H'/\Same F1 F')) ?_ ?_ ?_ ?_
   ·exact(kA (jz _) rfl)
   ·intro c h;exact Option.some.inj h
   ·intro F H E X;exact⟨_,_,_,rfl,⟨X,(Same.refl _)⟩⟩
   ·rintro F1 _ σ_ F_ H_ ⟨w35_,w36_,w37_,rfl,⟨X_,SF_⟩⟩;exact⟨X_,SF_⟩
   ·rintro F1 S0_ _ B_ turn_here zq σ_ F_ H_ F H ⟨w35_,w36_,w37_,rfl,⟨X,SF_⟩⟩ E zt Hm Hr
    try dsimp only at Hm
    have SL0:=SF_;replace SF_:=Same.trans S0_ SF_;replace jf:=Cd.mono _ SF_ jf;replace jj:=Cd.mono _ SF_ jj;replace je:=Cd.mono _ SF_ je;replace jF:=Cd.mono _ SF_ jF;replace jr:=Cd.mono _ SF_ jr;replace jK:=Cd.mono _ SF_ jK;replace X:=Ext.trans X E;replace jf:=E.xc jf;replace jj:=E.xc jj;replace je:=E.xc je;replace jF:=E.xc jF;replace jr:=E.xc jr;replace jK:=E.xc jK;replace SL0:=E.xd SL0;obtain rfl:zq=.int turn_here:=zt;refine qb ?_;have Wk:=jf;have Jb:=jj;have Jc:=je;have jcZ:=jF;have Qp:=jr;have Wl:=jK;have jgh:=SL0;have QX_:=X;refine(jcq (K:=K) (kL (kL (Qt (jV (i:=2) rfl) (xj (jL Qb (kl (kW (jh (p:=pF (cL (cP cI cI))) (i:=3) rfl jj))) rfl)) rfl) (jV (i:=1) rfl) rfl) (kW (jh (p:=pF (cL (cT cI))) (i:=7) rfl jK)) rfl) X Hm ?_);intro found ql F H Hm E X jp;replace jf:=E.xc jf;replace jj:=E.xc jj;replace je:=E.xc je;replace jF:=E.xc jF;replace jr:=E.xc jr;replace jK:=E.xc jK;replace SL0:=E.xd SL0;have QE_:=E;refine(Ga (K:=K) (GH (xT (qR (xU (b:=true) (fun u h=>h) Vn (by first | rfl | with_unfolding_all rfl) (yF (WX (jh (p:=pF (cL (cLn _ (cT cI)))) (i:=9) rfl jp))) rfl)) rfl) (GH (qN (jl (Yt (eqL (eqL (eqT eqI))) (by decide) nfL) (yF (WX (jh (p:=pF (cL (cLn _ (cT cI)))) (i:=9) rfl jp))) (yF (jh (p:=pF (cL (cL (cT cI)))) (i:=6) rfl jr)) rfl)) (qN (jl (Yt (eqL (eqT eqI)) (by decide) nfL) (yF (jh (p:=pF (cL (cT cI))) (i:=7) rfl jK)) (yF (jh (p:=pF (cL (cT cI))) (i:=5) rfl jF)) rfl)) rfl) rfl) X Hm ?_ ?_)
    ·intro F H Hc Hm E X;replace QE_:=Ext.trans QE_ E;obtain⟨y_,Hy_,Hm⟩:=bind_some Hm;cases Hm;exact kf (K:=K) (GB _) X (Hy_.trans (congrArg some (Hr _ rfl))) Kk
    ·intro F H Hc Hm E X;replace jf:=E.xc jf;replace jj:=E.xc jj;replace je:=E.xc je;replace jF:=E.xc jF;replace jr:=E.xc jr;replace jK:=E.xc jK;replace jp:=E.xc jp;replace SL0:=E.xd SL0;replace QE_:=Ext.trans QE_ E;refine Gb ?_;refine(jdz (K:=K) (y3 (qR (xy WK (kl (xj (yG (yN (kl (kW (WX (jh (p:=pF (cL (cLn _ (cT cI)))) (i:=9) rfl jp))))) [some (.int which)] rfl (fun b44 circle qm _ _ E43 jE=>yS) (fun b44 circle qm _ _ E43 jE=>(jI (kW (jh (p:=pF (cL (cT cI))) (i:=0) rfl jE)) (jV (i:=1) rfl) rfl)) rfl))) rfl)) rfl) X Hm ?_ ?_)
     ·intro F H Hm E X
      try dsimp only[wr] at Hm
      replace QE_:=Ext.trans QE_ E;obtain⟨y_,Hy_,Hm⟩:=bind_some Hm;cases Hm;exact kf (K:=K) (GB _) X (Hy_.trans (congrArg some (Hr _ rfl))) Kk
     ·intro F H Hm E X
      try dsimp only[wk] at Hm
      replace jf:=E.xc jf;replace jj:=E.xc jj;replace je:=E.xc je;replace jF:=E.xc jF;replace jr:=E.xc jr;replace jK:=E.xc jK;replace jp:=E.xc jp;replace SL0:=E.xd SL0;replace QE_:=Ext.trans QE_ E;refine Gb ?_;refine(Ub (K:=K) (kK (kW (WX (jh (p:=pF (cL (cLn _ (cT cI)))) (i:=9) rfl jp))) rfl) X Hm ?_);intro many jhO F H Hm E X Hn O_many;replace jf:=E.xc jf;replace jj:=E.xc jj;replace je:=E.xc je;replace jF:=E.xc jF;replace jr:=E.xc jr;replace jK:=E.xc jK;replace jp:=E.xc jp;replace SL0:=E.xd SL0;replace QE_:=Ext.trans QE_ E;refine(jdz (K:=K) (Q4 (xT (qR (xU (b:=true) (fun u h=>h) jcn (by first | rfl | with_unfolding_all rfl) (jh (p:=pD (κ:=Int) cI) (i:=10) rfl O_many.b) rfl)) rfl) (qN (kr jhg (jh (p:=pD (κ:=Int) cI) (i:=10) rfl O_many.b) (UW (kK (kW (jh (p:=pF (cL (cL (cT cI)))) (i:=6) rfl jr)) rfl)) rfl)) rfl) X Hm ?_ ?_)
      ·intro F H Hm E X
       try dsimp only[wr] at Hm
       replace QE_:=Ext.trans QE_ E;obtain⟨y_,Hy_,Hm⟩:=bind_some Hm;cases Hm;exact kf (K:=K) (GB _) X (Hy_.trans (congrArg some (Hr _ rfl))) Kk
      ·intro F H Hm E X
       try dsimp only[wk] at Hm
       replace jf:=E.xc jf;replace jj:=E.xc jj;replace je:=E.xc je;replace jF:=E.xc jF;replace jr:=E.xc jr;replace jK:=E.xc jK;replace jp:=E.xc jp;replace O_many:=O_many.mono E;replace SL0:=E.xd SL0;replace QE_:=Ext.trans QE_ E;refine Gb ?_;refine(jcr (K:=K) (i:=9) rfl jp QX_ QE_ Hm ?_);intro F H Hm Sf_ Sb_ X Dk_;replace jf:=Cd.mono _ Sf_ Wk;replace jj:=Cd.mono _ Sf_ Jb;replace je:=Cd.mono _ Sf_ Jc;replace jF:=Cd.mono _ Sf_ jcZ;replace jr:=Cd.mono _ Sf_ Qp;replace jK:=Cd.mono _ Sf_ Wl;replace O_many:=OwnD.spoil O_many Sb_ Dk_;replace SL0:=Same.trans jgh Sf_;refine(Jw (K:=K) (k':=10) rfl O_many (jz _) (jz _) X Hm ?_);intro many F H Hm Cg X O_many;replace SL0:=Same.trans SL0 Cg.f;cases Hm;exact⟨_,F,rfl,_,_,_,rfl,⟨X,SL0⟩⟩
   ·rintro F1 S0_ _ σ_ F H Hm ⟨w35_,w36_,w37_,rfl,⟨X,SF_⟩⟩
    try dsimp only at Hm
    exact kf (K:=K) (kr jhf (UW (kK (xj (qE (qr (c:=(cL cI))) (by decide))) rfl)) (UW (Jv (κ:=Int) (c:=cI))) rfl) X Hm Kk
end
theorem all_mk {l:W.OpenLaw}{fa:Addr} (X:K.In h) (G:h.Ns mainGlobals mg) (hfa:mg "law"=some (.ref fa))
  {f0 f1 f2 f3 f4 f5 f6 f7 f8 f9 f10 f11 f12 f13 f14 f15 f16 f17 f18 f19 f20 f21 f22 f23 f24 f25 f26 f27 f28 f29 f30 f31 f32 f33 f34 f35 f36 f37 f38 f39 f40 f41 f42 f43 f44 f45 f46 f47 f48 f49 f50 f51 f52 f53:Addr}{od0 od1 od2 od3 od4 od5 od6 od7 od8 od9 od10 od11 od12 od13 od14 od15 od16 od17 od18 od19 od20 od21 od22 od23 od24 od25 od26 od27 od28 od29 od30 od31 od32 od33 od34 od35 od36 od37 od38 od39 od40 od41 od42 od43 od44 od45 od46 od47 od48 od49 od50 od51 od52 od53 an0 an1 an2 an3 an4 an5 an6 an7 an8 an9 an10 an11 an12 an13 an14 an15 an16 an17 an18 an19 an20 an21 an22 an23 an24 an25 an26 an27 an28 an29 an30 an31 an32 an33 an34 an35 an36 an37 an38 an39 an40 an41 an42 an43 an44 an45 an46 an47 an48 an49 an50 an51 an52 an53:Option Addr}{sl0 sl1 sl2 sl3 sl4 sl5 sl6 sl7 sl8 sl9 sl10 sl11 sl12 sl13 sl14 sl15 sl16 sl17 sl18 sl19 sl20 sl21 sl22 sl23 sl24 sl25 sl26 sl27 sl28 sl29 sl30 sl31 sl32 sl33 sl34 sl35 sl36 sl37 sl38 sl39 sl40 sl41 sl42 sl43 sl44 sl45 sl46 sl47 sl48 sl49 sl50 sl51 sl52 sl53:Array (Option Value)}{oc0 oc1 oc2 oc3 oc4 oc5 oc6 oc7 oc8 oc9 oc10 oc11 oc12 oc13 oc14 oc15 oc16 oc17 oc18 oc19 oc20 oc21 oc22 oc23 oc24 oc25 oc26 oc27 oc28 oc29 oc30 oc31 oc32 oc33 oc34 oc35 oc36 oc37 oc38 oc39 oc40 oc41 oc42 oc43 oc44 oc45 oc46 oc47 oc48 oc49 oc50 oc51 oc52 oc53 kV0 kV1 kV2 kV3 kV4 kV5 kV6 kV7 kV8 kV9 kV10 kV11 kV12 kV13 kV14 kV15 kV16 kV17 kV18 kV19 kV20 kV21 kV22 kV23 kV24 kV25 kV26 kV27 kV28 kV29 kV30 kV31 kV32 kV33 kV34 kV35 kV36 kV37 kV38 kV39 kV40 kV41 kV42 kV43 kV44 kV45 kV46 kV47 kV48 kV49 kV50 kV51 kV52 kV53 dc0 dc1 dc2 dc3 dc4 dc5 dc6 dc7 dc8 dc9 dc10 dc11 dc12 dc13 dc14 dc15 dc16 dc17 dc18 dc19 dc20 dc21 dc22 dc23 dc24 dc25 dc26 dc27 dc28 dc29 dc30 dc31 dc32 dc33 dc34 dc35 dc36 dc37 dc38 dc39 dc40 dc41 dc42 dc43 dc44 dc45 dc46 dc47 dc48 dc49 dc50 dc51 dc52 dc53 pm0 pm1 pm2 pm3 pm4 pm5 pm6 pm7 pm8 pm9 pm10 pm11 pm12 pm13 pm14 pm15 pm16 pm17 pm18 pm19 pm20 pm21 pm22 pm23 pm24 pm25 pm26 pm27 pm28 pm29 pm30 pm31 pm32 pm33 pm34 pm35 pm36 pm37 pm38 pm39 pm40 pm41 pm42 pm43 pm44 pm45 pm46 pm47 pm48 pm49 pm50 pm51 pm52 pm53 cd0 cd1 cd2 cd3 cd4 cd5 cd6 cd7 cd8 cd9 cd10 cd11 cd12 cd13 cd14 cd15 cd16 cd17 cd18 cd19 cd20 cd21 cd22 cd23 cd24 cd25 cd26 cd27 cd28 cd29 cd30 cd31 cd32 cd33 cd34 cd35 cd36 cd37 cd38 cd39 cd40 cd41 cd42 cd43 cd44 cd45 cd46 cd47 cd48 cd49 cd50 cd51 cd52 cd53 ct0 ct1 ct2 ct3 ct4 ct5 ct6 ct7 ct8 ct9 ct10 ct11 ct12 ct13 ct14 ct15 ct16 ct17 ct18 ct19 ct20 ct21 ct22 ct23 ct24 ct25 ct26 ct27 ct28 ct29 ct30 ct31 ct32 ct33 ct34 ct35 ct36 ct37 ct38 ct39 ct40 ct41 ct42 ct43 ct44 ct45 ct46 ct47 ct48 ct49 ct50 ct51 ct52 ct53:Value}{J7 QJ J8 Gv Wm ef_NoCount ef_NoPair ef_NoThing ef_NoDownset:Addr}{tk_MOST_THINGS:Tok}
  (aC_Order:W.nsIn K mainGlobals "Order"=some (some (.ref jd)))
  (pg_Order:W.plainGet K jd Str.empty=true) (hd_Order:W.hasDictIn K jd=true) (po_Order:W.plainOver K jd=true) (sa_Order:W.findIn K (.ref jd) "__setattr__"=some (some (.builtin "object.__setattr__"))) (mk_Order:W.makesIn K jd=true) (kc_Order:W.keepIn K (.ref jd)=true)
  (n_Order_many:W.findIn K (.ref jd) "many"=some none)
  (n_Order_beneath:W.findIn K (.ref jd) "beneath"=some none)
  (n_Order_neighbours:W.findIn K (.ref jd) "neighbours"=some none)
  (aC_Great:W.nsIn K mainGlobals "Great"=some (some (.ref j7)))
  (pg_Great:W.plainGet K j7 Str.empty=true) (hd_Great:W.hasDictIn K j7=true) (po_Great:W.plainOver K j7=true) (sa_Great:W.findIn K (.ref j7) "__setattr__"=some (some (.builtin "object.__setattr__"))) (mk_Great:W.makesIn K j7=true) (kc_Great:W.keepIn K (.ref j7)=true)
  (n_Great_order:W.findIn K (.ref j7) "order"=some none)
  (aC_Slide:W.nsIn K mainGlobals "Slide"=some (some (.ref j3)))
  (pg_Slide:W.plainGet K j3 Str.empty=true) (hd_Slide:W.hasDictIn K j3=true) (po_Slide:W.plainOver K j3=true) (sa_Slide:W.findIn K (.ref j3) "__setattr__"=some (some (.builtin "object.__setattr__"))) (mk_Slide:W.makesIn K j3=true) (kc_Slide:W.keepIn K (.ref j3)=true)
  (n_Slide_order:W.findIn K (.ref j3) "order"=some none)
  (aC_Above:W.nsIn K mainGlobals "Above"=some (some (.ref j4)))
  (pg_Above:W.plainGet K j4 Str.empty=true) (hd_Above:W.hasDictIn K j4=true) (po_Above:W.plainOver K j4=true) (sa_Above:W.findIn K (.ref j4) "__setattr__"=some (some (.builtin "object.__setattr__"))) (mk_Above:W.makesIn K j4=true) (kc_Above:W.keepIn K (.ref j4)=true)
  (n_Above_order:W.findIn K (.ref j4) "order"=some none)
  (aC_Below:W.nsIn K mainGlobals "Below"=some (some (.ref j5)))
  (pg_Below:W.plainGet K j5 Str.empty=true) (hd_Below:W.hasDictIn K j5=true) (po_Below:W.plainOver K j5=true) (sa_Below:W.findIn K (.ref j5) "__setattr__"=some (some (.builtin "object.__setattr__"))) (mk_Below:W.makesIn K j5=true) (kc_Below:W.keepIn K (.ref j5)=true)
  (n_Below_order:W.findIn K (.ref j5) "order"=some none)
  (xa_T:W.nsIn K mainGlobals "ToggleError"=some (some (.ref CT)))
  (xa_NoCount:W.nsIn K mainGlobals "NoCount"=some (some (.ref J7)))
  (xi_NoCount:W.findIn K (.ref J7) "__init__"=some (some (.ref ef_NoCount)))
  (xa_NoPair:W.nsIn K mainGlobals "NoPair"=some (some (.ref QJ)))
  (xi_NoPair:W.findIn K (.ref QJ) "__init__"=some (some (.ref ef_NoPair)))
  (xa_NoThing:W.nsIn K mainGlobals "NoThing"=some (some (.ref J8)))
  (xi_NoThing:W.findIn K (.ref J8) "__init__"=some (some (.ref ef_NoThing)))
  (xa_NoDownset:W.nsIn K mainGlobals "NoDownset"=some (some (.ref Gv)))
  (xi_NoDownset:W.findIn K (.ref Gv) "__init__"=some (some (.ref ef_NoDownset)))
  (xa_NoLine:W.nsIn K mainGlobals "NoLine"=some (some (.ref Wm)))
  (a0:W.nsIn K mainGlobals "_law_cell_at"=some (some (.ref f0)))
  (l0:K.lookup f0=some ⟨oc0,od0,.func (W.fnOf "_law_cell_at" "_law_cell_at" (jZ (top 42)) (jW (top 42)) (jn (top 42)) .none kV0 dc0 pm0 an0 cd0 ct0),sl0⟩) (c0:W.codeIn K cd0 "_law_cell_at"=true) (k0:W.keepIn K (.ref f0)=true)
  (a1:W.nsIn K mainGlobals "_law_pairs"=some (some (.ref f1)))
  (l1:K.lookup f1=some ⟨oc1,od1,.func (W.fnOf "_law_pairs" "_law_pairs" (jZ (top 44)) (jW (top 44)) (jn (top 44)) .none kV1 dc1 pm1 an1 cd1 ct1),sl1⟩) (c1:W.codeIn K cd1 "_law_pairs"=true) (k1:W.keepIn K (.ref f1)=true)
  (a2:W.nsIn K mainGlobals "_law_under"=some (some (.ref f2)))
  (l2:K.lookup f2=some ⟨oc2,od2,.func (W.fnOf "_law_under" "_law_under" (jZ (top 45)) (jW (top 45)) (jn (top 45)) .none kV2 dc2 pm2 an2 cd2 ct2),sl2⟩) (c2:W.codeIn K cd2 "_law_under"=true) (k2:W.keepIn K (.ref f2)=true)
  (a3:W.nsIn K mainGlobals "_law_has"=some (some (.ref f3)))
  (l3:K.lookup f3=some ⟨oc3,od3,.func (W.fnOf "_law_has" "_law_has" (jZ (top 46)) (jW (top 46)) (jn (top 46)) .none kV3 dc3 pm3 an3 cd3 ct3),sl3⟩) (c3:W.codeIn K cd3 "_law_has"=true) (k3:W.keepIn K (.ref f3)=true)
  (a4:W.nsIn K mainGlobals "_law_bits"=some (some (.ref f4)))
  (l4:K.lookup f4=some ⟨oc4,od4,.func (W.fnOf "_law_bits" "_law_bits" (jZ (top 47)) (jW (top 47)) (jn (top 47)) .none kV4 dc4 pm4 an4 cd4 ct4),sl4⟩) (c4:W.codeIn K cd4 "_law_bits"=true) (k4:W.keepIn K (.ref f4)=true)
  (a5:W.nsIn K mainGlobals "_law_downs"=some (some (.ref f5)))
  (l5:K.lookup f5=some ⟨oc5,od5,.func (W.fnOf "_law_downs" "_law_downs" (jZ (top 49)) (jW (top 49)) (jn (top 49)) .none kV5 dc5 pm5 an5 cd5 ct5),sl5⟩) (c5:W.codeIn K cd5 "_law_downs"=true) (k5:W.keepIn K (.ref f5)=true)
  (a6:W.nsIn K mainGlobals "_law_great_turn"=some (some (.ref f6)))
  (l6:K.lookup f6=some ⟨oc6,od6,.func (W.fnOf "_law_great_turn" "_law_great_turn" (jZ (top 50)) (jW (top 50)) (jn (top 50)) .none kV6 dc6 pm6 an6 cd6 ct6),sl6⟩) (c6:W.codeIn K cd6 "_law_great_turn"=true) (k6:W.keepIn K (.ref f6)=true)
  (a7:W.nsIn K mainGlobals "_law_turned"=some (some (.ref f7)))
  (l7:K.lookup f7=some ⟨oc7,od7,.func (W.fnOf "_law_turned" "_law_turned" (jZ (top 55)) (jW (top 55)) (jn (top 55)) .none kV7 dc7 pm7 an7 cd7 ct7),sl7⟩) (c7:W.codeIn K cd7 "_law_turned"=true) (k7:W.keepIn K (.ref f7)=true)
  (a8:W.nsIn K mainGlobals "_law_round"=some (some (.ref f8)))
  (l8:K.lookup f8=some ⟨oc8,od8,.func (W.fnOf "_law_round" "_law_round" (jZ (top 56)) (jW (top 56)) (jn (top 56)) .none kV8 dc8 pm8 an8 cd8 ct8),sl8⟩) (c8:W.codeIn K cd8 "_law_round"=true) (k8:W.keepIn K (.ref f8)=true)
  (a9:W.nsIn K mainGlobals "_law_some_downs"=some (some (.ref f9)))
  (l9:K.lookup f9=some ⟨oc9,od9,.func (W.fnOf "_law_some_downs" "_law_some_downs" (jZ (top 60)) (jW (top 60)) (jn (top 60)) .none kV9 dc9 pm9 an9 cd9 ct9),sl9⟩) (c9:W.codeIn K cd9 "_law_some_downs"=true) (k9:W.keepIn K (.ref f9)=true)
  (a10:W.nsIn K mainGlobals "_law_all_lines"=some (some (.ref f10)))
  (l10:K.lookup f10=some ⟨oc10,od10,.func (W.fnOf "_law_all_lines" "_law_all_lines" (jZ (top 54)) (jW (top 54)) (jn (top 54)) .none kV10 dc10 pm10 an10 cd10 ct10),sl10⟩) (c10:W.codeIn K cd10 "_law_all_lines"=true) (k10:W.keepIn K (.ref f10)=true)
  (a11:W.nsIn K mainGlobals "_law_stirred"=some (some (.ref f11)))
  (l11:K.lookup f11=some ⟨oc11,od11,.func (W.fnOf "_law_stirred" "_law_stirred" (jZ (top 57)) (jW (top 57)) (jn (top 57)) .none kV11 dc11 pm11 an11 cd11 ct11),sl11⟩) (c11:W.codeIn K cd11 "_law_stirred"=true) (k11:W.keepIn K (.ref f11)=true)
  (a12:W.nsIn K mainGlobals "_law_due"=some (some (.ref f12)))
  (l12:K.lookup f12=some ⟨oc12,od12,.func (W.fnOf "_law_due" "_law_due" (jZ (top 58)) (jW (top 58)) (jn (top 58)) .none kV12 dc12 pm12 an12 cd12 ct12),sl12⟩) (c12:W.codeIn K cd12 "_law_due"=true) (k12:W.keepIn K (.ref f12)=true)
  (a13:W.nsIn K mainGlobals "check_parts"=some (some (.ref f13)))
  (l13:K.lookup f13=some ⟨oc13,od13,.func (W.fnOf "check_parts" "check_parts" (jZ (top 14)) (jW (top 14)) (jn (top 14)) .none kV13 dc13 pm13 an13 cd13 ct13),sl13⟩) (c13:W.codeIn K cd13 "check_parts"=true) (k13:W.keepIn K (.ref f13)=true)
  (a14:W.nsIn K mainGlobals "sets_below"=some (some (.ref f14)))
  (l14:K.lookup f14=some ⟨oc14,od14,.func (W.fnOf "sets_below" "sets_below" (jZ (top 16)) (jW (top 16)) (jn (top 16)) .none kV14 dc14 pm14 an14 cd14 ct14),sl14⟩) (c14:W.codeIn K cd14 "sets_below"=true) (k14:W.keepIn K (.ref f14)=true)
  (a15:W.nsIn K mainGlobals "has"=some (some (.ref f15)))
  (l15:K.lookup f15=some ⟨oc15,od15,.func (W.fnOf "has" "has" (jZ (top 15)) (jW (top 15)) (jn (top 15)) .none kV15 dc15 pm15 an15 cd15 ct15),sl15⟩) (c15:W.codeIn K cd15 "has"=true) (k15:W.keepIn K (.ref f15)=true)
  (a16:W.nsIn K mainGlobals "is_cover"=some (some (.ref f16)))
  (l16:K.lookup f16=some ⟨oc16,od16,.func (W.fnOf "is_cover" "is_cover" (jZ (top 17)) (jW (top 17)) (jn (top 17)) .none kV16 dc16 pm16 an16 cd16 ct16),sl16⟩) (c16:W.codeIn K cd16 "is_cover"=true) (k16:W.keepIn K (.ref f16)=true)
  (a17:W.nsIn K mainGlobals "cover_pairs"=some (some (.ref f17)))
  (l17:K.lookup f17=some ⟨oc17,od17,.func (W.fnOf "cover_pairs" "cover_pairs" (jZ (top 18)) (jW (top 18)) (jn (top 18)) .none kV17 dc17 pm17 an17 cd17 ct17),sl17⟩) (c17:W.codeIn K cd17 "cover_pairs"=true) (k17:W.keepIn K (.ref f17)=true)
  (a18:W.findIn K (.ref jd) "__init__"=some (some (.ref f18))) (i18:W.isFn K (.ref f18)=true)
  (l18:K.lookup f18=some ⟨oc18,od18,.func (W.fnOf "__init__" "Order.__init__" (jZ ((jH (top 19) 0))) (jW ((jH (top 19) 0))) (jn ((jH (top 19) 0))) .none kV18 dc18 pm18 an18 cd18 ct18),sl18⟩) (c18:W.codeIn K cd18 "Order.__init__"=true) (k18:W.keepIn K (.ref f18)=true)
  (a19:W.findIn K (.ref j7) "__init__"=some (some (.ref f19))) (i19:W.isFn K (.ref f19)=true)
  (l19:K.lookup f19=some ⟨oc19,od19,.func (W.fnOf "__init__" "Turn.__init__" (jZ ((jH (top 36) 0))) (jW ((jH (top 36) 0))) (jn ((jH (top 36) 0))) .none kV19 dc19 pm19 an19 cd19 ct19),sl19⟩) (c19:W.codeIn K cd19 "Turn.__init__"=true) (k19:W.keepIn K (.ref f19)=true)
  (a20:W.nsIn K mainGlobals "_law_turn"=some (some (.ref f20)))
  (l20:K.lookup f20=some ⟨oc20,od20,.func (W.fnOf "_law_turn" "_law_turn" (jZ (top 62)) (jW (top 62)) (jn (top 62)) .none kV20 dc20 pm20 an20 cd20 ct20),sl20⟩) (c20:W.codeIn K cd20 "_law_turn"=true) (k20:W.keepIn K (.ref f20)=true)
  (a21:W.findIn K (.ref jd) "size"=some (some (.ref f21))) (i21:W.isFn K (.ref f21)=true)
  (l21:K.lookup f21=some ⟨oc21,od21,.func (W.fnOf "size" "Order.size" (jZ ((jH (top 19) 1))) (jW ((jH (top 19) 1))) (jn ((jH (top 19) 1))) .none kV21 dc21 pm21 an21 cd21 ct21),sl21⟩) (c21:W.codeIn K cd21 "Order.size"=true) (k21:W.keepIn K (.ref f21)=true)
  (a22:W.nsIn K mainGlobals "things_of"=some (some (.ref f22)))
  (l22:K.lookup f22=some ⟨oc22,od22,.func (W.fnOf "things_of" "things_of" (jZ (top 21)) (jW (top 21)) (jn (top 21)) .none kV22 dc22 pm22 an22 cd22 ct22),sl22⟩) (c22:W.codeIn K cd22 "things_of"=true) (k22:W.keepIn K (.ref f22)=true)
  (a23:W.nsIn K mainGlobals "holds_all"=some (some (.ref f23)))
  (l23:K.lookup f23=some ⟨oc23,od23,.func (W.fnOf "holds_all" "holds_all" (jZ (top 23)) (jW (top 23)) (jn (top 23)) .none kV23 dc23 pm23 an23 cd23 ct23),sl23⟩) (c23:W.codeIn K cd23 "holds_all"=true) (k23:W.keepIn K (.ref f23)=true)
  (a24:W.nsIn K mainGlobals "is_downset"=some (some (.ref f24)))
  (l24:K.lookup f24=some ⟨oc24,od24,.func (W.fnOf "is_downset" "is_downset" (jZ (top 24)) (jW (top 24)) (jn (top 24)) .none kV24 dc24 pm24 an24 cd24 ct24),sl24⟩) (c24:W.codeIn K cd24 "is_downset"=true) (k24:W.keepIn K (.ref f24)=true)
  (a25:W.nsIn K mainGlobals "check_downset"=some (some (.ref f25)))
  (l25:K.lookup f25=some ⟨oc25,od25,.func (W.fnOf "check_downset" "check_downset" (jZ (top 25)) (jW (top 25)) (jn (top 25)) .none kV25 dc25 pm25 an25 cd25 ct25),sl25⟩) (c25:W.codeIn K cd25 "check_downset"=true) (k25:W.keepIn K (.ref f25)=true)
  (a26:W.nsIn K mainGlobals "is_door"=some (some (.ref f26)))
  (l26:K.lookup f26=some ⟨oc26,od26,.func (W.fnOf "is_door" "is_door" (jZ (top 26)) (jW (top 26)) (jn (top 26)) .none kV26 dc26 pm26 an26 cd26 ct26),sl26⟩) (c26:W.codeIn K cd26 "is_door"=true) (k26:W.keepIn K (.ref f26)=true)
  (a27:W.nsIn K mainGlobals "set_of"=some (some (.ref f27)))
  (l27:K.lookup f27=some ⟨oc27,od27,.func (W.fnOf "set_of" "set_of" (jZ (top 22)) (jW (top 22)) (jn (top 22)) .none kV27 dc27 pm27 an27 cd27 ct27),sl27⟩) (c27:W.codeIn K cd27 "set_of"=true) (k27:W.keepIn K (.ref f27)=true)
  (a28:W.nsIn K mainGlobals "doors"=some (some (.ref f28)))
  (l28:K.lookup f28=some ⟨oc28,od28,.func (W.fnOf "doors" "doors" (jZ (top 27)) (jW (top 27)) (jn (top 27)) .none kV28 dc28 pm28 an28 cd28 ct28),sl28⟩) (c28:W.codeIn K cd28 "doors"=true) (k28:W.keepIn K (.ref f28)=true)
  (a29:W.nsIn K mainGlobals "great_turn"=some (some (.ref f29)))
  (l29:K.lookup f29=some ⟨oc29,od29,.func (W.fnOf "great_turn" "great_turn" (jZ (top 32)) (jW (top 32)) (jn (top 32)) .none kV29 dc29 pm29 an29 cd29 ct29),sl29⟩) (c29:W.codeIn K cd29 "great_turn"=true) (k29:W.keepIn K (.ref f29)=true)
  (a30:W.findIn K (.ref j7) "done"=some (some (.ref f30))) (i30:W.isFn K (.ref f30)=true)
  (l30:K.lookup f30=some ⟨oc30,od30,.func (W.fnOf "done" "Great.done" (jZ ((jH (top 37) 0))) (jW ((jH (top 37) 0))) (jn ((jH (top 37) 0))) .none kV30 dc30 pm30 an30 cd30 ct30),sl30⟩) (c30:W.codeIn K cd30 "Great.done"=true) (k30:W.keepIn K (.ref f30)=true)
  (a31:W.nsIn K mainGlobals "round_of"=some (some (.ref f31)))
  (l31:K.lookup f31=some ⟨oc31,od31,.func (W.fnOf "round_of" "round_of" (jZ (top 2)) (jW (top 2)) (jn (top 2)) .none kV31 dc31 pm31 an31 cd31 ct31),sl31⟩) (c31:W.codeIn K cd31 "round_of"=true) (k31:W.keepIn K (.ref f31)=true)
  (a32:W.nsIn K mainGlobals "all_rounds"=some (some (.ref f32)))
  (l32:K.lookup f32=some ⟨oc32,od32,.func (W.fnOf "all_rounds" "all_rounds" (jZ (top 3)) (jW (top 3)) (jn (top 3)) .none kV32 dc32 pm32 an32 cd32 ct32),sl32⟩) (c32:W.codeIn K cd32 "all_rounds"=true) (k32:W.keepIn K (.ref f32)=true)
  (a33:W.nsIn K mainGlobals "_law_whole"=some (some (.ref f33)))
  (l33:K.lookup f33=some ⟨oc33,od33,.func (W.fnOf "_law_whole" "_law_whole" (jZ (top 43)) (jW (top 43)) (jn (top 43)) .none kV33 dc33 pm33 an33 cd33 ct33),sl33⟩) (c33:W.codeIn K cd33 "_law_whole"=true) (k33:W.keepIn K (.ref f33)=true)
  (a34:W.nsIn K mainGlobals "_law_kind_right"=some (some (.ref f34)))
  (l34:K.lookup f34=some ⟨oc34,od34,.func (W.fnOf "_law_kind_right" "_law_kind_right" (jZ (top 61)) (jW (top 61)) (jn (top 61)) .none kV34 dc34 pm34 an34 cd34 ct34),sl34⟩) (c34:W.codeIn K cd34 "_law_kind_right"=true) (k34:W.keepIn K (.ref f34)=true)
  (a35:W.nsIn K mainGlobals "lengths"=some (some (.ref f35)))
  (l35:K.lookup f35=some ⟨oc35,od35,.func (W.fnOf "lengths" "lengths" (jZ (top 4)) (jW (top 4)) (jn (top 4)) .none kV35 dc35 pm35 an35 cd35 ct35),sl35⟩) (c35:W.codeIn K cd35 "lengths"=true) (k35:W.keepIn K (.ref f35)=true)
  (a36:W.nsIn K mainGlobals "_law_lengths_due"=some (some (.ref f36)))
  (l36:K.lookup f36=some ⟨oc36,od36,.func (W.fnOf "_law_lengths_due" "_law_lengths_due" (jZ (top 59)) (jW (top 59)) (jn (top 59)) .none kV36 dc36 pm36 an36 cd36 ct36),sl36⟩) (c36:W.codeIn K cd36 "_law_lengths_due"=true) (k36:W.keepIn K (.ref f36)=true)
  (a37:W.nsIn K mainGlobals "_law_swapped"=some (some (.ref f37)))
  (l37:K.lookup f37=some ⟨oc37,od37,.func (W.fnOf "_law_swapped" "_law_swapped" (jZ (top 52)) (jW (top 52)) (jn (top 52)) .none kV37 dc37 pm37 an37 cd37 ct37),sl37⟩) (c37:W.codeIn K cd37 "_law_swapped"=true) (k37:W.keepIn K (.ref f37)=true)
  (a38:W.nsIn K mainGlobals "_law_slid"=some (some (.ref f38)))
  (l38:K.lookup f38=some ⟨oc38,od38,.func (W.fnOf "_law_slid" "_law_slid" (jZ (top 53)) (jW (top 53)) (jn (top 53)) .none kV38 dc38 pm38 an38 cd38 ct38),sl38⟩) (c38:W.codeIn K cd38 "_law_slid"=true) (k38:W.keepIn K (.ref f38)=true)
  (a39:W.findIn K (.ref j3) "__init__"=some (some (.ref f39))) (i39:W.isFn K (.ref f39)=true)
  (l39:K.lookup f39=some ⟨oc39,od39,.func (W.fnOf "__init__" "Turn.__init__" (jZ ((jH (top 36) 0))) (jW ((jH (top 36) 0))) (jn ((jH (top 36) 0))) .none kV39 dc39 pm39 an39 cd39 ct39),sl39⟩) (c39:W.codeIn K cd39 "Turn.__init__"=true) (k39:W.keepIn K (.ref f39)=true)
  (a40:W.findIn K (.ref j4) "__init__"=some (some (.ref f40))) (i40:W.isFn K (.ref f40)=true)
  (l40:K.lookup f40=some ⟨oc40,od40,.func (W.fnOf "__init__" "Turn.__init__" (jZ ((jH (top 36) 0))) (jW ((jH (top 36) 0))) (jn ((jH (top 36) 0))) .none kV40 dc40 pm40 an40 cd40 ct40),sl40⟩) (c40:W.codeIn K cd40 "Turn.__init__"=true) (k40:W.keepIn K (.ref f40)=true)
  (a41:W.findIn K (.ref j5) "__init__"=some (some (.ref f41))) (i41:W.isFn K (.ref f41)=true)
  (l41:K.lookup f41=some ⟨oc41,od41,.func (W.fnOf "__init__" "Turn.__init__" (jZ ((jH (top 36) 0))) (jW ((jH (top 36) 0))) (jn ((jH (top 36) 0))) .none kV41 dc41 pm41 an41 cd41 ct41),sl41⟩) (c41:W.codeIn K cd41 "Turn.__init__"=true) (k41:W.keepIn K (.ref f41)=true)
  (a42:W.nsIn K mainGlobals "is_line"=some (some (.ref f42)))
  (l42:K.lookup f42=some ⟨oc42,od42,.func (W.fnOf "is_line" "is_line" (jZ (top 29)) (jW (top 29)) (jn (top 29)) .none kV42 dc42 pm42 an42 cd42 ct42),sl42⟩) (c42:W.codeIn K cd42 "is_line"=true) (k42:W.keepIn K (.ref f42)=true)
  (a43:W.nsIn K mainGlobals "check_line"=some (some (.ref f43)))
  (l43:K.lookup f43=some ⟨oc43,od43,.func (W.fnOf "check_line" "check_line" (jZ (top 30)) (jW (top 30)) (jn (top 30)) .none kV43 dc43 pm43 an43 cd43 ct43),sl43⟩) (c43:W.codeIn K cd43 "check_line"=true) (k43:W.keepIn K (.ref f43)=true)
  (a44:W.findIn K (.ref jd) "check_thing"=some (some (.ref f44))) (i44:W.isFn K (.ref f44)=true)
  (l44:K.lookup f44=some ⟨oc44,od44,.func (W.fnOf "check_thing" "Order.check_thing" (jZ ((jH (top 19) 2))) (jW ((jH (top 19) 2))) (jn ((jH (top 19) 2))) .none kV44 dc44 pm44 an44 cd44 ct44),sl44⟩) (c44:W.codeIn K cd44 "Order.check_thing"=true) (k44:W.keepIn K (.ref f44)=true)
  (a45:W.findIn K (.ref jd) "just_above"=some (some (.ref f45))) (i45:W.isFn K (.ref f45)=true)
  (l45:K.lookup f45=some ⟨oc45,od45,.func (W.fnOf "just_above" "Order.just_above" (jZ ((jH (top 19) 6))) (jW ((jH (top 19) 6))) (jn ((jH (top 19) 6))) .none kV45 dc45 pm45 an45 cd45 ct45),sl45⟩) (c45:W.codeIn K cd45 "Order.just_above"=true) (k45:W.keepIn K (.ref f45)=true)
  (a46:W.nsIn K mainGlobals "places_within"=some (some (.ref f46)))
  (l46:K.lookup f46=some ⟨oc46,od46,.func (W.fnOf "places_within" "places_within" (jZ (top 33)) (jW (top 33)) (jn (top 33)) .none kV46 dc46 pm46 an46 cd46 ct46),sl46⟩) (c46:W.codeIn K cd46 "places_within"=true) (k46:W.keepIn K (.ref f46)=true)
  (a47:W.nsIn K mainGlobals "slid"=some (some (.ref f47)))
  (l47:K.lookup f47=some ⟨oc47,od47,.func (W.fnOf "slid" "slid" (jZ (top 34)) (jW (top 34)) (jn (top 34)) .none kV47 dc47 pm47 an47 cd47 ct47),sl47⟩) (c47:W.codeIn K cd47 "slid"=true) (k47:W.keepIn K (.ref f47)=true)
  (a48:W.findIn K (.ref j3) "done"=some (some (.ref f48))) (i48:W.isFn K (.ref f48)=true)
  (l48:K.lookup f48=some ⟨oc48,od48,.func (W.fnOf "done" "Slide.done" (jZ ((jH (top 38) 0))) (jW ((jH (top 38) 0))) (jn ((jH (top 38) 0))) .none kV48 dc48 pm48 an48 cd48 ct48),sl48⟩) (c48:W.codeIn K cd48 "Slide.done"=true) (k48:W.keepIn K (.ref f48)=true)
  (a49:W.findIn K (.ref j4) "done"=some (some (.ref f49))) (i49:W.isFn K (.ref f49)=true)
  (l49:K.lookup f49=some ⟨oc49,od49,.func (W.fnOf "done" "Above.done" (jZ ((jH (top 39) 0))) (jW ((jH (top 39) 0))) (jn ((jH (top 39) 0))) .none kV49 dc49 pm49 an49 cd49 ct49),sl49⟩) (c49:W.codeIn K cd49 "Above.done"=true) (k49:W.keepIn K (.ref f49)=true)
  (a50:W.findIn K (.ref jd) "just_below"=some (some (.ref f50))) (i50:W.isFn K (.ref f50)=true)
  (l50:K.lookup f50=some ⟨oc50,od50,.func (W.fnOf "just_below" "Order.just_below" (jZ ((jH (top 19) 5))) (jW ((jH (top 19) 5))) (jn ((jH (top 19) 5))) .none kV50 dc50 pm50 an50 cd50 ct50),sl50⟩) (c50:W.codeIn K cd50 "Order.just_below"=true) (k50:W.keepIn K (.ref f50)=true)
  (a51:W.nsIn K mainGlobals "slid_back"=some (some (.ref f51)))
  (l51:K.lookup f51=some ⟨oc51,od51,.func (W.fnOf "slid_back" "slid_back" (jZ (top 35)) (jW (top 35)) (jn (top 35)) .none kV51 dc51 pm51 an51 cd51 ct51),sl51⟩) (c51:W.codeIn K cd51 "slid_back"=true) (k51:W.keepIn K (.ref f51)=true)
  (a52:W.findIn K (.ref j5) "done"=some (some (.ref f52))) (i52:W.isFn K (.ref f52)=true)
  (l52:K.lookup f52=some ⟨oc52,od52,.func (W.fnOf "done" "Below.done" (jZ ((jH (top 40) 0))) (jW ((jH (top 40) 0))) (jn ((jH (top 40) 0))) .none kV52 dc52 pm52 an52 cd52 ct52),sl52⟩) (c52:W.codeIn K cd52 "Below.done"=true) (k52:W.keepIn K (.ref f52)=true)
  (a53:W.nsIn K mainGlobals "law"=some (some (.ref f53)))
  (l53:K.lookup f53=some ⟨oc53,od53,.func (W.fnOf "law" "law" (jZ (top 63)) (jW (top 63)) (jn (top 63)) .none kV53 dc53 pm53 an53 cd53 ct53),sl53⟩) (c53:W.codeIn K cd53 "law"=true) (k53:W.keepIn K (.ref f53)=true)
  (xb_T:jdO K CT none=true) (xb_all:jdV K CT [(J7,some ef_NoCount),(QJ,some ef_NoPair),(J8,some ef_NoThing),(Gv,some ef_NoDownset),(Wm,none)]=true)
  (xv_D:W.nsIn K mainGlobals "dict"=some none)
  (g_MOST_THINGS:W.nsIn K mainGlobals "MOST_THINGS"=some (some (.int 9 tk_MOST_THINGS)))
  (z0:W.nsIn K mainGlobals "len"=some none) (z1:W.nsIn K mainGlobals "range"=some none) (z2:W.nsIn K mainGlobals "isinstance"=some none) (z3:W.nsIn K mainGlobals "any"=some none) (z4:W.nsIn K mainGlobals "all"=some none) (z5:W.nsIn K mainGlobals "sum"=some none) (z6:W.nsIn K mainGlobals "list"=some none) (z7:W.nsIn K mainGlobals "tuple"=some none) (z8:W.nsIn K mainGlobals "int"=some none) (z9:W.nsIn K mainGlobals "bool"=some none) (z10:W.nsIn K mainGlobals "str"=some none) (z11:W.nsIn K mainGlobals "enumerate"=some none) (z12:W.nsIn K mainGlobals "reversed"=some none) (z13:W.nsIn K mainGlobals "sorted"=some none) (z14:W.nsIn K mainGlobals "set"=some none) (z15:W.nsIn K mainGlobals "max"=some none) (z16:W.nsIn K mainGlobals "min"=some none) (z17:W.nsIn K mainGlobals "abs"=some none) (z18:W.nsIn K mainGlobals "zip"=some none) :
  ∃ fd:FuncData,(∀ (s:Shared) (v:Value),BindsTo s fd ⟨[v],[]⟩ [("_law_script",v)])/\∀ base:Heap,K.In base->base.Ns mainGlobals mg->FnOk l.prog w K mg base CX0 10 fa fd ["_law_script"] (sp1 K (pF cScr) (rF cB) WZ):=by
 have e:=hfa.symm.trans (Xj X G a53);cases e;have B:Bi mg:=⟨XI X G z0,XI X G z1,XI X G z2,XI X G z3,XI X G z4,XI X G z5,XI X G z6,XI X G z7,XI X G z8,XI X G z9,XI X G z10,XI X G z11,XI X G z12,XI X G z13,XI X G z14,XI X G z15,XI X G z16,XI X G z17,XI X G z18⟩;have T_Order:Txt_Order K mg jd:=⟨⟨pg_Order,hd_Order,po_Order,sa_Order⟩,n_Order_many,n_Order_beneath,n_Order_neighbours⟩;have T_Great:Txt_Great K mg j7:=⟨⟨pg_Great,hd_Great,po_Great,sa_Great⟩,n_Great_order⟩;have T_Slide:Txt_Slide K mg j3:=⟨⟨pg_Slide,hd_Slide,po_Slide,sa_Slide⟩,n_Slide_order⟩;have T_Above:Txt_Above K mg j4:=⟨⟨pg_Above,hd_Above,po_Above,sa_Above⟩,n_Above_order⟩;have T_Below:Txt_Below K mg j5:=⟨⟨pg_Below,hd_Below,po_Below,sa_Below⟩,n_Below_order⟩;have Gp:∃ t,mg "MOST_THINGS"=some (.int 9 t):=⟨_,Xj X G g_MOST_THINGS⟩;have F0:=km (st:=top 42) l0 c0 k0;have b0:=F0.binds (ps:=["_law_script","_law_k"]) fun _ _ _ _ _ _ us hl=>match us,hl with | [_,_],_=>rfl
 have F1:=km (st:=top 44) l1 c1 k1;have b1:=F1.binds (ps:=["_law_script","_law_at","_law_n"]) fun _ _ _ _ _ _ us hl=>match us,hl with | [_,_,_],_=>rfl
 have F2:=km (st:=top 45) l2 c2 k2;have b2:=F2.binds (ps:=["_law_n","_law_pairs_here"]) fun _ _ _ _ _ _ us hl=>match us,hl with | [_,_],_=>rfl
 have F3:=km (st:=top 46) l3 c3 k3;have b3:=F3.binds (ps:=["_law_bits_here","_law_k"]) fun _ _ _ _ _ _ us hl=>match us,hl with | [_,_],_=>rfl
 have F4:=km (st:=top 47) l4 c4 k4;have b4:=F4.binds (ps:=["_law_things"]) fun _ _ _ _ _ _ us hl=>match us,hl with | [_],_=>rfl
 have F5:=km (st:=top 49) l5 c5 k5;have b5:=F5.binds (ps:=["_law_under_here"]) fun _ _ _ _ _ _ us hl=>match us,hl with | [_],_=>rfl
 have F6:=km (st:=top 50) l6 c6 k6;have b6:=F6.binds (ps:=["_law_under_here","_law_bits_here"]) fun _ _ _ _ _ _ us hl=>match us,hl with | [_,_],_=>rfl
 have F7:=km (st:=top 55) l7 c7 k7;have b7:=F7.binds (ps:=["_law_under_here","_law_one","_law_which"]) fun _ _ _ _ _ _ us hl=>match us,hl with | [_,_,_],_=>rfl
 have F8:=km (st:=top 56) l8 c8 k8;have b8:=F8.binds (ps:=["_law_under_here","_law_one","_law_which"]) fun _ _ _ _ _ _ us hl=>match us,hl with | [_,_,_],_=>rfl
 have F9:=km (st:=top 60) l9 c9 k9;have b9:=F9.binds (ps:=["_law_under_here","_law_kind"]) fun _ _ _ _ _ _ us hl=>match us,hl with | [_,_],_=>rfl
 have F10:=km (st:=top 54) l10 c10 k10;have b10:=F10.binds (ps:=["_law_under_here"]) fun _ _ _ _ _ _ us hl=>match us,hl with | [_],_=>rfl
 have F11:=km (st:=top 57) l11 c11 k11;have b11:=F11.binds (ps:=["_law_ones","_law_cell"]) fun _ _ _ _ _ _ us hl=>match us,hl with | [_,_],_=>rfl
 have F12:=km (st:=top 58) l12 c12 k12;have b12:=F12.binds (ps:=["_law_under_here","_law_ones","_law_which"]) fun _ _ _ _ _ _ us hl=>match us,hl with | [_,_,_],_=>rfl
 have F13:=km (st:=top 14) l13 c13 k13;have b13:=F13.binds (ps:=["many","pairs"]) fun _ _ _ _ _ _ us hl=>match us,hl with | [_,_],_=>rfl
 have F14:=km (st:=top 16) l14 c14 k14;have b14:=F14.binds (ps:=["many","pairs"]) fun _ _ _ _ _ _ us hl=>match us,hl with | [_,_],_=>rfl
 have F15:=km (st:=top 15) l15 c15 k15;have b15:=F15.binds (ps:=["bits","thing"]) fun _ _ _ _ _ _ us hl=>match us,hl with | [_,_],_=>rfl
 have F16:=km (st:=top 17) l16 c16 k16;have b16:=F16.binds (ps:=["beneath","low","high"]) fun _ _ _ _ _ _ us hl=>match us,hl with | [_,_,_],_=>rfl
 have F17:=km (st:=top 18) l17 c17 k17;have b17:=F17.binds (ps:=["beneath"]) fun _ _ _ _ _ _ us hl=>match us,hl with | [_],_=>rfl
 have F18:=km (st:=(jH (top 19) 0)) l18 c18 k18;have b18:=F18.binds (ps:=["self","many","pairs"]) fun _ _ _ _ _ _ us hl=>match us,hl with | [_,_,_],_=>rfl
 have F19:=km (st:=(jH (top 36) 0)) l19 c19 k19;have b19:=F19.binds (ps:=["self","order"]) fun _ _ _ _ _ _ us hl=>match us,hl with | [_,_],_=>rfl
 have F20:=km (st:=top 62) l20 c20 k20;have b20:=F20.binds (ps:=["_law_order","_law_which"]) fun _ _ _ _ _ _ us hl=>match us,hl with | [_,_],_=>rfl
 have F21:=km (st:=(jH (top 19) 1)) l21 c21 k21;have b21:=F21.binds (ps:=["self"]) fun _ _ _ _ _ _ us hl=>match us,hl with | [_],_=>rfl
 have F22:=km (st:=top 21) l22 c22 k22;have b22:=F22.binds (ps:=["bits"]) fun _ _ _ _ _ _ us hl=>match us,hl with | [_],_=>rfl
 have F23:=km (st:=top 23) l23 c23 k23;have b23:=F23.binds (ps:=["bits","others"]) fun _ _ _ _ _ _ us hl=>match us,hl with | [_,_],_=>rfl
 have F24:=km (st:=top 24) l24 c24 k24;have b24:=F24.binds (ps:=["order","bits"]) fun _ _ _ _ _ _ us hl=>match us,hl with | [_,_],_=>rfl
 have F25:=km (st:=top 25) l25 c25 k25;have b25:=F25.binds (ps:=["order","bits"]) fun _ _ _ _ _ _ us hl=>match us,hl with | [_,_],_=>rfl
 have F26:=km (st:=top 26) l26 c26 k26;have b26:=F26.binds (ps:=["order","bits","thing"]) fun _ _ _ _ _ _ us hl=>match us,hl with | [_,_,_],_=>rfl
 have F27:=km (st:=top 22) l27 c27 k27;have b27:=F27.binds (ps:=["things"]) fun _ _ _ _ _ _ us hl=>match us,hl with | [_],_=>rfl
 have F28:=km (st:=top 27) l28 c28 k28;have b28:=F28.binds (ps:=["order","bits"]) fun _ _ _ _ _ _ us hl=>match us,hl with | [_,_],_=>rfl
 have F29:=km (st:=top 32) l29 c29 k29;have b29:=F29.binds (ps:=["order","bits"]) fun _ _ _ _ _ _ us hl=>match us,hl with | [_,_],_=>rfl
 have F30:=km (st:=(jH (top 37) 0)) l30 c30 k30;have b30:=F30.binds (ps:=["self","one"]) fun _ _ _ _ _ _ us hl=>match us,hl with | [_,_],_=>rfl
 have F31:=km (st:=top 2) l31 c31 k31;have b31:=F31.binds (ps:=["turn","one"]) fun _ _ _ _ _ _ us hl=>match us,hl with | [_,_],_=>rfl
 have F32:=km (st:=top 3) l32 c32 k32;have b32:=F32.binds (ps:=["turn","ones"]) fun _ _ _ _ _ _ us hl=>match us,hl with | [_,_],_=>rfl
 have F33:=km (st:=top 43) l33 c33 k33;have b33:=F33.binds (ps:=["_law_found"]) fun _ _ _ _ _ _ us hl=>match us,hl with | [_],_=>rfl
 have F34:=km (st:=top 61) l34 c34 k34;have b34:=F34.binds (ps:=["_law_circle","_law_which"]) fun _ _ _ _ _ _ us hl=>match us,hl with | [_,_],_=>rfl
 have F35:=km (st:=top 4) l35 c35 k35;have b35:=F35.binds (ps:=["rounds"]) fun _ _ _ _ _ _ us hl=>match us,hl with | [_],_=>rfl
 have F36:=km (st:=top 59) l36 c36 k36;have b36:=F36.binds (ps:=["_law_rounds"]) fun _ _ _ _ _ _ us hl=>match us,hl with | [_],_=>rfl
 have F37:=km (st:=top 52) l37 c37 k37;have b37:=F37.binds (ps:=["_law_under_here","_law_line","_law_at"]) fun _ _ _ _ _ _ us hl=>match us,hl with | [_,_,_],_=>rfl
 have F38:=km (st:=top 53) l38 c38 k38;have b38:=F38.binds (ps:=["_law_under_here","_law_line"]) fun _ _ _ _ _ _ us hl=>match us,hl with | [_,_],_=>rfl
 have F39:=km (st:=(jH (top 36) 0)) l39 c39 k39;have b39:=F39.binds (ps:=["self","order"]) fun _ _ _ _ _ _ us hl=>match us,hl with | [_,_],_=>rfl
 have F40:=km (st:=(jH (top 36) 0)) l40 c40 k40;have b40:=F40.binds (ps:=["self","order"]) fun _ _ _ _ _ _ us hl=>match us,hl with | [_,_],_=>rfl
 have F41:=km (st:=(jH (top 36) 0)) l41 c41 k41;have b41:=F41.binds (ps:=["self","order"]) fun _ _ _ _ _ _ us hl=>match us,hl with | [_,_],_=>rfl
 have F42:=km (st:=top 29) l42 c42 k42;have b42:=F42.binds (ps:=["order","line"]) fun _ _ _ _ _ _ us hl=>match us,hl with | [_,_],_=>rfl
 have F43:=km (st:=top 30) l43 c43 k43;have b43:=F43.binds (ps:=["order","line"]) fun _ _ _ _ _ _ us hl=>match us,hl with | [_,_],_=>rfl
 have F44:=km (st:=(jH (top 19) 2)) l44 c44 k44;have b44:=F44.binds (ps:=["self","thing"]) fun _ _ _ _ _ _ us hl=>match us,hl with | [_,_],_=>rfl
 have F45:=km (st:=(jH (top 19) 6)) l45 c45 k45;have b45:=F45.binds (ps:=["self","thing"]) fun _ _ _ _ _ _ us hl=>match us,hl with | [_,_],_=>rfl
 have F46:=km (st:=top 33) l46 c46 k46;have b46:=F46.binds (ps:=["row","things"]) fun _ _ _ _ _ _ us hl=>match us,hl with | [_,_],_=>rfl
 have F47:=km (st:=top 34) l47 c47 k47;have b47:=F47.binds (ps:=["order","row"]) fun _ _ _ _ _ _ us hl=>match us,hl with | [_,_],_=>rfl
 have F48:=km (st:=(jH (top 38) 0)) l48 c48 k48;have b48:=F48.binds (ps:=["self","one"]) fun _ _ _ _ _ _ us hl=>match us,hl with | [_,_],_=>rfl
 have F49:=km (st:=(jH (top 39) 0)) l49 c49 k49;have b49:=F49.binds (ps:=["self","one"]) fun _ _ _ _ _ _ us hl=>match us,hl with | [_,_],_=>rfl
 have F50:=km (st:=(jH (top 19) 5)) l50 c50 k50;have b50:=F50.binds (ps:=["self","thing"]) fun _ _ _ _ _ _ us hl=>match us,hl with | [_,_],_=>rfl
 have F51:=km (st:=top 35) l51 c51 k51;have b51:=F51.binds (ps:=["order","row"]) fun _ _ _ _ _ _ us hl=>match us,hl with | [_,_],_=>rfl
 have F52:=km (st:=(jH (top 40) 0)) l52 c52 k52;have b52:=F52.binds (ps:=["self","one"]) fun _ _ _ _ _ _ us hl=>match us,hl with | [_,_],_=>rfl
 have F53:=km (st:=top 63) l53 c53 k53;refine⟨W.fnOf "law" "law" (jZ (top 63)) (jW (top 63)) (jn (top 63)) .none kV53 dc53 pm53 an53 cd53 ct53,fun s v=>.of_eq rfl,fun base _ _=>?_⟩;have m_T:=Xj X G xa_T;have ji0:jiJ K CT (([(J7,some ef_NoCount),(QJ,some ef_NoPair),(J8,some ef_NoThing),(Gv,some ef_NoDownset),(Wm,none)].zip ([["number"],["low","high"],["thing"],["bits"],[]]:List (List Str))).map fun z=>(z.1.1,z.2)):=jfO xb_all;have ZK:mg "dict"=none:=XI X G xv_D;have ku:Def l.prog w K mg base "_law_cell_at" 1 ["_law_script","_law_k"] (sp2 K (pF cScr) (pF cI) (rF cI) kz):=⟨_,_,Um (K:=K) B F0,Xj X G a0,k0,b0⟩;have G7:Def l.prog w K mg base "_law_pairs" 2 ["_law_script","_law_at","_law_n"] (sp3 K (pF cScr) (pF cI) (pF cI) (rO (cP cI cI)) Gn):=⟨_,_,VT (K:=K) B F1 ku,Xj X G a1,k1,b1⟩;have G8:Def l.prog w K mg base "_law_under" 1 ["_law_n","_law_pairs_here"] (sp2 K (pF cI) (pB (cP cI cI)) (rO (cL cB)) yO):=⟨_,_,VU (K:=K) B F2,Xj X G a2,k2,b2⟩;have yw:Def l.prog w K mg base "_law_has" 1 ["_law_bits_here","_law_k"] (sp2 K (pF cI) (pF cI) (rF cB) Jx):=⟨_,_,YS (K:=K) B F3,Xj X G a3,k3,b3⟩;have yx:Def l.prog w K mg base "_law_bits" 1 ["_law_things"] (sp1 K (pB cI) (rF cI) zI):=⟨_,_,W9 (K:=K) B F4,Xj X G a4,k4,b4⟩;have GT:Def l.prog w K mg base "_law_downs" 2 ["_law_under_here"] (sp1 K (pB (cL cB)) (rO cI) GN):=⟨_,_,VV (K:=K) B F5 yw yx,Xj X G a5,k5,b5⟩;have yy:Def l.prog w K mg base "_law_great_turn" 2 ["_law_under_here","_law_bits_here"] (sp2 K (pB (cL cB)) (pF cI) (rF cI) q_):=⟨_,_,J2 (K:=K) B F6 yw yx,Xj X G a6,k6,b6⟩;have y7:Def l.prog w K mg base "_law_turned" 3 ["_law_under_here","_law_one","_law_which"] (sp3 K (pB (cL cB)) (pF cI) (pF cI) (rF cI) y4):=⟨_,_,UD (K:=K) B F7 yy,Xj X G a7,k7,b7⟩;have xg:Def l.prog w K mg base "_law_round" 4 ["_law_under_here","_law_one","_law_which"] (sp3 K (pB (cL cB)) (pF cI) (pF cI) (rO cI) yu):=⟨_,_,VW (K:=K) B F8 y7,Xj X G a8,k8,b8⟩;have yA:Def l.prog w K mg base "_law_some_downs" 5 ["_law_under_here","_law_kind"] (sp2 K (pB (cL cB)) (pF cI) (rF (cL cI)) xG):=⟨_,_,J3 (K:=K) B F9 GT xg,Xj X G a9,k9,b9⟩;have yP:Def l.prog w K mg base "_law_all_lines" 1 ["_law_under_here"] (sp1 K (pB (cL cB)) (rF (cL (cT cI))) xH):=⟨_,_,Qi (K:=K) B F10,Xj X G a10,k10,b10⟩;have zV:Def l.prog w K mg base "_law_stirred" 1 ["_law_ones","_law_cell"] (sp2 K (pB cI) (pF cI) (rO cI) zj):=⟨_,_,Uo (K:=K) B F11,Xj X G a11,k11,b11⟩;have Qn:Def l.prog w K mg base "_law_due" 5 ["_law_under_here","_law_ones","_law_which"] (sp3 K (pB (cL cB)) (pB cI) (pF cI) (rO (cL cI)) WY):=⟨_,_,YT (K:=K) B F12 xg,Xj X G a12,k12,b12⟩;have Gr:Def l.prog w K mg base "check_parts" 1 ["many","pairs"] (sp2 K (pF cI) (pB (cP cI cI)) (rF cU) qF):=⟨_,_,UE (K:=K) B F13 Gp,Xj X G a13,k13,b13⟩;have GW:Def l.prog w K mg base "sets_below" 1 ["many","pairs"] (sp2 K (pF cI) (pB (cP cI cI)) (rF (cT cI)) xa):=⟨_,_,VX (K:=K) B F14,Xj X G a14,k14,b14⟩;have Us:Def l.prog w K mg base "has" 1 ["bits","thing"] (sp2 K (pF cI) (pF cI) (rF cB) Jj):=⟨_,_,jhI (K:=K) B F15,Xj X G a15,k15,b15⟩;have Qk:Def l.prog w K mg base "is_cover" 2 ["beneath","low","high"] (sp3 K (pF (cT cI)) (pF cI) (pF cI) (rF cB) yh):=⟨_,_,YU (K:=K) B F16 Us,Xj X G a16,k16,b16⟩;have Gs:Def l.prog w K mg base "cover_pairs" 3 ["beneath"] (sp1 K (pF (cT cI)) (rF (cT (cP cI cI))) qG):=⟨_,_,UF (K:=K) B F17 Qk,Xj X G a17,k17,b17⟩;have zQ:Kls l.prog w K mg base "Order" jd 4 ["self","many","pairs"] (jhT K jd (pF cI) (pB (cP cI cI)) (jA jd) qH):=⟨_,_,⟨mk_Order,a18,i18,kc_Order⟩,VY (K:=K) B T_Order F18 Gr GW Gs,Xj X G aC_Order,b18⟩;have GY:Kls l.prog w K mg base "Great" j7 1 ["self","order"] (jae K j7 (pF (jA jd)) (xz jd j7) xb):=⟨_,_,⟨mk_Great,a19,i19,kc_Great⟩,VZ (K:=K) B T_Great T_Order F19,Xj X G aC_Great,b19⟩;have JG:Def l.prog w K mg base "_law_turn" 3 ["_law_order","_law_which"] (sp2 K (pF (jA jd)) (pF cI) (rF (xz jd j7)) Ug):=⟨_,_,W_ (K:=K) B T_Great T_Order F20 GY,Xj X G a20,k20,b20⟩;have qL:Mth l.prog w K mg base jd "size" 1 ["self"] (sp1 K (pF (jA jd)) (rF cI) kF):=⟨⟨_,_,V0 (K:=K) B T_Order F21,⟨a21,i21,k21⟩,b21⟩,T_Order.cl⟩;have yz:Def l.prog w K mg base "things_of" 2 ["bits"] (sp1 K (pF cI) (rO cI) qi):=⟨_,_,Ya (K:=K) B F22 Us,Xj X G a22,k22,b22⟩;have xn:Def l.prog w K mg base "holds_all" 1 ["bits","others"] (sp2 K (pF cI) (pF cI) (rF cB) kO):=⟨_,_,Yb (K:=K) B F23,Xj X G a23,k23,b23⟩;have GZ:Def l.prog w K mg base "is_downset" 3 ["order","bits"] (sp2 K (pF (jA jd)) (pF cI) (rF cB) qI):=⟨_,_,V1 (K:=K) B T_Order F24 qL yz xn,Xj X G a24,k24,b24⟩;have zz:Def l.prog w K mg base "check_downset" 4 ["order","bits"] (sp2 K (pF (jA jd)) (pF cI) (rF cU) qc):=⟨_,_,QB (K:=K) B T_Order F25 GZ,Xj X G a25,k25,b25⟩;have Ut:Def l.prog w K mg base "is_door" 2 ["order","bits","thing"] (sp3 K (pF (jA jd)) (pF cI) (pF cI) (rF cB) zk):=⟨_,_,jaF (K:=K) B T_Order F26 Us xn,Xj X G a26,k26,b26⟩;have Wi:Def l.prog w K mg base "set_of" 1 ["things"] (sp1 K (pB cI) (rF cI) y6):=⟨_,_,jcT (K:=K) B F27,Xj X G a27,k27,b27⟩;have YY:Def l.prog w K mg base "doors" 5 ["order","bits"] (sp2 K (pF (jA jd)) (pF cI) (rF cI) GO):=⟨_,_,jed (K:=K) B T_Order F28 zz qL Ut Wi,Xj X G a28,k28,b28⟩;have G0:Def l.prog w K mg base "great_turn" 6 ["order","bits"] (sp2 K (pF (jA jd)) (pF cI) (rF cI) xc):=⟨_,_,V2 (K:=K) B T_Order F29 YY yz,Xj X G a29,k29,b29⟩;have zL:Mth l.prog w K mg base j7 "done" 7 ["self","one"] (sp2 K (pF (xz jd j7)) (pF cI) (rF cI) qt):=⟨⟨_,_,V3 (K:=K) B T_Great T_Order F30 G0,⟨a30,i30,k30⟩,b30⟩,T_Great.cl⟩;have Qm:Def l.prog w K mg base "round_of" 8 ["turn","one"] (sp2 K (pF (xz jd j7)) (pF cI) (rO cI) xw):=⟨_,_,YV (K:=K) B T_Great T_Order F31 zL,Xj X G a31,k31,b31⟩;have G9:Def l.prog w K mg base "all_rounds" 9 ["turn","ones"] (sp2 K (pF (xz jd j7)) (pB cI) (rN cI) xf):=⟨_,_,V4 (K:=K) B T_Great T_Order F32 Qm,Xj X G a32,k32,b32⟩;have G1:Def l.prog w K mg base "_law_whole" 1 ["_law_found"] (sp1 K (pF cI) (rF cB) Jy):=⟨_,_,V5 (K:=K) B F33,Xj X G a33,k33,b33⟩;have yB:Def l.prog w K mg base "_law_kind_right" 2 ["_law_circle","_law_which"] (sp2 K (pB cI) (pF cI) (rF cB) xI):=⟨_,_,J4 (K:=K) B F34 G1,Xj X G a34,k34,b34⟩;have G_:Def l.prog w K mg base "lengths" 1 ["rounds"] (sp1 K (pB (cL cI)) (rD (κ:=Int) cI) x8):=⟨_,_,jaG (K:=K) B F35,Xj X G a35,k35,b35⟩;have yp:Def l.prog w K mg base "_law_lengths_due" 1 ["_law_rounds"] (sp1 K (pB (cL cI)) (rD (κ:=Int) cI) xk):=⟨_,_,JB (K:=K) B F36,Xj X G a36,k36,b36⟩;have yQ:Def l.prog w K mg base "_law_stirred" 1 ["_law_ones","_law_cell"] (sp2 K (pB (cT cI)) (pF cI) (rO (cT cI)) yb):=⟨_,_,Qj (K:=K) B F11,Xj X G a11,k11,b11⟩;have xx:Def l.prog w K mg base "_law_swapped" 1 ["_law_under_here","_law_line","_law_at"] (sp3 K (pB (cL cB)) (pF (cT cI)) (pF cI) (rF (cT cI)) xv):=⟨_,_,Up (K:=K) B F37,Xj X G a37,k37,b37⟩;have JE:Def l.prog w K mg base "_law_slid" 2 ["_law_under_here","_law_line"] (sp2 K (pB (cL cB)) (pF (cT cI)) (rF (cT cI)) Qw):=⟨_,_,Yc (K:=K) B F38 xx,Xj X G a38,k38,b38⟩;have yo:Def l.prog w K mg base "_law_turned" 3 ["_law_under_here","_law_one","_law_which"] (sp3 K (pB (cL cB)) (pF (cT cI)) (pF cI) (rF (cT cI)) qV):=⟨_,_,QC (K:=K) B F7 JE xx,Xj X G a7,k7,b7⟩;have zU:Def l.prog w K mg base "_law_round" 4 ["_law_under_here","_law_one","_law_which"] (sp3 K (pB (cL cB)) (pF (cT cI)) (pF cI) (rO (cT cI)) yI):=⟨_,_,Uq (K:=K) B F8 yo,Xj X G a8,k8,b8⟩;have Ja:Def l.prog w K mg base "_law_due" 5 ["_law_under_here","_law_ones","_law_which"] (sp3 K (pB (cL cB)) (pB (cT cI)) (pF cI) (rO (cL (cT cI))) GP):=⟨_,_,V6 (K:=K) B F12 zU,Xj X G a12,k12,b12⟩;have G2:Kls l.prog w K mg base "Slide" j3 1 ["self","order"] (jae K j3 (pF (jA jd)) (xr jd j3) xJ):=⟨_,_,⟨mk_Slide,a39,i39,kc_Slide⟩,V7 (K:=K) B T_Order T_Slide F39,Xj X G aC_Slide,b39⟩;have G3:Kls l.prog w K mg base "Above" j4 1 ["self","order"] (jae K j4 (pF (jA jd)) (xt jd j4) xK):=⟨_,_,⟨mk_Above,a40,i40,kc_Above⟩,V8 (K:=K) B T_Above T_Order F40,Xj X G aC_Above,b40⟩;have G4:Kls l.prog w K mg base "Below" j5 1 ["self","order"] (jae K j5 (pF (jA jd)) (xu jd j5) xL):=⟨_,_,⟨mk_Below,a41,i41,kc_Below⟩,V9 (K:=K) B T_Below T_Order F41,Xj X G aC_Below,b41⟩;have Gu:Def l.prog w K mg base "_law_turn" 3 ["_law_order","_law_which"] (sp2 K (pF (jA jd)) (pF cI) (rF (Qf (xr jd j3) (Qf (xt jd j4) (xu jd j5)))) Go):=⟨_,_,UG (K:=K) B T_Above T_Below T_Order T_Slide F20 G2 G3 G4,Xj X G a20,k20,b20⟩;have Uu:Def l.prog w K mg base "is_line" 2 ["order","line"] (sp2 K (pF (jA jd)) (pF (cT cI)) (rF cB) xM):=⟨_,_,jaH (K:=K) B T_Order F42 qL xn,Xj X G a42,k42,b42⟩;have qM:Def l.prog w K mg base "check_line" 3 ["order","line"] (sp2 K (pF (jA jd)) (pF (cT cI)) (rF cU) kx):=⟨_,_,V_ (K:=K) B T_Order F43 Uu,Xj X G a43,k43,b43⟩;have kU:Mth l.prog w K mg base jd "check_thing" 1 ["self","thing"] (sp2 K (pF (jA jd)) (pF cI) (rF cU) j8):=⟨⟨_,_,Jk (K:=K) B T_Order F44,⟨a44,i44,k44⟩,b44⟩,T_Order.cl⟩;have xB:Mth l.prog w K mg base jd "just_above" 2 ["self","thing"] (sp2 K (pF (jA jd)) (pF cI) (rO cI) kn):=⟨⟨_,_,JC (K:=K) B T_Order F45 kU,⟨a45,i45,k45⟩,b45⟩,T_Order.cl⟩;have qg:Def l.prog w K mg base "places_within" 1 ["row","things"] (sp2 K (pF (cT cI)) (pB cI) (rO cI) j6):=⟨_,_,QD (K:=K) B F46,Xj X G a46,k46,b46⟩;have U3:Def l.prog w K mg base "slid" 3 ["order","row"] (sp2 K (pF (jA jd)) (pF (cT cI)) (rF (cT cI)) Gd):=⟨_,_,jge (K:=K) B T_Order F47 xB qg,Xj X G a47,k47,b47⟩;have zN:Mth l.prog w K mg base j3 "done" 4 ["self","one"] (sp2 K (pF (xr jd j3)) (pF (cT cI)) (rF (cT cI)) qd):=⟨⟨_,_,Wa (K:=K) B T_Order T_Slide F48 qM U3,⟨a48,i48,k48⟩,b48⟩,T_Slide.cl⟩;have zO:Mth l.prog w K mg base j4 "done" 4 ["self","one"] (sp2 K (pF (xt jd j4)) (pF (cT cI)) (rF (cT cI)) qe):=⟨⟨_,_,Wb (K:=K) B T_Above T_Order F49 qM U3,⟨a49,i49,k49⟩,b49⟩,T_Above.cl⟩;have xC:Mth l.prog w K mg base jd "just_below" 2 ["self","thing"] (sp2 K (pF (jA jd)) (pF cI) (rO cI) ko):=⟨⟨_,_,JD (K:=K) B T_Order F50 kU,⟨a50,i50,k50⟩,b50⟩,T_Order.cl⟩;have JF:Def l.prog w K mg base "slid_back" 3 ["order","row"] (sp2 K (pF (jA jd)) (pF (cT cI)) (rF (cT cI)) qP):=⟨_,_,Yd (K:=K) B T_Order F51 xC qg,Xj X G a51,k51,b51⟩;have zP:Mth l.prog w K mg base j5 "done" 4 ["self","one"] (sp2 K (pF (xu jd j5)) (pF (cT cI)) (rF (cT cI)) qf):=⟨⟨_,_,Wc (K:=K) B T_Below T_Order F52 qM JF,⟨a52,i52,k52⟩,b52⟩,T_Below.cl⟩;have G6:Def l.prog w K mg base "round_of" 5 ["turn","one"] (sp2 K (pF (Qf (xr jd j3) (Qf (xt jd j4) (xu jd j5)))) (pF (cT cI)) (rO (cT cI)) qu):=⟨_,_,Wd (K:=K) B T_Above T_Below T_Order T_Slide F31 zN zO zP,Xj X G a31,k31,b31⟩;have zW:Def l.prog w K mg base "all_rounds" 6 ["turn","ones"] (sp2 K (pF (Qf (xr jd j3) (Qf (xt jd j4) (xu jd j5)))) (pB (cT cI)) (rN (cT cI)) qv):=⟨_,_,Ur (K:=K) B T_Above T_Below T_Order T_Slide F32 G6,Xj X G a32,k32,b32⟩;have yf:Def l.prog w K mg base "_law_kind_right" 1 ["_law_circle","_law_which"] (sp2 K (pB (cT cI)) (pF cI) (rF cB) qQ):=⟨_,_,Jl (K:=K) B F34,Xj X G a34,k34,b34⟩;have JH:Def l.prog w K mg base "lengths" 1 ["rounds"] (sp1 K (pB (cL (cT cI))) (rD (κ:=Int) cI) yc):=⟨_,_,Ye (K:=K) B F35,Xj X G a35,k35,b35⟩;have x4:Def l.prog w K mg base "_law_lengths_due" 1 ["_law_rounds"] (sp1 K (pB (cL (cT cI))) (rD (κ:=Int) cI) qx):=⟨_,_,GS (K:=K) B F36,Xj X G a36,k36,b36⟩;exact jhJ (K:=K) B T_Above T_Below T_Great T_Order T_Slide F53 ku G7 G8 yA zV Qn zQ JG G9 yB G_ yp yP yQ Ja Gu zW yf JH x4 ZK
end Lw
namespace PySem.W.Fast
def tw14198956052284762370:=0
def tw12876608266414468590:=0
def tw14184227353398354345:=0
def tw72377875612484043:=0
def tw10127743037784187734:=0
def tw17179458503217459449:=0
def tw11076763069817816973:=0
def tw18084921139700306918:=0
def tw1420418557141178459:=0
def tw1036829401388155728:=0
def tw10308053595997289034:=0
def tw1846026214672233419:=0
def tw9720039944333411666:=0
def tw3025729577635976029:=0
def tw326331631592718537:=0
def tw8425612627149647227:=0
def tw10822480899900536120:=0
def tw10238304715722778900:=0
def tw1212995367227245203:=0
def tw7952862305601982534:=0
def tw3520573088067904827:=0
end PySem.W.Fast
namespace Lw
open PySem L2 L3
theorem walk {l:W.OpenLaw}{q:Program}{d:DefRec}{K:Params->W.Frag} (hn:l.most=some 63) (hdf:d.params.defaults=[])
  (hY:∀ (w:World) (h:Heap),YP w h->(K w.params).In h)
  (F:∀ (w:World) (mg:Str->Option Value) (fa:Addr) (h:Heap),(K w.params).In h->h.Ns mainGlobals mg->mg d.name=some (.ref fa) ->
   ∃ fd:FuncData,(∀ (s:Shared) (u:Value),BindsTo s fd ⟨[u],[]⟩ [("_law_script",u)])/\∀ base:Heap,(K w.params).In base->base.Ns mainGlobals mg->FnOk l.prog w (K w.params) mg base CX0 10 fa fd ["_law_script"] (sp1 (K w.params) (pF cScr) (rF cB) WZ)) :
  W.WalkO q loose XP YP l.row.toRowW d [] (fun f vs=>PySem.call f vs):=
 L2.walk_of (n:=63) (k:=10) (x:="_law_script") (CX:=fun _=>CX0) (sp:=fun w=>sp1 (K w.params) (pF cScr) (rF cB) WZ) hn (by decide) hdf ⟨rfl,by decide,by decide,rfl⟩ hY F (fun _ H a ns hl _ hS=>⟨ns,_,H,true,rfl,Same.refl _,⟨a,rfl,hS⟩,law_true ns hl,fun u F' H' E h=>h⟩) fun _ _ _ _ _ z=>z
end Lw
open PySem PySem.W PyProof.Rows
set_option maxRecDepth 100000 in
set_option maxHeartbeats 0 in
theorem PySem.Challenge.cw_toggleclock_k64_all_rounds_share_out_holds : PySem.Challenge.rw_toggleclock_k64_all_rounds_share_out.Holds := by
 w_on; o_law; k_head; (case hw => w_witness2)
 k_fill
 refine Lw.walk (l := PySem.Challenge.rw_toggleclock_k64_all_rounds_share_out) rfl rfl (fun w h Y => PySem.W.kIn_of Y) ?F
 case F =>
  intro w mg fa h KX G hmg
  refine' Lw.all_mk KX G hmg ?aC_Order ?pg_Order ?hd_Order ?po_Order ?sa_Order ?mk_Order ?kc_Order ?n_Order_many ?n_Order_beneath ?n_Order_neighbours ?aC_Great ?pg_Great ?hd_Great ?po_Great ?sa_Great ?mk_Great ?kc_Great ?n_Great_order ?aC_Slide ?pg_Slide ?hd_Slide ?po_Slide ?sa_Slide ?mk_Slide ?kc_Slide ?n_Slide_order ?aC_Above ?pg_Above ?hd_Above ?po_Above ?sa_Above ?mk_Above ?kc_Above ?n_Above_order ?aC_Below ?pg_Below ?hd_Below ?po_Below ?sa_Below ?mk_Below ?kc_Below ?n_Below_order ?xa_T ?xa_NoCount ?xi_NoCount ?xa_NoPair ?xi_NoPair ?xa_NoThing ?xi_NoThing ?xa_NoDownset ?xi_NoDownset ?xa_NoLine ?a0 ?l0 ?c0 ?k0 ?a1 ?l1 ?c1 ?k1 ?a2 ?l2 ?c2 ?k2 ?a3 ?l3 ?c3 ?k3 ?a4 ?l4 ?c4 ?k4 ?a5 ?l5 ?c5 ?k5 ?a6 ?l6 ?c6 ?k6 ?a7 ?l7 ?c7 ?k7 ?a8 ?l8 ?c8 ?k8 ?a9 ?l9 ?c9 ?k9 ?a10 ?l10 ?c10 ?k10 ?a11 ?l11 ?c11 ?k11 ?a12 ?l12 ?c12 ?k12 ?a13 ?l13 ?c13 ?k13 ?a14 ?l14 ?c14 ?k14 ?a15 ?l15 ?c15 ?k15 ?a16 ?l16 ?c16 ?k16 ?a17 ?l17 ?c17 ?k17 ?a18 ?i18 ?l18 ?c18 ?k18 ?a19 ?i19 ?l19 ?c19 ?k19 ?a20 ?l20 ?c20 ?k20 ?a21 ?i21 ?l21 ?c21 ?k21 ?a22 ?l22 ?c22 ?k22 ?a23 ?l23 ?c23 ?k23 ?a24 ?l24 ?c24 ?k24 ?a25 ?l25 ?c25 ?k25 ?a26 ?l26 ?c26 ?k26 ?a27 ?l27 ?c27 ?k27 ?a28 ?l28 ?c28 ?k28 ?a29 ?l29 ?c29 ?k29 ?a30 ?i30 ?l30 ?c30 ?k30 ?a31 ?l31 ?c31 ?k31 ?a32 ?l32 ?c32 ?k32 ?a33 ?l33 ?c33 ?k33 ?a34 ?l34 ?c34 ?k34 ?a35 ?l35 ?c35 ?k35 ?a36 ?l36 ?c36 ?k36 ?a37 ?l37 ?c37 ?k37 ?a38 ?l38 ?c38 ?k38 ?a39 ?i39 ?l39 ?c39 ?k39 ?a40 ?i40 ?l40 ?c40 ?k40 ?a41 ?i41 ?l41 ?c41 ?k41 ?a42 ?l42 ?c42 ?k42 ?a43 ?l43 ?c43 ?k43 ?a44 ?i44 ?l44 ?c44 ?k44 ?a45 ?i45 ?l45 ?c45 ?k45 ?a46 ?l46 ?c46 ?k46 ?a47 ?l47 ?c47 ?k47 ?a48 ?i48 ?l48 ?c48 ?k48 ?a49 ?i49 ?l49 ?c49 ?k49 ?a50 ?i50 ?l50 ?c50 ?k50 ?a51 ?l51 ?c51 ?k51 ?a52 ?i52 ?l52 ?c52 ?k52 ?a53 ?l53 ?c53 ?k53 ?xb_T ?xb_all ?xv_D ?g_MOST_THINGS ?z0 ?z1 ?z2 ?z3 ?z4 ?z5 ?z6 ?z7 ?z8 ?z9 ?z10 ?z11 ?z12 ?z13 ?z14 ?z15 ?z16 ?z17 ?z18
  (case aC_Order => k_is)
  (case pg_Order => k_is)
  (case hd_Order => k_is)
  (case po_Order => k_is)
  (case sa_Order => k_is)
  (case mk_Order => k_is)
  (case kc_Order => k_is)
  (case n_Order_many => k_is)
  (case n_Order_beneath => k_is)
  (case n_Order_neighbours => k_is)
  (case aC_Great => k_is)
  (case pg_Great => k_is)
  (case hd_Great => k_is)
  (case po_Great => k_is)
  (case sa_Great => k_is)
  (case mk_Great => k_is)
  (case kc_Great => k_is)
  (case n_Great_order => k_is)
  (case aC_Slide => k_is)
  (case pg_Slide => k_is)
  (case hd_Slide => k_is)
  (case po_Slide => k_is)
  (case sa_Slide => k_is)
  (case mk_Slide => k_is)
  (case kc_Slide => k_is)
  (case n_Slide_order => k_is)
  (case aC_Above => k_is)
  (case pg_Above => k_is)
  (case hd_Above => k_is)
  (case po_Above => k_is)
  (case sa_Above => k_is)
  (case mk_Above => k_is)
  (case kc_Above => k_is)
  (case n_Above_order => k_is)
  (case aC_Below => k_is)
  (case pg_Below => k_is)
  (case hd_Below => k_is)
  (case po_Below => k_is)
  (case sa_Below => k_is)
  (case mk_Below => k_is)
  (case kc_Below => k_is)
  (case n_Below_order => k_is)
  (case xa_T => k_is)
  (case xa_NoCount => k_is)
  (case xi_NoCount => k_is)
  (case xa_NoPair => k_is)
  (case xi_NoPair => k_is)
  (case xa_NoThing => k_is)
  (case xi_NoThing => k_is)
  (case xa_NoDownset => k_is)
  (case xi_NoDownset => k_is)
  (case xa_NoLine => k_is)
  (case a0 => k_is)
  (case l0 => k_is)
  (case c0 => k_is)
  (case k0 => k_is)
  (case a1 => k_is)
  (case l1 => k_is)
  (case c1 => k_is)
  (case k1 => k_is)
  (case a2 => k_is)
  (case l2 => k_is)
  (case c2 => k_is)
  (case k2 => k_is)
  (case a3 => k_is)
  (case l3 => k_is)
  (case c3 => k_is)
  (case k3 => k_is)
  (case a4 => k_is)
  (case l4 => k_is)
  (case c4 => k_is)
  (case k4 => k_is)
  (case a5 => k_is)
  (case l5 => k_is)
  (case c5 => k_is)
  (case k5 => k_is)
  (case a6 => k_is)
  (case l6 => k_is)
  (case c6 => k_is)
  (case k6 => k_is)
  (case a7 => k_is)
  (case l7 => k_is)
  (case c7 => k_is)
  (case k7 => k_is)
  (case a8 => k_is)
  (case l8 => k_is)
  (case c8 => k_is)
  (case k8 => k_is)
  (case a9 => k_is)
  (case l9 => k_is)
  (case c9 => k_is)
  (case k9 => k_is)
  (case a10 => k_is)
  (case l10 => k_is)
  (case c10 => k_is)
  (case k10 => k_is)
  (case a11 => k_is)
  (case l11 => k_is)
  (case c11 => k_is)
  (case k11 => k_is)
  (case a12 => k_is)
  (case l12 => k_is)
  (case c12 => k_is)
  (case k12 => k_is)
  (case a13 => k_is)
  (case l13 => k_is)
  (case c13 => k_is)
  (case k13 => k_is)
  (case a14 => k_is)
  (case l14 => k_is)
  (case c14 => k_is)
  (case k14 => k_is)
  (case a15 => k_is)
  (case l15 => k_is)
  (case c15 => k_is)
  (case k15 => k_is)
  (case a16 => k_is)
  (case l16 => k_is)
  (case c16 => k_is)
  (case k16 => k_is)
  (case a17 => k_is)
  (case l17 => k_is)
  (case c17 => k_is)
  (case k17 => k_is)
  (case a18 => k_is)
  (case i18 => k_is)
  (case l18 => k_is)
  (case c18 => k_is)
  (case k18 => k_is)
  (case a19 => k_is)
  (case i19 => k_is)
  (case l19 => k_is)
  (case c19 => k_is)
  (case k19 => k_is)
  (case a20 => k_is)
  (case l20 => k_is)
  (case c20 => k_is)
  (case k20 => k_is)
  (case a21 => k_is)
  (case i21 => k_is)
  (case l21 => k_is)
  (case c21 => k_is)
  (case k21 => k_is)
  (case a22 => k_is)
  (case l22 => k_is)
  (case c22 => k_is)
  (case k22 => k_is)
  (case a23 => k_is)
  (case l23 => k_is)
  (case c23 => k_is)
  (case k23 => k_is)
  (case a24 => k_is)
  (case l24 => k_is)
  (case c24 => k_is)
  (case k24 => k_is)
  (case a25 => k_is)
  (case l25 => k_is)
  (case c25 => k_is)
  (case k25 => k_is)
  (case a26 => k_is)
  (case l26 => k_is)
  (case c26 => k_is)
  (case k26 => k_is)
  (case a27 => k_is)
  (case l27 => k_is)
  (case c27 => k_is)
  (case k27 => k_is)
  (case a28 => k_is)
  (case l28 => k_is)
  (case c28 => k_is)
  (case k28 => k_is)
  (case a29 => k_is)
  (case l29 => k_is)
  (case c29 => k_is)
  (case k29 => k_is)
  (case a30 => k_is)
  (case i30 => k_is)
  (case l30 => k_is)
  (case c30 => k_is)
  (case k30 => k_is)
  (case a31 => k_is)
  (case l31 => k_is)
  (case c31 => k_is)
  (case k31 => k_is)
  (case a32 => k_is)
  (case l32 => k_is)
  (case c32 => k_is)
  (case k32 => k_is)
  (case a33 => k_is)
  (case l33 => k_is)
  (case c33 => k_is)
  (case k33 => k_is)
  (case a34 => k_is)
  (case l34 => k_is)
  (case c34 => k_is)
  (case k34 => k_is)
  (case a35 => k_is)
  (case l35 => k_is)
  (case c35 => k_is)
  (case k35 => k_is)
  (case a36 => k_is)
  (case l36 => k_is)
  (case c36 => k_is)
  (case k36 => k_is)
  (case a37 => k_is)
  (case l37 => k_is)
  (case c37 => k_is)
  (case k37 => k_is)
  (case a38 => k_is)
  (case l38 => k_is)
  (case c38 => k_is)
  (case k38 => k_is)
  (case a39 => k_is)
  (case i39 => k_is)
  (case l39 => k_is)
  (case c39 => k_is)
  (case k39 => k_is)
  (case a40 => k_is)
  (case i40 => k_is)
  (case l40 => k_is)
  (case c40 => k_is)
  (case k40 => k_is)
  (case a41 => k_is)
  (case i41 => k_is)
  (case l41 => k_is)
  (case c41 => k_is)
  (case k41 => k_is)
  (case a42 => k_is)
  (case l42 => k_is)
  (case c42 => k_is)
  (case k42 => k_is)
  (case a43 => k_is)
  (case l43 => k_is)
  (case c43 => k_is)
  (case k43 => k_is)
  (case a44 => k_is)
  (case i44 => k_is)
  (case l44 => k_is)
  (case c44 => k_is)
  (case k44 => k_is)
  (case a45 => k_is)
  (case i45 => k_is)
  (case l45 => k_is)
  (case c45 => k_is)
  (case k45 => k_is)
  (case a46 => k_is)
  (case l46 => k_is)
  (case c46 => k_is)
  (case k46 => k_is)
  (case a47 => k_is)
  (case l47 => k_is)
  (case c47 => k_is)
  (case k47 => k_is)
  (case a48 => k_is)
  (case i48 => k_is)
  (case l48 => k_is)
  (case c48 => k_is)
  (case k48 => k_is)
  (case a49 => k_is)
  (case i49 => k_is)
  (case l49 => k_is)
  (case c49 => k_is)
  (case k49 => k_is)
  (case a50 => k_is)
  (case i50 => k_is)
  (case l50 => k_is)
  (case c50 => k_is)
  (case k50 => k_is)
  (case a51 => k_is)
  (case l51 => k_is)
  (case c51 => k_is)
  (case k51 => k_is)
  (case a52 => k_is)
  (case i52 => k_is)
  (case l52 => k_is)
  (case c52 => k_is)
  (case k52 => k_is)
  (case a53 => k_is)
  (case l53 => k_is)
  (case c53 => k_is)
  (case k53 => k_is)
  (case xb_T => kernel_rfl)
  (case xb_all => kernel_rfl)
  (case xv_D => k_is)
  (case g_MOST_THINGS => k_is)
  (case z0 => k_is)
  (case z1 => k_is)
  (case z2 => k_is)
  (case z3 => k_is)
  (case z4 => k_is)
  (case z5 => k_is)
  (case z6 => k_is)
  (case z7 => k_is)
  (case z8 => k_is)
  (case z9 => k_is)
  (case z10 => k_is)
  (case z11 => k_is)
  (case z12 => k_is)
  (case z13 => k_is)
  (case z14 => k_is)
  (case z15 => k_is)
  (case z16 => k_is)
  (case z17 => k_is)
  (case z18 => k_is)