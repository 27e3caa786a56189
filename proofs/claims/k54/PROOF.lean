import PyProof.Rows.All
import Wide.All
import OpenK.AllK
import Wide.FinOn
import Lean
import PyProof.EqAt
import PyProof.EqKinds
import PyProof.TupleCall
import KE.IntBitsLaws
import KE.KFind
import PyProof.ListRange
import KE.KRevIter
import PySem.SetOps
import PyProof.Rows.SetFrom
import PyProof.Rows.SortWalk
import PyProof.CollectWalk
import PyProof.ListNew
import PyProof.SetRoads
import PyProof.MeetsSeq2
import PyProof.MeetsSeq3
import PyProof.StationsW
import PyProof.ExcInit
import PyProof.InstStoreFacts
import PyProof.RulesAs
import PyProof.RulesDel
import PyProof.ExcArgs
import KE.KSortTup
import PyProof.Draws
import PyProof.TupleOfGen
import PyProof.ZipIter
import PyProof.TupleKey
import PyProof.SetKind
import PyProof.IsRules
import PyProof.WalkLemmas
import PyProof.DictKinds
import PyProof.ReprRoads
import PyProof.ReprLen
import PyProof.StrLawsTight
import PyProof.FitsReplace
import PySem.Challenge.RW_toggleclock_k54_turns_refused
set_option Elab.async false
set_option linter.all false
set_option maxRecDepth 100000
set_option maxHeartbeats 4000000
variable {κ α β γ δ ε α1 α2 α3:Type}{us vs ws its its' bm sub:List PySem.Value}{x name qual nm:PySem.Str}{u v doc pm cdv oc vl vu first cv:PySem.Value}{a it C dx tp CT jb jt ju jr js CT_NoDownset:PySem.Addr}{o ox:PySem.Obj}{h h' h1 base:PySem.Heap}{items:Array PySem.Value}{prog:PySem.Program}{w:PySem.World}{A:PySem.Around}{E Q Ex:PySem.Value->PySem.Shared->Prop}{s s':PySem.Shared}{m mr:Option (List α)}{fl expr fr L hdct ab:Bool}{ks ix tt:List Nat}{P:List (Nat×Nat)}{e tg iter value:PySem.Expr}{pins:List (PySem.Addr×PySem.Obj)}{g' g'':Int->Int->Bool}{t' i j n g tk k' ep:Nat}{ch fp:List PySem.Addr}{N ps loose own sn:List PySem.Str}{M:PySem.Model}{pos pos' p tpos apos cpos:PySem.Pos}{op:α->Option γ}{y lo hi ma m' mi:Option Int}{K:PySem.W.Frag}{st:PySem.Stmt}{es elts:List PySem.Expr}{body:List PySem.Stmt}{f:β->α->Option β}{r:δ}{mA mg mN:PySem.Str->Option PySem.Value}{pl:PySem.Sem Bool}{ns row:List Int}{R:α->β->Prop}{kw:List (PySem.Str×PySem.Value)}{env:PySem.Env}{fd:PySem.FuncData}{outer:List PySem.Env}{kindOf:PySem.Str->Option PySem.NameKind}{sc scope:PySem.Scope}{an d fo fo' fo_NoDownset:Option PySem.Addr}{od:Option PySem.Obj}{osl:Array (Option PySem.Value)}{T:Option (PySem.Addr×PySem.Value)}{l:List α}{XP:(PySem.Str->Option PySem.Value)->PySem.Heap->Prop}{YP:PySem.World->PySem.Heap->Prop}{mb:Option β}{ml mh:Option (Option Int)}{m1:Option α1}{m2:Option α2}{m3:Option α3}{B:Option δ}{b0:β}{kk:β->Option δ}{mc:Int->Option Bool}{me:Int->Option β}{x1:α1}{x2:α2}{n' col:Option Bool}{mm_:Option (List Int)}{cM:β->Option Bool}{fM:β->Option β}{S:Int->Bool}{k0 k1 k2 k3 k5:Option PySem.Value}{mk:Option κ}{nss:List (List PySem.Str)}{most:Int}
namespace L2
open PySem PySem.Spec PyProof.Rows
theorem Xa:type_of% @wpAny_bind:=@wpAny_bind
theorem Xb:type_of% @wpAny_pure:=@wpAny_pure
theorem Xc:type_of% @Heap.get?_push_of_some:=@Heap.get?_push_of_some
theorem Xe:type_of% @List.getElem?_eq_getElem:=@List.getElem?_eq_getElem
theorem Xf:type_of% @List.mem_cons_of_mem:=@List.mem_cons_of_mem
theorem Xh:type_of% @Nat.le_refl:=@Nat.le_refl
theorem Xi:type_of% @List.mem_cons_self:=@List.mem_cons_self
theorem Xj:type_of% @List.length_append:=@List.length_append
theorem Xk:type_of% @List.mem_cons:=@List.mem_cons
theorem Xl:type_of% @decide_eq_true:=@decide_eq_true
theorem Xm:type_of% @List.length_cons:=@List.length_cons
theorem Xn:type_of% @Heap.get?_push_size:=@Heap.get?_push_size
theorem Xo:type_of% @Heap.lt_size:=@Heap.lt_size
theorem Xp:type_of% @decide_eq_false:=@decide_eq_false
theorem Xq:type_of% @List.size_toArray:=@List.size_toArray
theorem Xr:type_of% @List.length_map:=@List.length_map
theorem Xs:type_of% @decide_eq_true_eq:=@decide_eq_true_eq
theorem Xt:type_of% @Nat.lt_of_lt_of_le:=@Nat.lt_of_lt_of_le
theorem Xu:type_of% @List.mem_range:=@List.mem_range
theorem Xv:type_of% @Array.length_toList:=@Array.length_toList
theorem Xw:type_of% @Bool.false_ne_true:=@Bool.false_ne_true
theorem Xx:type_of% @W.mg_of:=@W.mg_of
theorem Xy:type_of% @List.getElem?_map:=@List.getElem?_map
theorem XA:type_of% @Nat.ne_of_lt:=@Nat.ne_of_lt
theorem XB:type_of% @Bool.and_eq_true:=@Bool.and_eq_true
theorem XC:type_of% @W.mg_none_of:=@W.mg_none_of
theorem XE:type_of% @Bool.not_true:=@Bool.not_true
theorem XG:type_of% @List.mem_of_getElem?:=@List.mem_of_getElem?
theorem XH:type_of% @Heap.get?_update_other:=@Heap.get?_update_other
theorem XI:type_of% @Bool.false_eq_true:=@Bool.false_eq_true
theorem XJ:type_of% @List.length_range:=@List.length_range
theorem XM:type_of% @List.mem_append_right:=@List.mem_append_right
theorem XQ:type_of% @List.mem_singleton:=@List.mem_singleton
theorem XR:type_of% @Bool.eq_iff_iff:=@Bool.eq_iff_iff
theorem XS:type_of% @PySem.F.plainAttrs_list:=@PySem.F.plainAttrs_list
theorem XT:type_of% @PySem.F.type_list_append:=@PySem.F.type_list_append
theorem XU:type_of% @PySem.F.slot_list_append:=@PySem.F.slot_list_append
theorem XX:type_of% @List.mem_filter:=@List.mem_filter
theorem XZ:type_of% @Heap.get?_update_self:=@Heap.get?_update_self
theorem X2:type_of% @wpAny_holding:=@wpAny_holding
theorem X6:type_of% @Nat.le_trans:=@Nat.le_trans
theorem X7:type_of% @List.pairwise_append:=@List.pairwise_append
theorem X8:type_of% @List.map_cons:=@List.map_cons
theorem X9:type_of% @List.getD_eq_getElem?_getD:=@List.getD_eq_getElem?_getD
theorem kb:type_of% @Int.toNat_natCast:=@Int.toNat_natCast
theorem wa:type_of% @sizeLine_eq:=@sizeLine_eq
theorem wb:type_of% @List.mem_append_left:=@List.mem_append_left
theorem wc:type_of% @Array.getElem?_eq_getElem:=@Array.getElem?_eq_getElem
theorem we:type_of% @Obj.data_mapFields:=@Obj.data_mapFields
theorem wf:type_of% @Heap.size_push:=@Heap.size_push
theorem wg:type_of% @wpAny_mono:=@wpAny_mono
theorem wj:type_of% @beq_iff_eq:=@beq_iff_eq
theorem wk:type_of% @List.length_singleton:=@List.length_singleton
theorem wm:type_of% @wpAny_truthy_bool:=@wpAny_truthy_bool
theorem wn:type_of% @List.mem_map:=@List.mem_map
theorem wq:type_of% @wpAny_newObj_type:=@wpAny_newObj_type
theorem wt:type_of% @Bool.not_false:=@Bool.not_false
theorem wv:type_of% @W.kia_one:=@W.kia_one
theorem ww:type_of% @List.pairwise_cons:=@List.pairwise_cons
theorem wx:type_of% @wpAny_call_entry:=@wpAny_call_entry
theorem wy:type_of% @Nat.le_succ:=@Nat.le_succ
theorem wz:type_of% @List.all_eq_true:=@List.all_eq_true
theorem wB:type_of% @wpAny_loadPart_at:=@wpAny_loadPart_at
theorem wC:type_of% @PySem.mem_of_lookup:=@PySem.mem_of_lookup
theorem wD:type_of% @if_false:=@if_false
theorem wE:type_of% @List.lookup_cons:=@List.lookup_cons
theorem wF:type_of% @List.length_drop:=@List.length_drop
theorem wG:type_of% @Nat.le_of_lt:=@Nat.le_of_lt
theorem wH:type_of% @Nat.zero_le:=@Nat.zero_le
theorem wI:type_of% @List.getElem?_set_ne:=@List.getElem?_set_ne
theorem wJ:type_of% @of_decide_eq_true:=@of_decide_eq_true
theorem wK:type_of% @Nat.lt_succ_of_lt:=@Nat.lt_succ_of_lt
theorem wL:type_of% @List.find?_cons:=@List.find?_cons
theorem wM:type_of% @List.append_nil:=@List.append_nil
theorem wN:type_of% @Int.emod_nonneg:=@Int.emod_nonneg
theorem wP:type_of% @PyProof.Rows.callWith_type1:=@PyProof.Rows.callWith_type1
theorem wQ:type_of% @Nat.ne_of_gt:=@Nat.ne_of_gt
theorem wR:type_of% @List.take_of_length_le:=@List.take_of_length_le
theorem wT:type_of% @List.length_take:=@List.length_take
theorem wW:type_of% @Int.emod_lt_of_pos:=@Int.emod_lt_of_pos
theorem wX:type_of% @Obj.isFreed_of_fields:=@Obj.isFreed_of_fields
theorem wY:type_of% @List.length_filter_le:=@List.length_filter_le
theorem wZ:type_of% @List.drop_eq_getElem_cons:=@List.drop_eq_getElem_cons
theorem w4:type_of% @List.range_succ:=@List.range_succ
end L2
namespace L2
open PySem PySem.Spec PyProof.Rows
abbrev Key:=Sum Int Str
def jbM:Key->Value->Bool
 | .inl k,v=>Value.isInt k v
 | .inr x,v=>Value.isStrOf x v
def jlL (w:World):Key->Int
 | .inl k=>hashInt k
 | .inr x=>hashStr w x
theorem qU:∀ {k:Key}{v:Value},jbM k v=true->(∃ i t,k=Sum.inl i/\v=Value.int i t) \/ (∃ x t,k=Sum.inr x/\v=Value.str x t)
 | .inl i,v,h=>by
  obtain⟨t,e⟩:=Value.isInt_shape (k:=i) (v:=v) h;exact .inl ⟨i,t,rfl,e⟩
 | .inr x,v,h=>by
  obtain⟨t,e⟩:=Value.isStrOf_shape (x:=x) (v:=v) h;exact .inr ⟨x,t,rfl,e⟩
theorem jcV (i:Int) (t:Tok):jbM (.inl i) (.int i t)=true:=by simp[jbM,Value.isInt]
theorem jcW (x:Str) (t:Tok):jbM (.inr x) (.str x t)=true:=by simp[jbM,Value.isStrOf]
theorem jjb (a b:Int):decide ((Sum.inl a:Key)=Sum.inl b)=(a==b):=by
 by_cases e:a=b
 ·subst e; simp
 ·have h:¬ (Sum.inl a:Key)=Sum.inl b:=fun q=>e (Sum.inl.inj q);rw[Xp h];exact(beq_eq_false_iff_ne.mpr e).symm
theorem jjc (a b:Str):decide ((Sum.inr a:Key)=Sum.inr b)=decide (a=b):=by
 by_cases e:a=b
 ·subst e; simp
 ·have h:¬ (Sum.inr a:Key)=Sum.inr b:=fun q=>e (Sum.inr.inj q);rw[Xp h,Xp e]
theorem jjd (a:Int) (b:Str):decide ((Sum.inl a:Key)=Sum.inr b)=false:=Xp (fun q=>nomatch q)
theorem jje (a:Str) (b:Int):decide ((Sum.inr a:Key)=Sum.inl b)=false:=Xp (fun q=>nomatch q)
def zU (prog:Program) (w:World):PySem.KeyKind prog w Key where
 is:=jbM
 hash:=jlL w
 inj:=fun v a b ha hb=>by
  rcases qU ha with⟨i,t,rfl,rfl⟩ | ⟨x,t,rfl,rfl⟩
  ·rcases qU hb with⟨j,u,rfl,e⟩ | ⟨y,u,rfl,e⟩
   ·injection e with e1 _; rw[e1]
   ·exact nomatch e
  ·rcases qU hb with⟨j,u,rfl,e⟩ | ⟨y,u,rfl,e⟩
   ·exact nomatch e
   ·injection e with e1 _; rw[e1]
 byValue:=fun k v h=>by
  rcases qU h with⟨i,t,rfl,rfl⟩ | ⟨x,t,rfl,rfl⟩ <;> rfl
 pyHash:=fun hv h=>by
  rcases qU hv with⟨i,t,rfl,rfl⟩ | ⟨x,t,rfl,rfl⟩
  ·exact wpAny_pyHash_int h
  ·exact wpAny_pyHash_str h
 eqBool:=fun hu hv h=>by
  rcases qU hu with⟨i,t,rfl,rfl⟩ | ⟨x,t,rfl,rfl⟩
  ·rcases qU hv with⟨j,u,rfl,rfl⟩ | ⟨y,u,rfl,rfl⟩
   ·rw[jjb] at h; exact wpAny_eqBool_int h
   ·rw[jjd] at h; exact SeqAt.EqAt.int_str i t y u _ _ _ _ h
  ·rcases qU hv with⟨j,u,rfl,rfl⟩ | ⟨y,u,rfl,rfl⟩
   ·rw[jje] at h; exact SeqAt.EqAt.str_int x t j u _ _ _ _ h
   ·rw[jjc] at h; exact wpAny_eqBool_str h
 «strs»:=fun k x t v h=>by
  rcases qU h with⟨i,u,rfl,e⟩ | ⟨y,u,rfl,e⟩
  ·exact nomatch e
  ·injection e with e1 _
   subst e1;cases v <;> rfl
theorem Z5 (prog:Program) (w:World) (i:Int) (t:Tok):(zU prog w).is (.inl i) (.int i t)=true:=jcV i t
theorem Z6 (prog:Program) (w:World) (x:Str) (t:Tok):(zU prog w).is (.inr x) (.str x t)=true:=jcW x t
inductive V where
 | non | bl (b:Bool) | int (i:Int) | str (x:Str) | byt (b:Array UInt8) | flt (b:UInt64) | ref (a:Addr) | ty (n:String)
 deriving DecidableEq
def RelV:V->Value->Prop
 | .non,u=>u=Value.none
 | .bl b,u=>u=Value.bool b
 | .int i,u=>∃ t,u=Value.int i t
 | .str x,u=>∃ t,u=Value.str x t
 | .byt b,u=>∃ t,u=Value.bytes b t
 | .flt b,u=>∃ t,u=Value.float b t
 | .ref a,u=>u=Value.ref a
 | .ty n,u=>u=Value.type n
abbrev Vals:List V->List Value->Prop:=Paired RelV
theorem Vals.length {xs:List V} (r:Vals xs us):xs.length=us.length:=Paired.length r
theorem Vals.get:∀ {xs:List V}{us:List Value}{i:Nat}{x:V},Vals xs us->xs[i]?=some x->∃ u,us[i]?=some u/\RelV x u
 | _,_,_,_,.nil,e=>by simp at e
 | _,_,0,_,.cons r _,e=>by simp at e; subst e; exact ⟨_,rfl,r⟩
 | _,_,i+1,x,.cons _ t,e=>by
  obtain⟨u,h1,h2⟩:=Vals.get (i:=i) (x:=x) t (by simpa using e);exact⟨u,by simpa using h1,h2⟩
theorem Vals.set {x:V} (r:RelV x u):∀ {xs:List V}{us:List Value} (i:Nat),Vals xs us->Vals (xs.set i x) (us.set i u)
 | _,_,_,.nil=>.nil
 | _,_,0,.cons _ t=>.cons r t
 | _,_,i+1,.cons q t=>.cons q (Vals.set r i t)
theorem Vals.append:∀ {xs ys:List V}{us ws:List Value},Vals xs us->Vals ys ws->Vals (xs++ys) (us++ws)
 | _,_,_,_,.nil,s=>s
 | _,_,_,_,.cons r t,s=>.cons r (Vals.append t s)
theorem Vals.take:∀ {xs:List V}{us:List Value} (n:Nat),Vals xs us->Vals (xs.take n) (us.take n)
 | _,_,0,_=>.nil
 | _,_,_+1,.nil=>.nil
 | _,_,n+1,.cons r t=>.cons r (Vals.take n t)
theorem Vals.drop:∀ {xs:List V}{us:List Value} (n:Nat),Vals xs us->Vals (xs.drop n) (us.drop n)
 | _,_,0,r=>r
 | _,_,_+1,.nil=>.nil
 | _,_,n+1,.cons _ t=>Vals.drop n t
def RelO:Option V->Option Value->Prop
 | some v,some u=>RelV v u
 | none,none=>True
 | _,_=>False
def KV:List (κ×V)->List (κ×Value)->Prop:=Paired fun (p:κ×V) (q:κ×Value)=>p.1=q.1/\RelV p.2 q.2
def kV:Key->V
 | .inl i=>.int i
 | .inr x=>.str x
inductive HO where
 | lst (xs:List V)
 | tup (xs:List V)
 | dK (kvs:List (Key×V)) | dT (fl:Bool) (kvs:List (List Key×V))
 | set (S:Int->Bool) (n:Nat)
 | ins (C dx:Addr) (fs:List (Str×V))
 | own (x:Addr)
 | xd (fs:List (Str×V))
 | met (f x:Addr)
 | rng (lo hi:Int)
 | frz (o:Obj) (u:HO)
 | tbl (ps:Array Value)
 | ext (φ:Heap->Prop)
abbrev Hp:=Addr->Option HO
def upd (H:Hp) (a:Addr) (o:HO):Hp:=fun b=>if b=a then some o else H b
theorem jV {H:Hp}{o:HO}:upd H a o a=some o:=by unfold upd; rw[if_pos rfl]
theorem jM {H:Hp}{b:Addr}{o:HO} (h:b≠a):upd H a o b=H b:=by unfold upd; rw[if_neg h]
theorem kK {H:Hp}{b:Addr}{o:HO} (h:H a=some o) (h':H b=none):a≠b:=by
 intro e; subst e; rw[h] at h'; cases h'
def TupO (h:Heap) (a:Addr) (items:Array Value):Prop:=∃ o,h.get? a=some o/\(o.cls=.type "tuple"/\o.dict=none)/\∃ n,o.data=.seq items n
theorem TupO.isTup (x:TupO h a items):IsTup h a items:=let ⟨o,e,c,d⟩:=x; ⟨o,e,c.1,d⟩
theorem TupO.lt (x:TupO h a items):a<h.objs.size:=x.isTup.lt
theorem TupO.new (h:Heap) (items:Array Value):TupO (h.push { cls:=.type "tuple",data:=.seq items }) h.objs.size items:=⟨_,Xn _ rfl,⟨rfl,rfl⟩,_,rfl⟩
section
variable {K:Type} [DecidableEq K] {knd:KeyKind prog w K} 
def IsNest (knd:KeyKind prog w K) (h:Heap) (ks:List K) (a:Addr):Prop:=∃ k r t v o n,ks=k::r/\h.get? a=some o/\o.cls=.type "tuple"/\o.data=.seq #[.ref t,v] n/\IsTupleKey knd h r t/\knd.is k v=true
theorem IsNest.typeIs {ks:List K} (x:IsNest knd s.heap ks a):s.TypeIs (.ref a) "tuple":=let ⟨_,_,_,_,o,_,_,ho,hc,_⟩:=x; ⟨o,ho,hc⟩
theorem IsNest.inj {x y:List K} (hx:IsNest knd h x a) (hy:IsNest knd h y a):x=y:=by
 obtain⟨k,r,t,v,o,n,rfl,ho,_,hd,ht,hk⟩:=hx;obtain⟨k',r',t',v',o',n',rfl,ho',_,hd',ht',hk'⟩:=hy;obtain rfl:o=o':=Option.some.inj (ho.symm.trans ho');rw[hd] at hd';injection hd' with h1 _
 have h1:=congrArg Array.toList h1;injection h1 with h2 h3
 injection h2 with h2
 injection h3 with h3 _
 subst h2 h3;rw[knd.inj _ _ _ hk hk',ht.inj ht']
theorem IsNest.keeps {ks:List K}{d:Addr}{es ep} (x:IsNest knd h ks a) (ho:h.get? d=some o) (hd:o.data=.dict es ep) (hs:Heap.SameBut d h h'):IsNest knd h' ks a:=by
 obtain⟨k,r,t,v,o',n,e,ho',hc,hd',ht,hk⟩:=x;have hne:a≠d:=by
  rintro rfl;obtain rfl:o'=o:=Option.some.inj (ho'.symm.trans ho);rw[hd] at hd'; exact nomatch hd'
 exact⟨k,r,t,v,o',n,e,(hs.2 a hne).trans ho',hc,hd',ht.keeps ho hd hs,hk⟩
def ja6 (knd:KeyKind prog w K):List K->Int
 | []=>0
 | k::r=>reduceHash (Builtin.Tuple.tupleHashOf [tupleKeyHash knd r,knd.hash k])
theorem jcX {ks:List K}{Q:Int->Shared->Prop} (hu:A.units+1<cLine) (hk:IsNest knd s.heap ks a) (h:Q (ja6 knd ks) { s with toks:=s.toks+(ks.length+2) }):wpAny (model prog w) A (pyHash (.ref a)) Q E s:=by
 have hT:=hk.typeIs;obtain⟨k,r,t,v,o,n,rfl,ho,hc,hd,ht,hk⟩:=hk;unfold pyHash
 first | unfold pyHashByItsType | skip
 first | refine Xa (wpAny_cRoomFor_or (.inr (by omega)) ?_) | skip
 refine Xa (wpAny_specialOf hT F.slot_tuple_hash.lookup ?_);show wpAny _ _ (if (some (Value.builtin "tuple.__hash__")==some Value.none)=true then _ else _) Q E s;rw[if_neg (by rw[beq_builtin_none]; exact Xw)];refine Xa (wpAny_specialOf hT F.slot_tuple_hash.lookup ?_);show wpAny _ _ (callSpecialIfBoundUnlessNone? (.ref a) "__hash__" _ >>= _) Q E s;refine Xa (wpAny_callSpecialIfBoundUnlessNone?_slot hT F.slot_tuple_hash (wx F.slot_tuple_hash hT F.entry_tuple_hash ?_ (F.args_tuple_hash_1 _)));show wpAny _ _ (Builtin.Tuple.tupleItemsOf (.ref a) >>= _) _ _ s;refine Xa (wpAny_tupleItemsOf ho hd ?_);refine Xa ?_;rw[<- Array.forIn_toList];show wpAny _ _ (forIn [Value.ref t,v] _ _) _ _ s;rw[List.forIn_cons];refine Xa (Xa (wpAny_pyHash_tuple (A:=A.in1) (show A.units+1<cLine from hu) ht ?_))
 first
  | refine Xb ?_
  | refine Xa (Xb (Xb ?_))
 dsimp only;rw[List.forIn_cons];refine Xa (Xa (knd.pyHash hk ?_))
 first
  | refine Xb ?_
  | refine Xa (Xb (Xb ?_))
 dsimp only;rw[List.forIn_nil];refine Xb ?_;show wpAny _ _ (retInt (Builtin.Tuple.tupleHashOf [tupleKeyHash knd r,knd.hash k])) _ _ _;refine wpAny_ret_mkInt ?_;show wpAny _ _ (if (decide (-(2:Int) ^ 63<=Builtin.Tuple.tupleHashOf [tupleKeyHash knd r,knd.hash k])&&decide (Builtin.Tuple.tupleHashOf [tupleKeyHash knd r,knd.hash k]<2 ^ 63))=true then _ else _) Q E _;have ez:s.toks+(r.length+1)+1+1=s.toks+((k::r).length+2):=by rw[Xm]; omega
 rw[<- ez] at h;have h:Q (reduceHash (Builtin.Tuple.tupleHashOf [tupleKeyHash knd r,knd.hash k])) _:=h;unfold reduceHash at h;by_cases hr:(decide (-(2:Int) ^ 63<=Builtin.Tuple.tupleHashOf [tupleKeyHash knd r,knd.hash k])&&decide (Builtin.Tuple.tupleHashOf [tupleKeyHash knd r,knd.hash k]<2 ^ 63))=true
 ·rw[if_pos hr];rw[if_pos hr] at h;exact Xb h
 ·rw[if_neg hr];rw[if_neg hr] at h;exact Xa (wpAny_rule (Xb h))
theorem YN {x y:List K}{b:Addr}{P:Fin->Shared->Prop} (hu:A.units<cLine) (hx:IsNest knd s.heap x a) (hy:IsNest knd s.heap y b) (h:P (.done (.ret (.bool (decide (x=y))))) s) :
  wpAny (model prog w) A (Builtin.«tuple.__eq__» ⟨[.ref a,.ref b],[]⟩) P E s:=by
 have hTb:=hy.typeIs;obtain⟨k,r,t,v,o,n,rfl,ho,hc,hd,ht,hk⟩:=hx;obtain⟨k',r',t',v',o',n',rfl,ho',hc',hd',ht',hk'⟩:=hy;show wpAny _ _ (isInstance (.ref b) (.type "tuple") >>= _) _ _ s;refine Xa (wpAny_isInstance hTb isSubtype_tuple_tuple ?_);simp only[XE,XI,wD];refine Xa (wpAny_tupleItemsOf ho hd ?_);refine Xa (wpAny_tupleItemsOf ho' hd' ?_);refine Xa ?_;show wpAny _ _ (forIn [(Value.ref t,Value.ref t'),(v,v')] _ _) _ _ s;rw[List.forIn_cons];refine Xa (Xa (wpAny_eqBool_tuple hu ht ht' ?_));by_cases e1:r=r'
 ·subst e1;rw[Xl rfl];simp only[XE,XI,wD];refine Xb ?_;dsimp only;rw[List.forIn_cons];refine Xa (Xa (knd.eqBool hk hk' ?_));by_cases e2:k=k'
  ·subst e2;rw[Xl rfl];simp only[XE,XI,wD];refine Xb ?_;dsimp only;rw[List.forIn_nil];refine Xb ?_;rw[Xl rfl] at h;exact Xb h
  ·rw[Xp e2];simp only[wt,if_true];rw[Xp (fun z=>e2 (List.cons.inj z).1)] at h;exact Xa (Xb (Xb (Xb (Xb h))))
 ·rw[Xp e1];simp only[wt,if_true];rw[Xp (fun z=>e1 (List.cons.inj z).2)] at h;exact Xa (Xb (Xb (Xb (Xb h))))
theorem jhD {x y:List K}{b:Addr}{Q:Bool->Shared->Prop} (hu:A.units+1<cLine) (hx:IsNest knd s.heap x a) (hy:IsNest knd s.heap y b) (h:Q (decide (x=y)) s):wpAny (model prog w) A (eqBool (.ref a) (.ref b)) Q E s:=by
 unfold eqBool
 try with_reducible refine X2 ?_
 show wpAny _ _ (if (Value.ref a==Value.ref b)=true then _ else _) Q E s;by_cases hab:(Value.ref a==Value.ref b)=true
 ·rw[if_pos hab];have e:a=b:=by have:=eq_of_beq hab; injection this
  subst e;obtain rfl:=hx.inj hy;exact Xa (wpAny_rule (Xb (by simpa using h)))
 ·rw[if_neg hab];exact Xa (wpAny_richCompare_same_room (op:=.Eq) hx.typeIs hy.typeIs F.slot_tuple_eq
   (wx F.slot_tuple_eq hx.typeIs F.entry_tuple_eq (YN (A:=A.in1) (show A.units+1<cLine from hu) hx hy ⟨_,rfl,(fun e=>nomatch e),wm h⟩) (F.args_tuple_eq_2 _ _)) (by omega))
theorem jfl {ks:List K}{m:Nat}{Q:Bool->Shared->Prop} (hk:IsTupleKey knd s.heap ks a) (h:Q true s):wpAny (model prog w) A (eqIsQuiet (m+1) (.ref a)) Q E s:=by
 have hT:=hk.typeIs;obtain⟨o,items,n,ho,_,hd,hi⟩:=hk;unfold eqIsQuiet;refine Xa (wpAny_specialOf hT F.slot_tuple_eq.lookup ?_);show wpAny _ _ (isInstance (.ref a) (.type "tuple") >>= _) _ _ s;refine Xa (wpAny_isInstance hT isSubtype_tuple_tuple ?_);simp only[XE,XI,wD];refine Xa (wpAny_seqItems ho hd ?_);refine Xa ?_;show wpAny _ _ (forIn items _ _) _ _ s;rw[<- Array.forIn_toList];refine wpAny_forIn_list _ (fun rest r s'=>r.1=none/\s'=s/\∀ v∈rest,carriedByValue v=true) _ ?_ ?_ _ _ ⟨rfl,rfl,hi.byValue⟩
 ·rintro v rest r s' ⟨hr,rfl,hall⟩;rw[eqIsQuiet_byValue _ (hall v Xi)];refine Xa (Xb ?_);simp only[XE,XI,wD];exact Xb ⟨rfl,rfl,fun u hu'=>hall u (Xf _ hu')⟩
 ·rintro⟨r1,r2⟩ s' ⟨hr,rfl,_⟩;simp only at hr;subst hr;exact Xb h
theorem jbN {ks:List K}{Q:Bool->Shared->Prop} (hk:IsNest knd s.heap ks a) (h:Q true s):wpAny (model prog w) A (eqIsQuiet 8 (.ref a)) Q E s:=by
 have hT:=hk.typeIs;obtain⟨k,r,t,v,o,n,rfl,ho,hc,hd,ht,hk⟩:=hk;unfold eqIsQuiet;refine Xa (wpAny_specialOf hT F.slot_tuple_eq.lookup ?_);show wpAny _ _ (isInstance (.ref a) (.type "tuple") >>= _) _ _ s;refine Xa (wpAny_isInstance hT isSubtype_tuple_tuple ?_);simp only[XE,XI,wD];refine Xa (wpAny_seqItems ho hd ?_);refine Xa ?_;show wpAny _ _ (forIn #[Value.ref t,v] _ _) _ _ s;rw[<- Array.forIn_toList];show wpAny _ _ (forIn [Value.ref t,v] _ _) _ _ s;rw[List.forIn_cons];refine Xa (Xa (jfl (m:=6) ht ?_));simp only[XE,XI,wD];refine Xb ?_;dsimp only;rw[List.forIn_cons,eqIsQuiet_byValue _ (knd.byValue _ _ hk)];refine Xa (Xa (Xb ?_));simp only[XE,XI,wD];refine Xb ?_;dsimp only;rw[List.forIn_nil];exact Xb (Xb h)
end
def jfm {K:Type} [DecidableEq K] (knd:KeyKind prog w K):HeapKind prog w (List K) where
 is:=IsNest knd
 hash:=ja6 knd
 draws:=fun ks=>ks.length+2
 room:=fun A=>A.units+1<cLine
 inj:=fun hx hy=>hx.inj hy
 keeps:=fun x ho hd hs=>x.keeps ho hd hs
 pyHash:=fun hu hk h=>jcX hu hk h
 eqBool:=fun hu hx hy h=>jhD hu hx hy h
 quiet:=fun hk h=>jbN hk h
def TupK (fl:Bool) (H:Hp) (ks:List Key) (b:Addr):Prop:=match fl with
 | false=>H b=some (.tup (ks.map kV))
 | true=>∃ k r t,ks=k::r/\H b=some (.tup [.ref t,kV k])/\H t=some (.tup (r.map kV))
theorem TupK.mono {H H':Hp}{ks:List Key}{b:Addr} (x:TupK fl H ks b) (ht:∀ b xs,H b=some (.tup xs)->H' b=some (.tup xs)):TupK fl H' ks b:=by
 cases fl with
 | false=>exact ht _ _ x
 | true=>obtain⟨k,r,t,e,h1,h2⟩:=x; exact ⟨k,r,t,e,ht _ _ h1,ht _ _ h2⟩
def kdT (fl:Bool) (P:Program) (w:World):HeapKind P w (List Key):=match fl with
 | false=>tupleKind (zU P w)
 | true=>jfm (zU P w)
section
variable (P:Program) (w:World)
def ObjOk (H:Hp) (h:Heap) (a:Addr):HO->Prop
 | .lst xs=>xs.length<=sizeLine/\∃ (its:List Value) (n:Nat),Vals xs its/\h.get? a=some { cls:=.type "list",data:=.seq its.toArray n }
 | .tup xs=>xs.length<=sizeLine/\∃ its:List Value,Vals xs its/\TupO h a its.toArray
 | .dK kvs=>kvs.length<=sizeLine/\(a==sysModules)=false/\∃ vs,KV kvs vs/\h.DictOf (zU P w) a vs
 | .dT fl kvs=>kvs.length<=sizeLine/\(a==sysModules)=false/\∃ xs:List (List Key×Addr×Value),
   Paired (fun (p:List Key×V) (q:List Key×Addr×Value)=>p.1=q.1/\TupK fl H p.1 q.2.1/\RelV p.2 q.2.2) kvs xs /\
   ∃ o es ep,h.get? a=some o/\o.ExactDict/\o.data=.dict es ep/\es.toList=xs.map (entryOfKey (kdT fl P w))/\(xs.map (·.1)).Nodup
 | .set S n=>h.SetOf (intKind P w) a S n
 | .ins C dx fs=>H dx=some (.own a)/\fs.length<=1000/\dx≠a/\h.get? a=some (W.instObj C dx) /\
   ∃ mA,h.Ns1 dx mA/\(∀ f,RelO (fs.lookup f) (mA f))/\PySem.Within mA (fs.map (·.1))
 | .own _=>∃ o,h.get? a=some o
 | .xd fs=>∃ mA,h.Ns1 a mA/\∀ f,RelO (fs.lookup f) (mA f)
 | .rng lo hi=>∃ t u v,h.get? a=some { cls:=.type "range",data:=.fields #[.int lo t,.int hi u,.int 1 v] }
 | .frz o u=>h.get? a=some o/\ObjOk H h a u
 | .tbl ps=>h.get? a=some { cls:=.none,data:=.fields ps }
 | .met f x=>h.get? a=some (W.methodObj (.ref f) (.ref x))
 | .ext φ=>φ h/\(∃ o,h.get? a=some o)/\∀ h1 h2:Heap,φ h1->(∀ o,h1.get? a=some o->h2.get? a=some o)->φ h2
def HOk (H:Hp) (h:Heap):Prop:=∀ a o,H a=some o->ObjOk P w H h a o
end
section
variable {P:Program}{H H':Hp}{o:HO}
theorem ObjOk.lt (x:ObjOk P w H h a o):a<h.objs.size:=by
 cases o with
 | lst xs=>obtain⟨_,_,_,_,e⟩:=x; exact Xo e
 | tup xs=>obtain⟨_,_,_,p⟩:=x; exact p.lt
 | dK kvs=>obtain⟨_,_,_,_,o,_,_,e,_⟩:=x; exact Xo e
 | dT fl kvs=>obtain⟨_,_,_,_,o,_,_,e,_⟩:=x; exact Xo e
 | set S n=>obtain⟨o,_,_,_,e,_⟩:=x; exact Xo e
 | ins C dx fs=>obtain⟨_,_,_,e,_⟩:=x; exact Xo e
 | own y=>obtain⟨_,e⟩:=x; exact Xo e
 | xd fs=>obtain⟨_,⟨_,_,_,e,_⟩,_⟩:=x; exact Xo e
 | rng lo hi=>obtain⟨_,_,_,e⟩:=x; exact Xo e
 | frz ob u=>obtain⟨e,_⟩:=x; exact Xo e
 | tbl ps=>exact Xo (show h.get? a=some _ from x)
 | met f y=>exact Xo (show h.get? a=some _ from x)
 | ext φ=>obtain⟨_,⟨_,e⟩,_⟩:=x; exact Xo e
theorem Paired.mapP {F G:α->β->Prop}:∀ {l₁:List α}{l₂:List β},Paired F l₁ l₂->(∀ a b,F a b->G a b)->Paired G l₁ l₂
 | _,_,.nil,_=>.nil
 | _,_,.cons r t,f=>.cons (f _ _ r) (Paired.mapP t f)
theorem ObjOk.stay (x:ObjOk P w H h a o) (k:∀ b u,(b=a \/ H b=some (.own a))->h.get? b=some u->h'.get? b=some u)
  (ho:∀ b,H b=some (.own a)->H' b=some (.own a)) (ht:∀ b xs,H b=some (.tup xs)->H' b=some (.tup xs)):ObjOk P w H' h' a o:=by
 induction o with
 | lst xs=>obtain⟨z,its,n,r,e⟩:=x; exact ⟨z,its,n,r,k _ _ (.inl rfl) e⟩
 | tup xs=>obtain⟨z,its,r,ob,e,c⟩:=x; exact ⟨z,its,r,ob,k _ _ (.inl rfl) e,c⟩
 | dK kvs=>obtain⟨z,y,vs,r,ob,es,ep,e,c⟩:=x; exact ⟨z,y,vs,r,ob,es,ep,k _ _ (.inl rfl) e,c⟩
 | dT fl kvs=>
  obtain⟨z,y,xs,r,ob,es,ep,e,c⟩:=x;exact⟨z,y,xs,Paired.mapP r fun p q z=>⟨z.1,z.2.1.mono ht,z.2.2⟩,ob,es,ep,k _ _ (.inl rfl) e,c⟩
 | set S n=>obtain⟨ob,es,ep,t,e,c⟩:=x; exact ⟨ob,es,ep,t,k _ _ (.inl rfl) e,c⟩
 | ins C dx fs=>
  obtain⟨d,z,ne,e,mA,⟨od,es,ep,e2,c⟩,r⟩:=x;exact⟨ho _ d,z,ne,k _ _ (.inl rfl) e,mA,⟨od,es,ep,k _ _ (.inr d) e2,c⟩,r⟩
 | own y=>obtain⟨ob,e⟩:=x; exact ⟨ob,k _ _ (.inl rfl) e⟩
 | xd fs=>obtain⟨mA,⟨od,es,ep,e,c⟩,r⟩:=x; exact ⟨mA,⟨od,es,ep,k _ _ (.inl rfl) e,c⟩,r⟩
 | rng lo hi=>obtain⟨t,u,v,e⟩:=x; exact ⟨t,u,v,k _ _ (.inl rfl) e⟩
 | frz ob u ih=>obtain⟨e,q⟩:=x; exact ⟨k _ _ (.inl rfl) e,ih q⟩
 | tbl ps=>
  have e:h.get? a=some { cls:=.none,data:=.fields ps }:=x;show h'.get? a=some { cls:=.none,data:=.fields ps };exact k a _ (.inl rfl) e
 | met f y=>
  have e:h.get? a=some (W.methodObj (.ref f) (.ref y)):=x;show h'.get? a=some (W.methodObj (.ref f) (.ref y));exact k a _ (.inl rfl) e
 | ext φ=>obtain⟨p,⟨o,e⟩,st⟩:=x; exact ⟨st _ _ p fun o q=>k _ _ (.inl rfl) q,⟨o,k _ _ (.inl rfl) e⟩,st⟩
theorem HOk.lt (x:HOk P w H h) (e:H a=some o):a<h.objs.size:=(x a o e).lt
theorem HOk.fresh (x:HOk P w H h) (e:h.objs.size<=a):H a=none:=by
 cases q:H a with
 | none=>rfl
 | some u=>exact absurd (Xt (x.lt q) e) (Nat.lt_irrefl _)
theorem HOk.kept (x:HOk P w H h) (k:∀ b u,h.get? b=some u->h'.get? b=some u):HOk P w H h':=fun a o e=>
 (x a o e).stay (fun b u _ q=>k b u q) (fun _ q=>q) fun _ _ q=>q
theorem HOk.laid (x:HOk P w H h) (k:∀ b u,h.get? b=some u->h'.get? b=some u) (hp:h.objs.size<=a) (new:ObjOk P w (upd H a o) h' a o):HOk P w (upd H a o) h':=fun b u e=>by
 have hn:=x.fresh hp;by_cases hb:b=a
 ·subst hb; rw[jV] at e; cases e; exact new
 ·rw[jM hb] at e;exact(x b u e).stay (fun c v _ q=>k c v q) (fun c q=>by rw[jM (kK q hn)]; exact q) fun c xs q=>by rw[jM (kK q hn)]; exact q
end
def Rd (H:Hp) (a:Addr) (u:HO):Prop:=H a=some u \/ ∃ o,H a=some (.frz o u)
theorem Rd.ok {P:Program}{H:Hp}{u:HO} (r:Rd H a u) (x:HOk P w H h):ObjOk P w H h a u:=by
 rcases r with r | ⟨o,r⟩
 ·exact x a u r
 ·obtain⟨_,q⟩:=x a _ r;exact q
def Mut:Option HO->Prop
 | some (.lst _)=>True
 | some (.dK _)=>True
 | some (.dT _ _)=>True
 | some (.set _ _)=>True
 | some (.ins _ _ _)=>True
 | some (.ext _)=>True
 | _=>False
section
variable {P:Program}{H:Hp}{x e:Addr}{o':HO}
theorem HOk.write (ok:HOk P w H h) (mu:Mut (H x)) (he:e=x \/ H e=some (.own x)) (k:∀ b u,b≠e->h.get? b=some u->h'.get? b=some u) (heo:∃ u,h'.get? e=some u)
  (new:ObjOk P w (upd H x o') h' x o'):HOk P w (upd H x o') h':=fun b u q=>by
 have nown:∀ c y,H c=some (.own y)->c≠x:=fun c y r z=>by subst z; rw[r] at mu; exact mu
 have ntup:∀ c xs,H c=some (.tup xs)->c≠x:=fun c xs r z=>by subst z; rw[r] at mu; exact mu
 by_cases hb:b=x
 ·subst hb; rw[jV] at q; cases q; exact new
 ·rw[jM hb] at q;by_cases hbe:b=e
  ·have q':H b=some (.own x):=by
    rcases he with z | z
    ·exact absurd (hbe.trans z) hb
    ·rw[hbe]; exact z
   rw[q] at q'; cases q';obtain⟨v,hv⟩:=heo;exact⟨v,by rw[hbe]; exact hv⟩
  ·refine(ok b u q).stay (fun c v hc r=>k c v ?_ r) (fun c r=>by rw[jM (nown c b r)]; exact r) fun c xs r=>by rw[jM (ntup c xs r)]; exact r
   rcases hc with rfl | hc
   ·exact hbe
   ·rintro rfl;rcases he with z | z
    ·exact nown c b hc z
    ·rw[hc] at z; cases z; exact hb rfl
end
structure Un (fs ex:List Addr) (H H':Hp) (h h':Heap):Prop where
 keep:∀ b o,h.get? b=some o->H b=none->b∉fs->b∉ex->h'.get? b=some o
 slot:∀ b o,h.get? b=some o->H b=none->b∈fs->b∉ex->∃ sl,h'.get? b=some { o with slots:=sl }
 free:∀ b o,h.get? b=some o->H b=none->b∉ex->H' b=none
 there:∀ b o,h.get? b=some o->b∉ex->∃ o',h'.get? b=some o'
 tups:∀ b xs,H b=some (.tup xs)->H' b=some (.tup xs)
 frzs:∀ b o u,H b=some (.frz o u)->H' b=some (.frz o u)
 tbls:∀ b ps,H b=some (.tbl ps)->∃ more,H' b=some (.tbl (ps++more))
section
variable {fs fs' ex ex':List Addr}{H H1 H2:Hp}{h2:Heap}{x e:Addr}{o:HO}
theorem Un.any (u:Un fs ex H H1 h h1) {b:Addr}{ob:Obj} (q:h.get? b=some ob) (n:H b=none) (hx:b∉ex):∃ sl,h1.get? b=some { ob with slots:=sl }:=by
 by_cases hb:b∈fs
 ·exact u.slot b ob q n hb hx
 ·exact⟨ob.slots,u.keep b ob q n hb hx⟩
theorem Un.kept (k:∀ b u,h.get? b=some u->h'.get? b=some u):Un fs ex H H h h':=
 ⟨fun b ob q _ _ _=>k b ob q,fun b ob q _ _ _=>⟨ob.slots,k b ob q⟩,fun _ _ _ n _=>n,fun b ob q _=>⟨ob,k b ob q⟩,fun _ _ q=>q,fun _ _ _ q=>q,fun _ ps q=>⟨#[],by rw[q]; simp⟩⟩
theorem Un.refl:Un fs ex H H h h:=Un.kept fun _ _ q=>q
theorem Un.laid (k:∀ b u,h.get? b=some u->h'.get? b=some u) (hp:h.objs.size<=a) (hn:H a=none):Un fs ex H (upd H a o) h h' where
 keep:=fun b u q _ _ _=>k b u q
 slot:=fun b u q _ _ _=>⟨u.slots,k b u q⟩
 free:=fun b u q n _=>by rw[jM (XA (Xt (Xo q) hp))]; exact n
 there:=fun b u q _=>⟨u,k b u q⟩
 tups:=fun b xs q=>by rw[jM (kK q hn)]; exact q
 frzs:=fun b u xs q=>by rw[jM (kK q hn)]; exact q
 tbls:=fun b ps q=>⟨#[],by rw[jM (kK q hn),q]; simp⟩
theorem Un.write (mu:Mut (H x)) (he:e=x \/ H e=some (.own x)) (k:∀ b u,b≠e->h.get? b=some u->h'.get? b=some u) (heo:∃ u,h'.get? e=some u):Un fs ex H (upd H x o) h h':=by
 have hx:∀ b,H b=none->b≠x:=fun b n z=>by subst z; rw[n] at mu; exact mu
 have hb:∀ b,H b=none->b≠e:=fun b n z=>by
  subst z;rcases he with r | r
  ·exact hx b n r
  ·rw[n] at r; cases r
 have hm:∀ b u,H b=some u->¬ Mut (some u)->b≠x:=fun b u q nm z=>by subst z; rw[q] at mu; exact nm mu
 refine⟨fun b u q n _ _=>k b u (hb b n) q,fun b u q n _ _=>⟨u.slots,k b u (hb b n) q⟩,fun b u q n _=>by rw[jM (hx b n)]; exact n,fun b u q _=>?_,
  fun b xs q=>by rw[jM (hm b _ q fun z=>z)]; exact q,fun b u xs q=>by rw[jM (hm b _ q fun z=>z)]; exact q,fun b ps q=>⟨#[],by rw[jM (hm b _ q fun z=>z),q]; simp⟩⟩
 by_cases hbe:b=e
 ·subst hbe; exact heo
 ·exact⟨u,k b u hbe q⟩
end
def trk (h:Heap) (H:Hp):List Addr:=(List.range h.objs.size).filter fun a=>(H a).isSome
def jfn (h:Heap) (H:Hp):Heap:=W.hideAll h (trk h H)
theorem jcY (h:Heap) (H:Hp):(jfn h H).objs.size=h.objs.size:=W.hideAll_size _ _
theorem jfo {H:Hp}{b:Addr} (e:h.get? b=some o) (n:H b=none):(jfn h H).get? b=some o:=
 W.hideAll_get _ e fun hm=>by
  have q:(H b).isSome=true:=(XX.mp hm).2;rw[n] at q; simp at q
theorem jhE {H:Hp}{b:Addr} (e:(jfn h H).get? b=some o):h.get? b=some o/\H b=none:=by
 have e':h.get? b=some o:=W.of_hideAll (trk h H) e;refine⟨e',?_⟩;cases q:H b with
 | none=>rfl
 | some x=>
  have hm:b∈trk h H:=XX.mpr ⟨Xu.mpr (Xo e'),by simp[q]⟩;have z:(jfn h H).get? b=none:=W.hideAll_none (trk h H) hm;rw[z] at e; cases e
def jhF (g h:Heap) (L:Addr):List (Addr×Obj):=(List.range h.objs.size).filterMap fun a=>if a=L \/ (g.get? a).isSome=true then none else (h.get? a).map fun o=>(a,o)
def rest (g h:Heap) (L d:Addr):List (Addr×Obj):=(jhF g h L).filter fun p=>decide (p.1≠d)
structure Mod (K:W.Frag) (mg:Str->Option Value) (base:Heap):Prop where
 kin:K.In base
 glob:base.Ns mainGlobals mg
 blt:∃ mb,base.Ns builtinsNs mb/\∀ x:Str,x≠"__name__"->mb x=bootBuiltins x
 nolimit:base.NoLimit
structure Cx where
 prog:Program
 w:World
 K:W.Frag
 mg:Str->Option Value
 base:Heap
 A:Around
 N:List Str
 s₀:Shared
 H₀:Hp
 env:Env
 outer:List Env
 stack:List Env
 ex:List Addr
 fn:Str->Bool
 calm:Bool
 pn:List (Addr×Obj)
 xe:Value->Shared->Prop
def frs (l:List Env):List Addr:=l.filterMap (·.frame)
abbrev Cx.fs (X:Cx):List Addr:=frs X.outer
def Vis (sc:Scope) (x:Str):Prop:=sc.names.lookup x=some .local \/ sc.names.lookup x=some .cell \/ sc.names.lookup x=some .free
def Loc (sc:Scope) (x:Str):Prop:=sc.names.lookup x=some .local \/ sc.names.lookup x=some .cell
def jlq (env:Env) (h:Heap) (m:Str->Option Value) (x:Str) (u:Value):Prop:=
 (env.kindOf x=some .local/\m x=some u) \/ ((env.kindOf x=some .cell \/ env.kindOf x=some .free)/\∃ c,env.cells.lookup x=some c/\h.IsCell c (some u))
structure Cx.Ok (X:Cx):Prop where
 mod:Mod X.K X.mg X.base
 kind:X.env.scope.kind=.function
 glob:X.env.globals=mainGlobals
 blt:X.env.builtins=builtinsNs
 above:X.s₀.heap.objs.size<=X.env.locals
 inj:∀ x y c,X.env.cells.lookup x=some c->X.env.cells.lookup y=some c->x=y
 has:∀ x,(X.env.kindOf x=some .cell \/ X.env.kindOf x=some .free)->∃ c,X.env.cells.lookup x=some c
 cab:∀ x c,X.fn x=true->X.env.cells.lookup x=some c->X.s₀.heap.objs.size<=c
 hd:X.calm=true->X.A.handled=none
 frames:X.A.frames=some X.stack
 stk:X.stack=X.outer \/ (X.stack=X.env::X.outer/\X.env.frame=some X.env.locals)
 exf:∀ b∈X.ex,b≠X.env.locals/\∀ x c,X.env.cells.lookup x=some c->c≠b
 bs:∀ b o,X.base.get? b=some o->X.s₀.heap.get? b=some o/\X.H₀ b=none
 bsz:X.base.objs.size<=X.s₀.heap.objs.size
 noex:∀ b o,X.base.get? b=some o->b∉X.ex
 exfs:∀ b∈X.ex,b∉X.fs
 funs:X.s₀.heap.FunFrames X.base X.outer
 frf:∀ b∈X.fs,X.H₀ b=none
structure Inv (X:Cx) (pins:List (Addr×Obj)) (σ:List (Option V)) (H:Hp) (s:Shared):Prop where
 ok:X.Ok
 os:s.os=X.s₀.os
 bare:AllBare s.gens
 base:Un X.fs X.ex X.H₀ H X.s₀.heap s.heap
 loc:∃ m,s.heap.Ns X.env.locals m/\∀ (i:Nat) (x:Str) (v:V),X.N[i]?=some x->σ[i]?=some (some v)->Vis X.env.scope x->∃ u,RelV v u/\jlq X.env s.heap m x u
 cell:∀ x c,X.env.cells.lookup x=some c->∃ v,s.heap.IsCell c v
 free:H X.env.locals=none
 freeC:∀ x c,X.env.cells.lookup x=some c->H c=none
 pin:∀ p∈X.pn++pins,s.heap.get? p.1=some p.2/\H p.1=none/\p.1≠X.env.locals/\p.1∉X.fs/\∀ v,p.2.data≠.cell v
 hok:HOk X.prog X.w H s.heap
 len:σ.length=X.N.length
section
variable {X:Cx}{σ:List (Option V)}{H H':Hp} 
theorem Cx.Ok.nofr (ok:X.Ok) {b:Addr} (e:X.base.get? b=some o):b∉X.fs:=fun hb=>by
 have:=(ok.funs.mem hb).1;rw[e] at this; cases this
theorem Inv.bs (I:Inv X pins σ H s):∀ b o,X.base.get? b=some o->s.heap.get? b=some o/\H b=none:=fun b o e=>
 ⟨I.base.keep b o (I.ok.bs b o e).1 (I.ok.bs b o e).2 (I.ok.nofr e) (I.ok.noex b o e),I.base.free b o (I.ok.bs b o e).1 (I.ok.bs b o e).2 (I.ok.noex b o e)⟩
theorem Inv.bk (I:Inv X pins σ H s):∀ b o,X.base.get? b=some o->s.heap.get? b=some o:=fun b o e=>(I.bs b o e).1
theorem Inv.mod (I:Inv X pins σ H s):Mod X.K X.mg X.base:=I.ok.mod
theorem Inv.kIn (I:Inv X pins σ H s):X.K.In s.heap:=I.ok.mod.kin.keeps I.bk
theorem Inv.lt (I:Inv X pins σ H s):X.env.locals<s.heap.objs.size:=let ⟨_,hn,_⟩:=I.loc; hn.lt
theorem Inv.sz (I:Inv X pins σ H s):X.s₀.heap.objs.size<=s.heap.objs.size:=X6 I.ok.above (wG I.lt)
theorem Inv.nofs (I:Inv X pins σ H s) (h:s.heap.objs.size<=a):a∉X.fs:=fun hb=>by
 obtain⟨_,o,ho,_⟩:=I.ok.funs.mem hb;exact absurd (Xt (Xo ho) (X6 I.sz h)) (Nat.lt_irrefl _)
theorem Inv.cne (I:Inv X pins σ H s):∀ x c,X.env.cells.lookup x=some c->c≠X.env.locals:=fun x c e z=>by
 obtain⟨v,o,ho,hd⟩:=I.cell x c e;obtain⟨m,⟨o',es,ep,ho',hd',_⟩,_⟩:=I.loc;rw[z,ho'] at ho; cases ho; rw[hd'] at hd; cases hd
theorem Inv.funs (I:Inv X pins σ H s):s.heap.FunFrames X.base X.outer:=by
 have all:∀ (l:List Env),(∀ b∈frs l,b∈X.fs)->X.s₀.heap.FunFrames X.base l->s.heap.FunFrames X.base l:=by
  intro l
  induction l with
  | nil=>intro _ _; trivial
  | cons env r ih=>
   intro hs hl;obtain⟨hk,⟨L,o,hf,hn,ho,hd⟩,hr⟩:=hl;have hL:L∈X.fs:=hs L (by unfold frs; rw[List.filterMap_cons,hf]; exact Xi);obtain⟨sl,e⟩:=I.base.slot L o ho (I.ok.frf L hL) hL fun z=>I.ok.exfs L z hL;exact⟨hk,⟨L,_,hf,hn,e,hd⟩,ih (fun b hb=>hs b (by unfold frs; rw[List.filterMap_cons,hf]; exact Xf _ hb)) hr⟩
 exact all X.outer (fun _ hb=>hb) I.ok.funs
theorem Inv.stack (I:Inv X pins σ H s):s.heap.FunFrames X.base X.stack:=by
 rcases I.ok.stk with e | ⟨e,hf⟩
 ·rw[e]; exact I.funs
 ·rw[e];obtain⟨m,hn,_⟩:=I.loc;refine .cons (by rw[I.ok.kind]; decide) hf hn ?_ I.funs;exact Heap.get?_none_of_le (X6 I.ok.bsz I.ok.above)
theorem Inv.stkSub (I:Inv X pins σ H s):∀ b∈frs X.stack,b∈X.env.locals::X.fs:=fun b hb=>by
 rcases I.ok.stk with e | ⟨e,hf⟩
 ·rw[e] at hb; exact Xf _ hb
 ·rw[e] at hb;unfold frs at hb;rw[List.filterMap_cons,hf] at hb;exact hb
theorem Inv.stkFree (I:Inv X pins σ H s):∀ b∈frs X.stack,H b=none:=fun b hb=>by
 rcases Xk.mp (I.stkSub b hb) with e | hb
 ·rw[e]; exact I.free
 ·obtain⟨_,o,ho,_⟩:=I.ok.funs.mem hb;exact I.base.free b o ho (I.ok.frf b hb) fun z=>I.ok.exfs b z hb
theorem Inv.step {g':Array GenState}{d':Drawn} (I:Inv X pins σ H s)
  (hch:∀ b∈ch,(b∈X.ex \/ X.s₀.heap.objs.size<=b)/\b≠X.env.locals/\(∀ x c,X.env.cells.lookup x=some c->c≠b)/\∀ p∈X.pn++pins,p.1≠b)
  (keep:∀ b o,b≠X.env.locals->b∉X.fs->b∉ch->s.heap.get? b=some o->H b=none->h'.get? b=some o)
  (slot:∀ b o,b≠X.env.locals->b∈X.fs->b∉ch->s.heap.get? b=some o->H b=none->∃ sl,h'.get? b=some { o with slots:=sl }) (free:∀ b o,b∉ch->s.heap.get? b=some o->H b=none->H' b=none)
  (there:∀ b o,b∉ch->s.heap.get? b=some o->∃ o',h'.get? b=some o')
  (tups:∀ b xs,H b=some (.tup xs)->H' b=some (.tup xs)) (frzs:∀ b o u,H b=some (.frz o u)->H' b=some (.frz o u)) (tbls:∀ b ps,H b=some (.tbl ps)->∃ more,H' b=some (.tbl (ps++more)))
  (ns:∀ m,s.heap.Ns X.env.locals m->h'.Ns X.env.locals m) (hok:HOk X.prog X.w H' h') (hg:AllBare g') :
  Inv X pins σ H' { s with heap:=h',gens:=g',drawn:=d',toks:=t' }:=by
 have neL:∀ b o,X.s₀.heap.get? b=some o->b≠X.env.locals:=fun b o e=>XA (Xt (Xo e) I.ok.above);have neC:∀ b o,X.s₀.heap.get? b=some o->b∉X.ex->b∉ch:=fun b o e hx hb=>by
  rcases (hch b hb).1 with z | z
  ·exact hx z
  ·exact absurd (Xt (Xo e) z) (Nat.lt_irrefl _)
 have cellK:∀ x c,X.env.cells.lookup x=some c->∀ v,s.heap.IsCell c v->h'.IsCell c v:=fun x c e v ⟨o,ho,hd⟩=>by
  have nch:c∉ch:=fun z=>(hch c z).2.2.1 x c e rfl;by_cases hc:c∈X.fs
  ·obtain⟨sl,q⟩:=slot c o (I.cne x c e) hc nch ho (I.freeC x c e);exact⟨_,q,hd⟩
  ·exact⟨o,keep c o (I.cne x c e) hc nch ho (I.freeC x c e),hd⟩
 refine⟨I.ok,I.os,hg,⟨fun b o e n hb hx=>?_,fun b o e n hb hx=>?_,fun b o e n hx=>?_,fun b o e hx=>?_,fun b xs e=>tups b xs (I.base.tups b xs e),fun b o xs e=>frzs b o xs (I.base.frzs b o xs e),fun b ps e=>?_⟩,?_,fun x c e=>?_,?_,fun x c e=>?_,fun p hp=>?_,hok,I.len⟩
 ·exact keep b o (neL b o e) hb (neC b o e hx) (I.base.keep b o e n hb hx) (I.base.free b o e n hx)
 ·obtain⟨sl,e1⟩:=I.base.slot b o e n hb hx;obtain⟨sl',e2⟩:=slot b _ (neL b o e) hb (neC b o e hx) e1 (I.base.free b o e n hx);exact⟨sl',e2⟩
 ·obtain⟨o',e1⟩:=I.base.there b o e hx;exact free b o' (neC b o e hx) e1 (I.base.free b o e n hx)
 ·obtain⟨o',e1⟩:=I.base.there b o e hx;exact there b o' (neC b o e hx) e1
 ·obtain⟨m1,e1⟩:=I.base.tbls b ps e;obtain⟨m2,e2⟩:=tbls b _ e1;exact⟨m1++m2,by rw[e2,Array.append_assoc]⟩
 ·obtain⟨m,hn,hl⟩:=I.loc;refine⟨m,ns m hn,fun i x v e1 e2 e3=>?_⟩;obtain⟨u,r,l⟩:=hl i x v e1 e2 e3;refine⟨u,r,?_⟩;rcases l with l | ⟨k,c,e,z⟩
  ·exact .inl l
  ·exact .inr ⟨k,c,e,cellK x c e _ z⟩
 ·obtain⟨v,z⟩:=I.cell x c e;exact⟨v,cellK x c e v z⟩
 ·obtain⟨m,⟨o,_,_,ho,_⟩,_⟩:=I.loc;exact free _ o (fun z=>(hch _ z).2.1 rfl) ho I.free
 ·obtain⟨v,o,ho,hd⟩:=I.cell x c e;exact free c o (fun z=>(hch c z).2.2.1 x c e rfl) ho (I.freeC x c e)
 ·obtain⟨e,n,ne,nf,d⟩:=I.pin p hp;have nch:p.1∉ch:=fun z=>(hch p.1 z).2.2.2 p hp rfl;exact⟨keep p.1 p.2 ne nf nch e n,free p.1 p.2 nch e n,ne,nf,d⟩
theorem Inv.un (I:Inv X pins σ H s) (u:Un X.fs [] H H' s.heap h') (hok:HOk X.prog X.w H' h'):Inv X pins σ H' { s with heap:=h',toks:=t' }:=by
 obtain⟨m,⟨o,es,ep,ho,r⟩,_⟩:=id I.loc;obtain⟨sl,hL⟩:=u.any ho I.free (by simp);exact I.step (g':=s.gens) (d':=s.drawn) (ch:=[]) (fun _ z=>nomatch z) (fun b o _ hb _ e n=>u.keep b o e n hb (by simp)) (fun b o _ hb _ e n=>u.slot b o e n hb (by simp)) (fun b o _ e n=>u.free b o e n (by simp)) (fun b o _ e=>u.there b o e (by simp)) u.tups u.frzs u.tbls (fun m' hm=>by
  obtain⟨o',es',ep',ho',r'⟩:=hm;rw[ho] at ho'; cases ho';exact⟨_,es',ep',hL,r'⟩) hok I.bare
theorem Inv.call {g':Array GenState}{d':Drawn} (I:Inv X pins σ H s) (u:Un (frs X.stack) ch H H' s.heap h') (hok:HOk X.prog X.w H' h') (hg:AllBare g')
  (hch:∀ b∈ch,(b∈X.ex \/ X.s₀.heap.objs.size<=b)/\b≠X.env.locals/\(∀ x c,X.env.cells.lookup x=some c->c≠b)/\∀ p∈X.pn++pins,p.1≠b) :
  Inv X pins σ H' { s with heap:=h',gens:=g',drawn:=d',toks:=t' }:=by
 obtain⟨m,⟨o,es,ep,ho,r⟩,_⟩:=id I.loc;obtain⟨sl,hL⟩:=u.any ho I.free fun z=>(hch _ z).2.1 rfl;exact I.step (ch:=ch) hch (fun b o hL hb hc e n=>u.keep b o e n (fun z=>(Xk.mp (I.stkSub b z)).elim hL hb) hc) (fun b o _ _ hc e n=>u.any e n hc) (fun b o hc e n=>u.free b o e n hc) (fun b o hc e=>u.there b o e hc) u.tups u.frzs u.tbls (fun m' hm=>by
  obtain⟨o',es',ep',ho',r'⟩:=hm;rw[ho] at ho'; cases ho';exact⟨_,es',ep',hL,r'⟩) hok hg
theorem Inv.turned (I:Inv X pins σ H s) (k:∀ b o,b≠it->s.heap.get? b=some o->h'.get? b=some o) (hn:H it=none) (hL:it≠X.env.locals)
  (h1:it∈X.ex \/ X.s₀.heap.objs.size<=it) (h2:∀ x c,X.env.cells.lookup x=some c->c≠it) (h3:∀ p∈X.pn++pins,p.1≠it):Inv X pins σ H { s with heap:=h',toks:=t' }:=by
 have nit:∀ b u,H b=some u->b≠it:=fun b u e z=>by rw[z,hn] at e; cases e
 refine I.step (g':=s.gens) (d':=s.drawn) (ch:=[it]) (fun b hb=>?_) (fun b o _ _ hc e _=>k b o (fun z=>hc (by simp[z])) e) (fun b o _ _ hc e _=>⟨o.slots,k b o (fun z=>hc (by simp[z])) e⟩) (fun _ _ _ _ n=>n)
  (fun b o hc e=>⟨o,k b o (fun z=>hc (by simp[z])) e⟩) (fun _ _ e=>e) (fun _ _ _ e=>e) (fun b ps e=>⟨#[],by rw[e]; simp⟩) (fun m hm=>?_) (fun b u e=>?_) I.bare
 ·have e:b=it:=by simpa using hb
  subst e;exact⟨h1,hL,h2,h3⟩
 ·obtain⟨o,es,ep,ho,r⟩:=hm;exact⟨o,es,ep,k _ o (Ne.symm hL) ho,r⟩
 ·refine(I.hok b u e).stay (fun c v hc q=>k c v ?_ q) (fun _ q=>q) fun _ _ q=>q;rcases hc with z | z
  ·rw[z]; exact nit b u e
  ·exact nit c _ z
theorem Inv.tok (I:Inv X pins σ H s) (t:Nat):Inv X pins σ H { s with toks:=t }:=I.un (h':=s.heap) (t':=t) Un.refl I.hok
theorem Inv.kept (I:Inv X pins σ H s) (k:∀ b u,s.heap.get? b=some u->h'.get? b=some u):Inv X pins σ H { s with heap:=h',toks:=t' }:=I.un (Un.kept k) (I.hok.kept k)
theorem Inv.laid {o:HO} (I:Inv X pins σ H s) (k:∀ b u,s.heap.get? b=some u->h'.get? b=some u) (hp:s.heap.objs.size<=a) (new:ObjOk X.prog X.w (upd H a o) h' a o) :
  Inv X pins σ (upd H a o) { s with heap:=h',toks:=t' }:=I.un (Un.laid k hp (I.hok.fresh hp)) (I.hok.laid k hp new)
theorem Inv.write {x e:Addr}{o:HO} (I:Inv X pins σ H s) (mu:Mut (H x)) (he:e=x \/ H e=some (.own x)) (k:∀ b u,b≠e->s.heap.get? b=some u->h'.get? b=some u) (heo:∃ u,h'.get? e=some u)
  (new:ObjOk X.prog X.w (upd H x o) h' x o):Inv X pins σ (upd H x o) { s with heap:=h',toks:=t' }:=I.un (Un.write mu he k heo) (I.hok.write mu he k heo new)
theorem Inv.pins_of {pins':List (Addr×Obj)} (I:Inv X pins σ H s) (h:∀ p∈pins',s.heap.get? p.1=some p.2/\H p.1=none/\p.1≠X.env.locals/\p.1∉X.fs/\∀ v,p.2.data≠.cell v):Inv X pins' σ H s:=
 ⟨I.ok,I.os,I.bare,I.base,I.loc,I.cell,I.free,I.freeC,fun p hp=>(List.mem_append.mp hp).elim (fun z=>I.pin p (wb _ z)) (h p),I.hok,I.len⟩
theorem WC (hN:N.Nodup) (a:N[i]?=some x) (b:N[j]?=some x):i=j:=by
 obtain⟨h1,e1⟩:=List.getElem?_eq_some_iff.mp a;obtain⟨h2,e2⟩:=List.getElem?_eq_some_iff.mp b;exact(List.getElem_inj hN).mp (e1.trans e2.symm)
theorem jcZ {v:V}{Q:Unit->Shared->Prop} (I:Inv X pins σ H s) (hN:X.N.Nodup) (hi:X.N[i]?=some x) (hx:Loc X.env.scope x) (r:RelV v u)
  (h:∀ s',Inv X pins (σ.set i (some v)) H s'->(∃ a,Heap.SameBut a s.heap s'.heap/\(a=X.env.locals \/ X.env.cells.lookup x=some a))->Q () s') (hf:X.fn x=true \/ X.env.scope.names.lookup x=some .local:=by first | exact .inl rfl | exact .inr rfl | assumption):wpAny M A (storeName X.env x u) Q E s:=by
 obtain⟨m,hn,hl⟩:=id I.loc;have hcls:(X.env.scope.kind==.class||(X.env.scope.kind==.module&&X.env.locals != X.env.globals))=false:=by rw[I.ok.kind]; rfl
 have hiσ:i < σ.length:=by rw[I.len]; exact (List.getElem?_eq_some_iff.mp hi).1
 have cne:=I.cne;have tracked:∀ {a:Addr}{h':Heap},(∃ o,s.heap.get? a=some o/\H a=none)->Heap.SameBut a s.heap h'->HOk X.prog X.w H h':=fun {a h'} ha hs b ob e=>by
  obtain⟨_,_,hfree⟩:=ha;refine(I.hok b ob e).stay (fun c w' hc q=>(hs.2 c ?_).trans q) (fun _ q=>q) fun _ _ q=>q;rintro rfl;rcases hc with rfl | hc
  ·rw[hfree] at e; cases e
  ·rw[hfree] at hc; cases hc
 rcases hx with hk | hk
 ·refine wpAny_storeName_local hk hn (fun h' hn' hs=>?_) hcls;obtain⟨oL,_,_,hoL,_⟩:=id hn;refine h _ ⟨I.ok,I.os,I.bare,⟨fun b o e n hb hx=>?_,fun b o e n hb hx=>?_,I.base.free,fun b o e hx=>?_,I.base.tups,I.base.frzs,I.base.tbls⟩,⟨_,hn',fun j y v' e1 e2 e3=>?_⟩,fun y c e=>?_,I.free,I.freeC,fun p hp=>?_,tracked ⟨oL,hoL,I.free⟩ hs,by simpa using I.len⟩ ⟨_,hs,.inl rfl⟩
  ·exact(hs.2 b (XA (Xt (Xo e) I.ok.above))).trans (I.base.keep b o e n hb hx)
  ·obtain⟨sl,e1⟩:=I.base.slot b o e n hb hx;exact⟨sl,(hs.2 b (XA (Xt (Xo e) I.ok.above))).trans e1⟩
  ·obtain⟨o',e1⟩:=I.base.there b o e hx;exact⟨o',(hs.2 b (XA (Xt (Xo e) I.ok.above))).trans e1⟩
  ·by_cases hj:j=i
   ·subst hj;rw[hi] at e1; cases e1;rw[List.getElem?_set_self hiσ] at e2;cases e2;exact⟨u,r,.inl ⟨hk,by simp⟩⟩
   ·rw[wI (Ne.symm hj)] at e2;obtain⟨u',r',q⟩:=hl j y v' e1 e2 e3;refine⟨u',r',?_⟩;rcases q with⟨k,e⟩ | ⟨k,c,e,z⟩
    ·refine .inl ⟨k,?_⟩;have:y≠x:=fun e=>hj (WC hN e1 (e ▸ hi));simp[this,e]
    ·exact .inr ⟨k,c,e,z.sameBut hs (cne y c e)⟩
  ·obtain⟨w',z⟩:=I.cell y c e;exact⟨w',z.sameBut hs (cne y c e)⟩
  ·obtain⟨e,n,ne,nf,d⟩:=I.pin p hp;exact⟨(hs.2 p.1 ne).trans e,n,ne,nf,d⟩
 ·have hfn:X.fn x=true:=by
   rcases hf with z | z
   ·exact z
   ·rw[z] at hk; cases hk
  obtain⟨c,hc⟩:=I.ok.has x (.inl hk);obtain⟨w',z⟩:=I.cell x c hc;refine wpAny_storeName_cell I.ok.kind hk hc z (fun h' hc' hs=>?_);obtain⟨oc,hoc,hocd⟩:=id z;refine h { s with heap:=h' } ⟨I.ok,I.os,I.bare,⟨fun b o e n hb hx=>?_,fun b o e n hb hx=>?_,I.base.free,fun b o e hx=>?_,I.base.tups,I.base.frzs,I.base.tbls⟩,⟨m,hn.sameBut hs (Ne.symm (cne x c hc)),fun j y v' e1 e2 e3=>?_⟩,fun y c' e=>?_,I.free,I.freeC,fun p hp=>?_,tracked ⟨oc,hoc,I.freeC x c hc⟩ hs,by simpa using I.len⟩ ⟨c,hs,.inr hc⟩
  ·exact(hs.2 b (XA (Xt (Xo e) (I.ok.cab x c hfn hc)))).trans (I.base.keep b o e n hb hx)
  ·obtain⟨sl,e1⟩:=I.base.slot b o e n hb hx;exact⟨sl,(hs.2 b (XA (Xt (Xo e) (I.ok.cab x c hfn hc)))).trans e1⟩
  ·obtain⟨o',e1⟩:=I.base.there b o e hx;exact⟨o',(hs.2 b (XA (Xt (Xo e) (I.ok.cab x c hfn hc)))).trans e1⟩
  ·by_cases hj:j=i
   ·subst hj;rw[hi] at e1; cases e1;rw[List.getElem?_set_self hiσ] at e2;cases e2;exact⟨u,r,.inr ⟨.inl hk,c,hc,hc'⟩⟩
   ·rw[wI (Ne.symm hj)] at e2;obtain⟨u',r',q⟩:=hl j y v' e1 e2 e3;refine⟨u',r',?_⟩;rcases q with q | ⟨k,c',e,z'⟩
    ·exact .inl q
    ·refine .inr ⟨k,c',e,z'.sameBut hs ?_⟩;rintro rfl;exact hj (WC hN e1 (I.ok.inj _ _ _ e hc ▸ hi))
  ·by_cases hcc:c'=c
   ·subst hcc; exact ⟨_,hc'⟩
   ·obtain⟨w2,z2⟩:=I.cell y c' e;exact⟨w2,z2.sameBut hs hcc⟩
  ·obtain⟨e,n,ne,nf,d⟩:=I.pin p hp;refine⟨(hs.2 p.1 ?_).trans e,n,ne,nf,d⟩;intro q;rw[q,hoc] at e;have q':oc=p.2:=Option.some.inj e;exact d w' (by rw[<- q']; exact hocd)
theorem Qd {v:V}{Q:Unit->Shared->Prop} (I:Inv X pins σ H s) (hN:X.N.Nodup) (hi:X.N[i]?=some x) (hx:Loc X.env.scope x) (r:RelV v u)
  (h:∀ s',Inv X pins (σ.set i (some v)) H s'->Q () s') (hf:X.fn x=true \/ X.env.scope.names.lookup x=some .local:=by first | exact .inl rfl | exact .inr rfl | assumption):wpAny M A (storeName X.env x u) Q E s:=
 jcZ I hN hi hx r (fun s' I' _=>h s' I') hf
theorem Inv.call' (I:Inv X pins σ H s) (ho:s'.os=s.os) (u:Un (frs X.stack) ch H H' s.heap s'.heap) (hok:HOk X.prog X.w H' s'.heap) (hg:AllBare s'.gens)
  (hch:∀ b∈ch,(b∈X.ex \/ X.s₀.heap.objs.size<=b)/\b≠X.env.locals/\(∀ x c,X.env.cells.lookup x=some c->c≠b)/\∀ p∈X.pn++pins,p.1≠b):Inv X pins σ H' s':=by
 obtain⟨h',g',d',t',o'⟩:=s';have e:o'=s.os:=ho;subst e;exact I.call (g':=g') (t':=t') (d':=d') u hok hg hch
end
abbrev XK:=Value->Option Addr->Hp->Prop
abbrev St:=List (Option V)
abbrev VK:=V->Hp->Prop
abbrev TE:=St->Hp->VK->Prop
abbrev TT:=St->Hp->(Bool->Hp->Prop)->Prop
abbrev TA:=St->Hp->(List V->Hp->Prop)->Prop
structure Ends where
 nx:St->Hp->Prop
 rt:VK
 bk:St->Hp->Prop:=fun _ _=>False
 ct:St->Hp->Prop:=fun _ _=>False
abbrev TS:=Ends->St->Hp->Prop
def EP (X:Cx) (pins:List (Addr×Obj)) (σ:St) (Q:VK) (u:Value) (s':Shared):Prop:=∃ v H',Inv X pins σ H' s'/\RelV v u/\Q v H'
def TP (X:Cx) (pins:List (Addr×Obj)) (σ:St) (Q:Bool->Hp->Prop) (b:Bool) (s':Shared):Prop:=∃ H',Inv X pins σ H' s'/\Q b H'
def AP (X:Cx) (pins:List (Addr×Obj)) (σ:St) (Q:List V->Hp->Prop) (us:List Value) (s':Shared):Prop:=∃ vs H',Inv X pins σ H' s'/\Vals vs us/\Q vs H'
def SP (X:Cx) (pins:List (Addr×Obj)) (D:Ends) (f:Flow) (s':Shared):Prop:=
 match f with
 | .next=>∃ σ' H',Inv X pins σ' H' s'/\D.nx σ' H'
 | .brk=>∃ σ' H',Inv X pins σ' H' s'/\D.bk σ' H'
 | .cont=>∃ σ' H',Inv X pins σ' H' s'/\D.ct σ' H'
 | .ret u=>∃ v σ' H',Inv X pins σ' H' s'/\RelV v u/\D.rt v H'
def PE (X:Cx) (e:Expr) (t:TE):Prop:=
 ∀ (pins:List (Addr×Obj)) (s:Shared) (σ:St) (H:Hp) (Q:VK),Inv X pins σ H s->t σ H Q->wpAny (model X.prog X.w) X.A (eval e X.env) (EP X pins σ Q) X.xe s
def PT (X:Cx) (e:Expr) (t:TT):Prop:=
 ∀ (pins:List (Addr×Obj)) (s:Shared) (σ:St) (H:Hp) (Q:Bool->Hp->Prop),Inv X pins σ H s->t σ H Q->wpAny (model X.prog X.w) X.A (isTrue e X.env (eval e X.env)) (TP X pins σ Q) X.xe s
def PW (X:Cx) (e:Expr) (t:TT):Prop:=
 ∀ (whole:Sem Value) (pins:List (Addr×Obj)) (s:Shared) (σ:St) (H:Hp) (Q:Bool->Hp->Prop),Inv X pins σ H s->t σ H Q->wpAny (model X.prog X.w) X.A (isTrue e X.env whole) (TP X pins σ Q) X.xe s
theorem PW.pt {X:Cx}{t:TT} (h:PW X e t):PT X e t:=h _
def PA (X:Cx) (es:List Expr) (t:TA):Prop:=
 ∀ (pos:Pos) (pins:List (Addr×Obj)) (s:Shared) (σ:St) (H:Hp) (Q:List V->Hp->Prop),Inv X pins σ H s->t σ H Q->wpAny (model X.prog X.w) X.A (spliced (backTo pos (starEach es X.env))) (AP X pins σ Q) X.xe s
def PS (X:Cx) (st:Stmt) (t:TS):Prop:=
 ∀ (pins:List (Addr×Obj)) (s:Shared) (σ:St) (H:Hp) (D:Ends),Inv X pins σ H s->t D σ H->wpAny (model X.prog X.w) X.A (exec st X.env) (SP X pins D) X.xe s
def PSs (X:Cx) (st:List Stmt) (t:TS):Prop:=
 ∀ (pins:List (Addr×Obj)) (s:Shared) (σ:St) (H:Hp) (D:Ends),Inv X pins σ H s->t D σ H->wpAny (model X.prog X.w) X.A (execs st X.env) (SP X pins D) X.xe s
theorem thn {t:Sem α}{Q Q':α->Shared->Prop} (h:wpAny M A t Q E s) (hQ:∀ a s,Q a s->Q' a s):wpAny M A t Q' E s:=wg h hQ fun _ _ x=>x
section
variable {X:Cx}
def Wb (i:Nat):TE:=fun σ H Q=>∃ v,σ[i]?=some (some v)/\Q v H
def tC (v:V):TE:=fun _ H Q=>Q v H
theorem jjf (hN:X.N[i]?=some x) (hv:Vis X.env.scope x) (hd:(x==("__debug__":Str))=false:=by decide) (hcd:(x==("__classdict__":Str))=false:=by decide):PE X (.Name x pos) (Wb i):=by
 intro pins s σ H Q I h;obtain⟨v,e,h⟩:=h;obtain⟨m,hn,hl⟩:=I.loc;obtain⟨u,r,l⟩:=hl i x v hN e hv;have fin:EP X pins σ Q u s:=⟨v,H,I,r,h⟩;rcases l with⟨hk,hm⟩ | ⟨hk,c,hc,hcell⟩
 ·exact wpAny_Name (wpAny_loadName_local I.ok.kind hk hn hm fin) hd
 ·rcases hk with hk | hk
  ·exact wpAny_Name (wpAny_loadName_cell I.ok.kind hk hc hcell fin) hd
  ·exact wpAny_Name (wpAny_loadName_free I.ok.kind hk hc hcell fin hcd) hd
theorem jq {i j pos}:PE X (.Constant (.int i) j pos) (tC (.int i)):=fun _ _ _ H _ I h=>wpAny_Constant_int ⟨.int i,H,I.tok _,⟨_,rfl⟩,h⟩
theorem JO {b j pos}:PE X (.Constant (.bool b) j pos) (tC (.bl b)):=fun _ _ _ H _ I h=>Constant_bool ⟨.bl b,H,I,rfl,h⟩
theorem Wc {x j pos}:PE X (.Constant (.str x) j pos) (tC (.str x)):=fun _ _ _ H _ I h=>Calls.Constant_str ⟨.str x,H,I.tok _,⟨_,rfl⟩,h⟩
def Gl (X:Cx) (x:Str):Prop:=X.env.kindOf x=some .globalImplicit
theorem zV {σ:St}{H:Hp} (I:Inv X pins σ H s) (hg:Gl X x) (hm:X.mg x=some u) (h:Q u s)
  (hd:(x==("__debug__":Str))=false:=by decide):wpAny (model X.prog X.w) X.A (eval (.Name x pos) X.env) Q E s:=
 Calls.Name_function_global I.ok.kind hg (Calls.loadGlobal_global (by rw[I.ok.glob]; exact I.mod.glob.keeps I.bk) hm h) hd
theorem Q9 {σ:St}{H:Hp} (I:Inv X pins σ H s) (hg:Gl X x) (hm:X.mg x=none) (hv:bootBuiltins x=some u) (h:Q u s)
  (hn:x≠"__name__":=by decide) (hd:(x==("__debug__":Str))=false:=by decide):wpAny (model X.prog X.w) X.A (eval (.Name x pos) X.env) Q E s:=by
 obtain⟨mb,h1,h2⟩:=I.mod.blt;exact Calls.Name_function_global I.ok.kind hg (Calls.loadGlobal_builtin (by rw[I.ok.glob]; exact I.mod.glob.keeps I.bk) hm (by rw[I.ok.blt]; exact h1.keeps I.bk) ((h2 x hn).trans hv) h) hd
theorem zy {v:V} (hg:Gl X x) (hm:X.mg x=some u) (r:RelV v u) (hd:(x==("__debug__":Str))=false:=by decide):PE X (.Name x pos) (tC v):=
 fun _ _ _ H _ I h=>zV I hg hm ⟨v,H,I,r,h⟩ hd
theorem jc0 {v:V} (hg:Gl X x) (hm:X.mg x=none) (hv:bootBuiltins x=some u) (r:RelV v u) (hn:x≠"__name__":=by decide) (hd:(x==("__debug__":Str))=false:=by decide):PE X (.Name x pos) (tC v):=
 fun _ _ _ H _ I h=>Q9 I hg hm hv ⟨v,H,I,r,h⟩ hn hd
variable {a b:Expr}{ta tb:TE} 
def PC (X:Cx) (op:CmpOp) (a b:Expr) (t:TE):Prop:=
 ∀ (pins:List (Addr×Obj)) (s:Shared) (σ:St) (H:Hp) (Q:VK),Inv X pins σ H s->t σ H Q ->
  wpAny (model X.prog X.w) X.A (eval a X.env) (fun v s₁=>wpAny (model X.prog X.w) X.A (eval b X.env) (fun u s₂=>wpAny (model X.prog X.w) X.A (compareOp op v u) (EP X pins σ Q) X.xe s₂) X.xe s₁) X.xe s
theorem jfp (b:Expr) {op:CmpOp} (h:op≠.In) (h2:op≠.NotIn):behindInMarks op b=false:=by
 have e1:(op==CmpOp.In)=false:=by cases op <;> first | rfl | exact absurd rfl h
 have e2:(op==CmpOp.NotIn)=false:=by cases op <;> first | rfl | exact absurd rfl h2
 cases b <;> simp[behindInMarks,e1,e2]
def tB (t:TE):TT:=fun σ H Q=>t σ H fun x H1=>∃ c,x=.bl c/\Q c H1
theorem jgX {op:CmpOp}{t:TE} (h:PC X op a b t) (h1:behindInMarks op b=false:=by first | exact jfp _ (by decide) (by decide) | rfl):PT X (.Compare a [op] [b] pos) (tB t):=by
 intro pins s σ H Q I hw;refine wpAny_isTrue_Compare1 (thn (h pins s σ H _ I hw) fun v s1 h1=>thn h1 fun u s2 h2=>thn h2 fun c s3 ⟨x,H1,I1,r1,q1⟩=>?_) h1;obtain⟨d,rfl,q⟩:=q1;cases r1;exact wm ⟨H1,I1,q⟩
theorem zE {t:TE} (h:PE X e t) (he:∀ whole,isTrue e X.env whole=(do let v <- whole; standAt e.pos; holding [v] (truthy v)):=by intro _; rfl):PT X e (tB t):=by
 intro pins s σ H Q I hw;refine isTrue_plain (thn (h pins s σ H _ I hw) fun v s1 ⟨x,H1,I1,r1,q1⟩=>?_) (he _);obtain⟨d,rfl,q⟩:=q1;cases r1;exact wm ⟨H1,I1,q⟩
variable {tA tB':TT}{rest:List Expr}
def jkD (t u:TT):TT:=fun σ H Q=>t σ H fun c H1=>if c=true then u σ H1 Q else Q false H1
def tOr (t u:TT):TT:=fun σ H Q=>t σ H fun c H1=>if c=true then Q true H1 else u σ H1 Q
def jjg (t:TT):TT:=fun σ H Q=>t σ H fun c H1=>Q (!c) H1
theorem jhG (ha:PT X a tA):PW X (.BoolOp .And [a] pos) tA:=by
 intro wh pins s σ H Q I h;refine isTrue_and (thn (ha pins s σ H Q I h) fun c s1 e=>?_);cases c with
 | true=>exact isTrue_and_nil e
 | false=>exact e
theorem YO (ha:PT X a tA):PW X (.BoolOp .Or [a] pos) tA:=by
 intro wh pins s σ H Q I h;refine isTrue_or (thn (ha pins s σ H Q I h) fun c s1 e=>?_);cases c with
 | false=>exact isTrue_or_nil e
 | true=>exact e
theorem jjh (ha:PT X a tA) (hb:PW X (.BoolOp .And (b::rest) pos) tB'):PW X (.BoolOp .And (a::b::rest) pos) (jkD tA tB'):=by
 intro wh pins s σ H Q I h;refine isTrue_and (thn (ha pins s σ H _ I h) fun c s1 ⟨H1,I1,q1⟩=>?_);cases c with
 | true=>exact hb wh pins s1 σ H1 Q I1 q1
 | false=>exact ⟨H1,I1,q1⟩
theorem jc1 (ha:PT X a tA) (hb:PW X (.BoolOp .Or (b::rest) pos) tB'):PW X (.BoolOp .Or (a::b::rest) pos) (tOr tA tB'):=by
 intro wh pins s σ H Q I h;refine isTrue_or (thn (ha pins s σ H _ I h) fun c s1 ⟨H1,I1,q1⟩=>?_);cases c with
 | true=>exact ⟨H1,I1,q1⟩
 | false=>exact hb wh pins s1 σ H1 Q I1 q1
theorem GB (ha:PT X a tA):PT X (.UnaryOp .Not a pos) (jjg tA):=by
 intro pins s σ H Q I h;exact isTrue_not (ha pins s σ H (fun c H1=>Q (!c) H1) I h)
def jhH (ta tb:TE):TE:=fun σ H Q=>ta σ H fun x H1=>∃ c,x=.bl c/\if c=true then tb σ H1 Q else Q (.bl false) H1
def jhI (ta:TE):TE:=fun σ H Q=>ta σ H fun x H1=>∃ c,x=.bl c/\Q (.bl (!c)) H1
theorem jgY {op}{t:TE} (h:PE X a t):PE X (.BoolOp op [a] pos) t:=fun pins s σ H Q I hw=>BoolOp_one (h pins s σ H Q I hw)
theorem jgZ (ha:PE X a ta) (hb:PE X (.BoolOp .And (b::rest) pos) tb):PE X (.BoolOp .And (a::b::rest) pos) (jhH ta tb):=by
 intro pins s σ H Q I h;refine BoolOp_and (thn (ha pins s σ H _ I h) fun v s1 ⟨x,H1,I1,r1,q1⟩=>?_);obtain⟨c,rfl,q1⟩:=q1;cases r1;refine wm ?_;cases c with
 | true=>exact hb pins s1 σ H1 Q I1 q1
 | false=>exact ⟨.bl false,H1,I1,rfl,q1⟩
theorem jg0 (ha:PE X a ta):PE X (.UnaryOp .Not a pos) (jhI ta):=by
 intro pins s σ H Q I h;refine UnaryOp_ (thn (ha pins s σ H _ I h) fun v s1 ⟨x,H1,I1,r1,q1⟩=>?_);obtain⟨c,rfl,q1⟩:=q1;cases r1;exact not_of (wm ⟨.bl (!c),H1,I1,rfl,q1⟩)
end
def SqL (K:W.Frag) (H:Hp) (a:Addr) (xs:List V):Prop:=
 Rd H a (.lst xs) \/
  ∃ (o:Obj) (its:Array Value) (n:Nat),K.lookup a=some o/\o.cls=.type "list"/\o.dict=none/\o.data=.seq its n/\its.size<=sizeLine/\Vals xs its.toList
def SqT (K:W.Frag) (H:Hp) (a:Addr) (xs:List V):Prop:=
 Rd H a (.tup xs) \/
  ∃ (o:Obj) (its:Array Value) (n:Nat),K.lookup a=some o/\o.cls=.type "tuple"/\o.data=.seq its n/\its.size<=sizeLine/\Vals xs its.toList
def jlM:Value->Option V
 | .none=>some .non
 | .bool b=>some (.bl b)
 | .int i _=>some (.int i)
 | .str x _=>some (.str x)
 | .bytes b _=>some (.byt b)
 | .float b _=>some (.flt b)
 | .ref a=>some (.ref a)
 | .type n=>some (.ty n)
 | _=>none
theorem RelV.abs {x:V} (r:RelV x u):jlM u=some x:=by
 cases x with
 | non=>cases r; rfl
 | bl _=>cases r; rfl
 | int _=>obtain⟨t,rfl⟩:=r; rfl
 | str _=>obtain⟨t,rfl⟩:=r; rfl
 | byt _=>obtain⟨t,rfl⟩:=r; rfl
 | flt _=>obtain⟨t,rfl⟩:=r; rfl
 | ref _=>cases r; rfl
 | ty _=>cases r; rfl
theorem RelV.inj {x y:V} (r:RelV x u) (q:RelV y u):x=y:=Option.some.inj (r.abs.symm.trans q.abs)
theorem Vals.inj:∀ {xs ys:List V}{us:List Value},Vals xs us->Vals ys us->xs=ys
 | _,_,_,.nil,.nil=>rfl
 | _,_,_,.cons r t,.cons r' t'=>by rw[r.inj r',Vals.inj t t']
section
variable {X:Cx}{σ:St}{H:Hp}{xs ys:List V}
theorem SqL.of (h:H a=some (.lst xs)):SqL K H a xs:=.inl (.inl h)
theorem SqT.of (h:H a=some (.tup xs)):SqT K H a xs:=.inl (.inl h)
theorem Inv.list (I:Inv X pins σ H s) (h:SqL X.K H a xs):∃ its:List Value,Vals xs its/\PlainL s.heap a its.toArray/\xs.length<=sizeLine:=by
 rcases h with h | ⟨o,its,n,hk,hc,hd,hs,hz,r⟩
 ·obtain⟨z,its,n,r,e⟩:=h.ok I.hok;exact⟨its,r,⟨_,n,e,rfl,rfl,rfl⟩,z⟩
 ·refine⟨its.toList,r,⟨o,n,I.kIn a o hk,hc,hd,by simpa using hs⟩,?_⟩;have e:=r.length;simp only[Xv] at e;omega
theorem Inv.tuple (I:Inv X pins σ H s) (h:SqT X.K H a xs):∃ its:List Value,Vals xs its/\IsTup s.heap a its.toArray/\xs.length<=sizeLine:=by
 rcases h with h | ⟨o,its,n,hk,hc,hs,hz,r⟩
 ·obtain⟨z,its,r,p⟩:=h.ok I.hok;exact⟨its,r,p.isTup,z⟩
 ·refine⟨its.toList,r,⟨o,I.kIn a o hk,hc,n,by simpa using hs⟩,?_⟩;have e:=r.length;simp only[Xv] at e;omega
theorem Inv.list_inj (I:Inv X pins σ H s) (h:SqL X.K H a xs) (h':SqL X.K H a ys):xs=ys:=by
 obtain⟨its,r,⟨o,n,e,_,_,d⟩,_⟩:=I.list h;obtain⟨its',r',⟨o',n',e',_,_,d'⟩,_⟩:=I.list h';rw[e] at e'; cases e';rw[d] at d';injection d' with d1 _
 have:its=its':=by simpa using congrArg Array.toList d1
 subst this;exact r.inj r'
theorem Inv.tuple_inj (I:Inv X pins σ H s) (h:SqT X.K H a xs) (h':SqT X.K H a ys):xs=ys:=by
 obtain⟨its,r,⟨o,e,_,n,d⟩,_⟩:=I.tuple h;obtain⟨its',r',⟨o',e',_,n',d'⟩,_⟩:=I.tuple h';rw[e] at e'; cases e';rw[d] at d';injection d' with d1 _
 have:its=its':=by simpa using congrArg Array.toList d1
 subst this;exact r.inj r'
end
abbrev Cx.wish (X:Cx) (E:Value->Shared->Prop):Cx:={ X with xe:=E }
abbrev Cx.nox (X:Cx):Cx:=X.wish fun _ _=>False
theorem Cx.Ok.wish {X:Cx} (ok:X.Ok) (E:Value->Shared->Prop):(X.wish E).Ok:=
 ⟨ok.mod,ok.kind,ok.glob,ok.blt,ok.above,ok.inj,ok.has,ok.cab,ok.hd,ok.frames,ok.stk,ok.exf,ok.bs,ok.bsz,ok.noex,ok.exfs,ok.funs,ok.frf⟩
theorem Cx.Ok.unwish {X:Cx} (ok:(X.wish E).Ok):X.Ok:=
 ⟨ok.mod,ok.kind,ok.glob,ok.blt,ok.above,ok.inj,ok.has,ok.cab,ok.hd,ok.frames,ok.stk,ok.exf,ok.bs,ok.bsz,ok.noex,ok.exfs,ok.funs,ok.frf⟩
section
variable {X:Cx}{σ:St}{H:Hp} 
theorem Inv.wish (I:Inv X pins σ H s) (E:Value->Shared->Prop):Inv (X.wish E) pins σ H s:=⟨I.ok.wish E,I.os,I.bare,I.base,I.loc,I.cell,I.free,I.freeC,I.pin,I.hok,I.len⟩
theorem Inv.unwish (I:Inv (X.wish E) pins σ H s):Inv X pins σ H s:=⟨I.ok.unwish,I.os,I.bare,I.base,I.loc,I.cell,I.free,I.freeC,I.pin,I.hok,I.len⟩
theorem SP.unwish {D:Ends}{f:Flow} (h:SP (X.wish E) pins D f s'):SP X pins D f s':=by
 cases f with
 | next=>obtain⟨σ',H',I,q⟩:=h; exact ⟨σ',H',I.unwish,q⟩
 | brk=>obtain⟨σ',H',I,q⟩:=h; exact ⟨σ',H',I.unwish,q⟩
 | cont=>obtain⟨σ',H',I,q⟩:=h; exact ⟨σ',H',I.unwish,q⟩
 | ret u=>obtain⟨v,σ',H',I,r,q⟩:=h; exact ⟨v,σ',H',I.unwish,r,q⟩
theorem PSs.nox {st:List Stmt}{t:TS} (h:PSs X.nox st t):PSs X st t:=fun pins s σ H D I hw=>
 wg (h pins s σ H D (I.wish _) hw) (fun _ _ q=>q.unwish) fun _ _ z=>False.elim z
end
section
variable {X:Cx}{rest:List Stmt}{t u:TS}{te:TE} 
def jji:TS:=fun D σ H=>D.nx σ H
def Q_ (t u:TS):TS:=fun D σ H=>t { D with nx:=u D } σ H
theorem kg:PSs X [] jji:=fun _ _ σ H _ I h=>wpAny_execs_nil ⟨σ,H,I,h⟩
theorem jh (h1:PS X st t) (h2:PSs X rest u):PSs X (st::rest) (Q_ t u):=by
 intro pins s σ H D I h;refine wpAny_execs_cons (thn (h1 pins s σ H { D with nx:=u D } I h) fun f s1 q=>?_)
 cases f with
 | next=>
  obtain⟨σ',H',I',q⟩:=q;exact h2 pins s1 σ' H' D I' q
 | ret v=>exact q
 | brk=>exact q
 | cont=>exact q
theorem jn (h1:PS X st t):PSs X [st] t:=by
 intro pins s σ H D I h;refine wpAny_execs_cons (thn (h1 pins s σ H D I h) fun f s1 q=>?_);cases f with
 | next=>exact wpAny_execs_nil q
 | ret v=>exact q
 | brk=>exact q
 | cont=>exact q
theorem Inv.quiet {σ:St}{H:Hp} (I:Inv X pins σ H s):interactive X.env=false:=by simp[interactive,I.ok.kind]
def VR (te:TE):TS:=fun D σ H=>te σ H fun _ H1=>D.nx σ H1
theorem kj (he:PE X e te) (hs:swapsWith e none pos.line X.env=pure false:=by rfl):PS X (.Expr e pos) (VR te):=by
 intro pins s σ H D I h;exact wpAny_Expr_any (thn (he pins s σ H _ I h) fun v s1 ⟨x,H1,I1,r1,q1⟩=>⟨σ,H1,I1,q1⟩) I.quiet hs
def jkE (te:TE):TS:=fun D σ H=>te σ H D.rt
theorem j6 (he:PE X e te):PS X (.Return (some e) pos) (jkE te):=by
 intro pins s σ H D I h;exact wpAny_Return_some (thn (he pins s σ H _ I h) fun v s1 ⟨x,H1,I1,r1,q1⟩=>⟨x,σ,H1,I1,r1,q1⟩)
def jff (c:TT) (t u:TS):TS:=fun D σ H=>c σ H fun b H1=>if b=true then t D σ H1 else u D σ H1
theorem qE {c:Expr}{a b:List Stmt}{tc:TT} (hc:PT X c tc) (ha:PSs X a t) (hb:PSs X b u):PS X (.If c a b pos) (jff tc t u):=by
 intro pins s σ H D I h;refine wpAny_If (thn (hc pins s σ H _ I h) fun d s1 ⟨H1,I1,q1⟩=>?_);cases d with
 | true=>exact ha pins s1 σ H1 D I1 q1
 | false=>exact hb pins s1 σ H1 D I1 q1
def jg1:TS:=fun _ _ _=>False
theorem Qe:PS X st jg1:=fun _ _ _ _ _ _ h=>h.elim
theorem qo {sts:List Stmt}:PSs X sts jg1:=fun _ _ _ _ _ _ h=>h.elim
end
abbrev TG:=V->St->Hp->(St->Hp->Prop)->Prop
abbrev TGs:=List V->St->Hp->(St->Hp->Prop)->Prop
def PG (X:Cx) (target:Expr) (t:TG):Prop:=
 ∀ (pins:List (Addr×Obj)) (s:Shared) (σ:St) (H:Hp) (v:V) (u:Value) (Q:St->Hp->Prop),Inv X pins σ H s->RelV v u->t v σ H Q ->
  wpAny (model X.prog X.w) X.A (assign target X.env u) (fun _ s'=>∃ σ' H',Inv X pins σ' H' s'/\Q σ' H') X.xe s
def PGs (X:Cx) (ts:List Expr) (t:TGs):Prop:=
 ∀ (pins:List (Addr×Obj)) (s:Shared) (σ:St) (H:Hp) (vs:List V) (us:List Value) (Q:St->Hp->Prop),Inv X pins σ H s->Vals vs us->t vs σ H Q ->
  wpAny (model X.prog X.w) X.A (assignInOrder ((assignEach ts X.env).map (·.2)) us) (fun _ s'=>∃ σ' H',Inv X pins σ' H' s'/\Q σ' H') X.xe s
abbrev jkO:=V->V->V->Hp->(Hp->Prop)->Prop
def jlr (X:Cx) (t:jkO):Prop:=
 ∀ (pins:List (Addr×Obj)) (s:Shared) (σ:St) (H:Hp) (o i v:V) (ov iv u:Value) (Q:Hp->Prop),Inv X pins σ H s->RelV o ov->RelV i iv->RelV v u->t o i v H Q ->
  wpAny (model X.prog X.w) X.A (setItem ov iv u) (fun _ s'=>∃ H',Inv X pins σ H' s'/\Q H') X.xe s
section
variable {X:Cx} 
def qO (i:Nat):TG:=fun v σ H Q=>Q (σ.set i (some v)) H
theorem xN (hN:X.N.Nodup) (hi:X.N[i]?=some x) (hx:Loc X.env.scope x) (hf:X.fn x=true \/ X.env.scope.names.lookup x=some .local:=by first | exact .inl rfl | exact .inr rfl | assumption):PG X (.Name x pos) (qO i):=by
 intro pins s σ H v u Q I r h;exact wpAny_assign_Name (Qd I hN hi hx r (fun s' I'=>⟨_,H,I',h⟩) hf)
def jfq:TGs:=fun vs σ H Q=>vs=[]/\Q σ H
def GQ (t:TG) (u:TGs):TGs:=fun vs σ H Q=>∃ v r,vs=v::r/\t v σ H fun σ' H'=>u r σ' H' Q
theorem JP:PGs X [] jfq:=by
 intro pins s σ H vs us Q I r h;obtain⟨e,h⟩:=h;subst e;cases r;exact assignInOrder_nil ⟨σ,H,I,h⟩
theorem xi {t:TG}{u:TGs} (h1:PG X e t) (h2:PGs X es u)
  (hs:(assignEach (e::es) X.env).map (·.2)=assign e X.env::(assignEach es X.env).map (·.2):=by rfl):PGs X (e::es) (GQ t u):=by
 intro pins s σ H vs us Q I r h;obtain⟨v,vr,e1,h⟩:=h;subst e1;cases r with
 | cons r rr=>
  rw[hs];refine assignInOrder_cons (thn (h1 pins s σ H _ _ _ I r h) fun _ s1 ⟨σ1,H1,I1,q1⟩=>?_);exact h2 pins s1 σ1 H1 _ _ Q I1 rr q1
def jfr (K:W.Frag) (n:Nat) (t:TGs):TG:=fun v σ H Q=>∃ a xs,v=.ref a/\SqT K H a xs/\xs.length=n/\t xs σ H Q
theorem UM {k:Nat}{t:TGs} (hc:X.calm=true) (h:PGs X es t)
  (hn:(assignEach es X.env).length=n:=by rfl) (hst:(assignEach es X.env).findIdx? (·.1)=none:=by rfl):PG X (.Tuple es k pos) (jfr X.K n t):=by
 intro pins s σ H v u Q I r hw;obtain⟨a,xs,e1,hq,hl,hw⟩:=hw;subst e1;cases r;obtain⟨its,rv,ht,hz⟩:=I.tuple hq;refine assign_Tuple_tuple (I.ok.hd hc) ht (by simp[hn,<- hl,rv.length]) hst fun h' hx=>?_;have I1:Inv X pins σ H { s with heap:=h' }:=I.kept (t':=s.toks) fun b o e=>hx b o (XA (Xo e)) e
 exact h pins _ σ H xs _ Q I1 (by simpa using rv) hw
def jkF (to ti:TE) (t:jkO):TG:=fun v σ H Q=>to σ H fun o H1=>ti σ H1 fun i H2=>t o i v H2 fun H3=>Q σ H3
theorem jg2 {o i:Expr}{to ti:TE}{t:jkO} (ho:PE X o to) (hi:PE X i ti) (hs:jlr X t)
  (ha:∀ v,assign (.Subscript o i pos) X.env v=(do
   let ov <- holding [v] (eval o X.env)
   let iv <- holding [v,ov] (eval i X.env)
   standAt pos
   holding [v,ov,iv] (setItem ov iv v)
   release [v,ov,iv] []):=by intro _; rfl):PG X (.Subscript o i pos) (jkF to ti t):=by
 intro pins s σ H v u Q I r h;rw[ha];refine Xa (X2 (thn (ho pins s σ H _ I h) fun ov s1 ⟨x,H1,I1,r1,q1⟩=>?_));refine Xa (X2 (thn (hi pins s1 σ H1 _ I1 q1) fun iv s2 ⟨y,H2,I2,r2,q2⟩=>?_));refine Xa (wpAny_standAt (Xa (X2 (thn (hs pins s2 σ H2 x y v ov iv u _ I2 r1 r2 r q2) fun _ s3 ⟨H3,I3,q3⟩=>?_))));exact wpAny_release ⟨σ,H3,I3,q3⟩
def UN (te:TE) (g:TG):TS:=fun D σ H=>te σ H fun x H1=>g x σ H1 D.nx
theorem jc2 {te:TE}{g:TG} (he:PE X e te) (hg:PG X tg g) (hs:swapsWithSole [tg] e pos.line X.env=pure false:=by rfl) (hw:swappedStores [tg] e X.env=pure none:=by rfl)
  (h1:(assignEach [tg] X.env).map (·.2)=[assign tg X.env]:=by rfl):PS X (.Assign [tg] e pos) (UN te g):=by
 intro pins s σ H D I h;refine wpAny_Assign_stores (thn (he pins s σ H _ I h) fun v s1 ⟨x,H1,I1,r1,q1⟩=>?_) hs hw;rw[h1];exact thn (hg pins s1 σ H1 x v _ I1 r1 q1) fun _ s2 q=>q
theorem jjj {te:TE} (hN:X.N.Nodup) (hi:X.N[i]?=some x) (hx:Loc X.env.scope x) (he:PE X e te) (hs:swapsWith e (some (.Name x pos')) pos.line X.env=pure false:=by rfl) (hf:X.fn x=true \/ X.env.scope.names.lookup x=some .local:=by first | exact .inl rfl | exact .inr rfl | assumption) :
  PS X (.Assign [.Name x pos'] e pos) (UN te (qO i)):=by
 intro pins s σ H D I h;refine wpAny_Assign_Name (thn (he pins s σ H _ I h) fun v s1 ⟨y,H1,I1,r1,q1⟩=>?_) hs;exact Qd I1 hN hi hx r1 (fun s2 I2=>⟨_,H1,I2,q1⟩) hf
end
section
variable {X:Cx} 
def jc3 (c:TT) (tb:TS):TS:=fun D σ H=>∃ W:Nat->St->Hp->Prop,(∃ m,W m σ H)/\∀ m σ H,W m σ H ->
 c σ H fun b H1=>if b=true then ∃ N:St->Hp->Prop,(∀ σ' H',N σ' H'->∃ m',m'<m/\W m' σ' H')/\tb { D with nx:=N,ct:=N,bk:=D.nx } σ H1 else D.nx σ H1
theorem WD {c:Expr}{tc:TT}{tb:TS} (hp:PassesOwn (model X.prog X.w) X.A X.env X.xe) (hc:PT X c tc) (hb:PSs X body tb):PS X (.While c body [] pos) (jc3 tc tb):=by
 intro pins s σ H D I h;obtain⟨W,⟨m0,w0⟩,turn⟩:=h;refine wpAny_While (codeAny_whileLoop (fun n s'=>∃ σ' H',Inv X pins σ' H' s'/\W n σ' H') ?_ m0 ⟨σ,H,I,w0⟩);rintro n s1 ⟨σ1,H1,I1,w1⟩;refine wpAny_passesOwn hp (thn (hc pins s1 σ1 H1 _ I1 (turn n σ1 H1 w1)) fun b s2 ⟨H2,I2,q2⟩=>?_);cases b with
 | true=>
  obtain⟨N,hN,q2⟩:=q2;rw[if_pos rfl];refine wpAny_passesOwn hp (thn (hb pins s2 σ1 H2 _ I2 q2) fun f s3 q3=>?_);cases f with
  | next=>
   obtain⟨σ3,H3,I3,n3⟩:=q3;obtain⟨m',hm,w3⟩:=hN σ3 H3 n3;exact⟨m',hm,σ3,H3,I3,w3⟩
  | cont=>
   obtain⟨σ3,H3,I3,n3⟩:=q3;obtain⟨m',hm,w3⟩:=hN σ3 H3 n3;exact⟨m',hm,σ3,H3,I3,w3⟩
  | brk=>exact q3
  | ret v=>exact q3
 | false=>
  rw[if_neg Xw];exact wpAny_execs_nil ⟨σ1,H2,I2,q2⟩
end
structure It where
 go:Nat->Hp->Prop
 yld:Nat->Hp->V->Hp->Prop
 stop:Nat->Hp->Prop
def jc4 (X:Cx) (pins:List (Addr×Obj)) (H:Hp) (b:Addr):Prop:=
 H b=none/\b≠X.env.locals/\b∉X.fs/\(b∈X.ex \/ X.s₀.heap.objs.size<=b)/\(∀ x c,X.env.cells.lookup x=some c->c≠b)/\∀ p∈X.pn++pins,p.1≠b
theorem Inv.fpOk {X:Cx}{σ:St}{H H':Hp}{b:Addr} (I:Inv X pins σ H s) (hb:s.heap.objs.size<=b) (hn:H' b=none):jc4 X pins H' b:=by
 refine⟨hn,wQ (Xt I.lt hb),I.nofs hb,.inr (X6 I.sz hb),fun x c e z=>?_,fun p hp z=>?_⟩
 ·obtain⟨v,q⟩:=I.cell x c e;exact absurd (Xt q.lt (by rw[z]; exact hb)) (Nat.lt_irrefl _)
 ·exact absurd (Xt (Xo (I.pin p hp).1) (by rw[z]; exact hb)) (Nat.lt_irrefl _)
structure Turn (P:Program) (w:World) (K:W.Frag) (tg:Expr) (J:It) (fp:List Addr) (it:Addr) (tn:Nat->Heap->Prop):Prop where
 mem:it∈fp
 obj:∀ i h,tn i h->∀ b∈fp,∃ o,h.get? b=some o/\∀ v,o.data≠.cell v
 keep:∀ i h h',tn i h->(∀ b∈fp,∀ o,h.get? b=some o->h'.get? b=some o)->tn i h'
 item:∀ (X:Cx),X.prog=P->X.w=w->X.K=K->X.calm=true->∀ (i:Nat) (pins:List (Addr×Obj)) (s:Shared) (σ:St) (H:Hp) (E:Value->Shared->Prop),Inv X pins σ H s->(∀ b∈fp,jc4 X pins H b)->tn i s.heap->J.go i H ->
  wpAny (model P w) X.A (pyNext (.ref it)) (fun r s1=>∃ u,r=some u /\
   wpAny (model P w) X.A (letOwnedTupleGo tg (.ref it) u) (fun _ s2=>∃ x H',Inv X pins σ H' s2/\RelV x u/\J.yld i H x H'/\tn (i+1) s2.heap/\∀ b∈fp,H' b=none) E s1) E s
 done:∀ (X:Cx),X.prog=P->X.w=w->X.K=K->X.calm=true->∀ (i:Nat) (pins:List (Addr×Obj)) (s:Shared) (σ:St) (H:Hp) (E:Value->Shared->Prop),Inv X pins σ H s->(∀ b∈fp,jc4 X pins H b)->tn i s.heap->J.stop i H ->
  wpAny (model P w) X.A (pyNext (.ref it)) (fun r s1=>r=none/\Inv X pins σ H s1) E s
 self:∀ (A:Around) (i:Nat) (s:Shared) (Q:Value->Shared->Prop) (E:Value->Shared->Prop),tn i s.heap->Q (.ref it) s->wpAny (model P w) A (pyIter (.ref it)) Q E s
abbrev TI:=St->Hp->(It->Hp->Prop)->Prop
def PIE (X:Cx) (pins:List (Addr×Obj)) (σ:St) (tg:Expr) (R:It->Hp->Prop) (itv:Value) (s2:Shared):Prop:=
 ∃ (it:Addr) (fp:List Addr) (tn:Nat->Heap->Prop) (J:It) (H':Hp),itv=.ref it/\Inv X pins σ H' s2/\Turn X.prog X.w X.K tg J fp it tn/\tn 0 s2.heap/\(∀ b∈fp,jc4 X pins H' b)/\R J H'
def PI (X:Cx) (tg iter:Expr) (wi:TI):Prop:=
 ∀ (pins:List (Addr×Obj)) (s:Shared) (σ:St) (H:Hp) (R:It->Hp->Prop),Inv X pins σ H s->wi σ H R ->
  wpAny (model X.prog X.w) X.A (eval iter X.env) (fun v s1=>wpAny (model X.prog X.w) X.A (pyIter v) (PIE X pins σ tg R) X.xe s1) X.xe s
theorem jfs {n:String}{vs:Array Value}{Q:Unit->Shared->Prop} (ho:s.heap.get? it=some o) (hc:o.cls=.type n) (hd:o.data=.fields vs)
    (hn:["enumerate","zip","dict_itemiterator","dict_reverseitemiterator","odict_iterator","itertools.zip_longest","itertools.pairwise"].contains n=false) (hQ:Q () s):wpAny M A (letOwnedTupleGo tg (.ref it) u) Q E s:=by
  unfold letOwnedTupleGo;cases tg <;> first
    | exact Xb hQ
    | (cases u <;> first
        | exact Xb hQ
        | (refine Xa (wpAny_load ho ?_)
           rw[hc,hd];show wpAny M A (if (["enumerate","zip","dict_itemiterator","dict_reverseitemiterator","odict_iterator","itertools.zip_longest","itertools.pairwise"].contains n&&vs[0]?==some (rawInt _))=true then _ else _) Q E s;rw[if_neg (by intro h; rw[hn,Bool.false_and] at h; cases h)];exact Xb hQ))
def Itl (K:W.Frag) (a:Addr):It:=
 ⟨fun i H=>∃ xs x,SqL K H a xs/\xs[i]?=some x,fun i H x H'=>H'=H/\∀ xs,SqL K H a xs->xs[i]?=some x,fun i H=>∃ xs,SqL K H a xs/\xs.length<=i⟩
def Itt (K:W.Frag) (a:Addr):It:=
 ⟨fun i H=>∃ xs x,SqT K H a xs/\xs[i]?=some x,fun i H x H'=>H'=H/\∀ xs,SqT K H a xs->xs[i]?=some x,fun i H=>∃ xs,SqT K H a xs/\xs.length<=i⟩
def Itr (lo:Int) (n:Nat):It:=⟨fun i _=>i<n,fun i H x H'=>H'=H/\x=.int (lo+i),fun i _=>n<=i⟩
theorem jc5 {P:Program} (a it:Addr):Turn P w K tg (Itl K a) [it] it (fun i h=>h.IsListIter it a i) where
 mem:=by simp
 obj:=fun i h st b hb=>by
  have e:b=it:=by simpa using hb
  subst e;obtain⟨o,e,c,d⟩:=st;exact⟨o,e,fun v z=>by rw[d] at z; cases z⟩
 keep:=fun i h h' st k=>st.at fun o e=>k it (by simp) o e
 item:=by
  intro X hP hw hK hc i pins s σ H E I hf st hg;subst hP hw hK;obtain⟨xs,x,hq,hx⟩:=hg;obtain⟨its,rv,p,hz⟩:=I.list hq;obtain⟨u,hu,ru⟩:=rv.get hx;obtain⟨f0,f1,f2,f3,f4,f5⟩:=hf it (by simp);refine wpAny_pyNext_list_item st p.isList (x:=u) (by simpa using hu) fun h' st' sb=>?_;have I1:Inv X pins σ H { s with heap:=h' }:=I.turned (t':=s.toks) (fun b o hb e=>(sb.2 b hb).trans e) f0 f1 f3 f4 f5
  obtain⟨o,e,c,d⟩:=id st';exact⟨u,rfl,jfs (s:={ s with heap:=h' }) e c d (by decide) ⟨x,H,I1,ru,⟨rfl,fun ys hy=>by rw[I.list_inj hy hq]; exact hx⟩,st',fun b hb=>(hf b hb).1⟩⟩
 done:=by
  intro X hP hw hK hc i pins s σ H E I hf st hg;subst hP hw hK;obtain⟨xs,hq,hx⟩:=hg;obtain⟨its,rv,p,hz⟩:=I.list hq;obtain⟨f0,f1,f2,f3,f4,f5⟩:=hf it (by simp);have hl:=rv.length;exact wpAny_pyNext_list_end (I.ok.hd hc) st p.isList (by simp; omega) fun h' eb=>⟨rfl,I.turned (t':=s.toks) (fun b o hb e=>eb b o hb e) f0 f1 f3 f4 f5⟩
 self:=fun _ _ _ _ _ st h=>wpAny_pyIter_listiter st h
theorem jbO {P:Program} (a it:Addr):Turn P w K tg (Itt K a) [it] it (fun i h=>h.IsTupleIter it a i) where
 mem:=by simp
 obj:=fun i h st b hb=>by
  have e:b=it:=by simpa using hb
  subst e;obtain⟨o,e,c,d⟩:=st;exact⟨o,e,fun v z=>by rw[d] at z; cases z⟩
 keep:=fun i h h' st k=>st.at fun o e=>k it (by simp) o e
 item:=by
  intro X hP hw hK hc i pins s σ H E I hf st hg;subst hP hw hK;obtain⟨xs,x,hq,hx⟩:=hg;obtain⟨its,rv,p,hz⟩:=I.tuple hq;obtain⟨u,hu,ru⟩:=rv.get hx;obtain⟨f0,f1,f2,f3,f4,f5⟩:=hf it (by simp);refine wpAny_pyNext_tuple_item st (show s.heap.IsTuple a its.toArray from p) (x:=u) (by simpa using hu) fun h' st' sb=>?_;have I1:Inv X pins σ H { s with heap:=h' }:=I.turned (t':=s.toks) (fun b o hb e=>(sb.2 b hb).trans e) f0 f1 f3 f4 f5
  obtain⟨o,e,c,d⟩:=id st';exact⟨u,rfl,jfs (s:={ s with heap:=h' }) e c d (by decide) ⟨x,H,I1,ru,⟨rfl,fun ys hy=>by rw[I.tuple_inj hy hq]; exact hx⟩,st',fun b hb=>(hf b hb).1⟩⟩
 done:=by
  intro X hP hw hK hc i pins s σ H E I hf st hg;subst hP hw hK;obtain⟨xs,hq,hx⟩:=hg;obtain⟨its,rv,p,hz⟩:=I.tuple hq;obtain⟨f0,f1,f2,f3,f4,f5⟩:=hf it (by simp);have hl:=rv.length;exact wpAny_pyNext_tuple_end (I.ok.hd hc) st (show s.heap.IsTuple a its.toArray from p) (by simp; omega) fun h' eb=>⟨rfl,I.turned (t':=s.toks) (fun b o hb e=>eb b o hb e) f0 f1 f3 f4 f5⟩
 self:=fun _ _ _ _ _ st h=>wpAny_pyIter_tupleiter st h
theorem jbP {P:Program} (it:Addr) (lo:Int) (n:Nat):Turn P w K tg (Itr lo n) [it] it (fun i h=>IsRangeIter h it (lo+(i:Nat) * 1) ((n:Int)-(i:Nat)) 1) where
 mem:=by simp
 obj:=fun i h st b hb=>by
  have e:b=it:=by simpa using hb
  subst e;exact⟨_,st,fun v z=>by
   have z':Data.fields _=Data.cell v:=z;cases z'⟩
 keep:=fun i h h' st k=>k it (by simp) _ st
 item:=by
  intro X hP hw hK hc i pins s σ H E I hf st hg;subst hP hw hK;obtain⟨f0,f1,f2,f3,f4,f5⟩:=hf it (by simp);have W:=Walks.range (prog:=X.prog) (w:=X.w) (I.ok.hd hc) it lo 1 n;refine W.item i s _ _ hg st fun v h' tk hv st' kk=>?_;obtain⟨t,rfl⟩:=hv;have I1:Inv X pins σ H { s with heap:=h',toks:=tk }:=I.turned (fun b o hb e=>kk b o (by simpa using hb) e) f0 f1 f3 f4 f5
  refine⟨_,rfl,jfs (s:={ s with heap:=h',toks:=tk }) (n:="range_iterator") st' rfl rfl (by decide) ⟨.int (lo+i),H,I1,⟨t,?_⟩,⟨rfl,rfl⟩,st',fun b hb=>(hf b hb).1⟩⟩
  rw[Int.mul_one]
 done:=by
  intro X hP hw hK hc i pins s σ H E I hf st hg;subst hP hw hK;obtain⟨f0,f1,f2,f3,f4,f5⟩:=hf it (by simp);exact wpAny_pyNext_range_end (I.ok.hd hc) st (by have:n<=i:=hg; omega) fun h' eb=>⟨rfl,I.turned (t':=s.toks) (fun b o hb e=>eb b o hb e) f0 f1 f3 f4 f5⟩
 self:=fun _ _ _ _ _ st h=>wpAny_pyIter_rangeiter st h
section
variable {X:Cx} 
def jft (K:W.Frag) (tl:TE):TI:=fun σ H R=>tl σ H fun x H1=>∃ a,x=.ref a/\(∃ xs,SqL K H1 a xs)/\R (Itl K a) H1
def jkP (K:W.Frag) (tl:TE):TI:=fun σ H R=>tl σ H fun x H1=>∃ a,x=.ref a/\(∃ xs,SqT K H1 a xs)/\R (Itt K a) H1
theorem yS {l:Expr}{tl:TE} (hl:PE X l tl):PI X tg l (jft X.K tl):=by
 intro pins s σ H R I h;refine thn (hl pins s σ H _ I h) fun v s1 ⟨x,H1,I1,r1,q1⟩=>?_;obtain⟨a,e,⟨xs,hq⟩,q⟩:=q1;subst e;cases r1;obtain⟨its,rv,p,hz⟩:=I1.list hq;refine wpAny_pyIter_list p.isList ?_;refine⟨s1.heap.objs.size,[s1.heap.objs.size],_,_,H1,rfl,I1.kept (t':=s1.toks) fun b o e=>Xc _ e,jc5 a _,⟨_,Xn _ rfl,rfl,rfl⟩,fun b hb=>?_,q⟩;have e:b=s1.heap.objs.size:=by simpa using hb
 subst e;exact I1.fpOk (Xh _) (I1.hok.fresh (Xh _))
theorem ja7 {l:Expr}{tl:TE} (hl:PE X l tl):PI X tg l (jkP X.K tl):=by
 intro pins s σ H R I h;refine thn (hl pins s σ H _ I h) fun v s1 ⟨x,H1,I1,r1,q1⟩=>?_;obtain⟨a,e,⟨xs,hq⟩,q⟩:=q1;subst e;cases r1;obtain⟨its,rv,p,hz⟩:=I1.tuple hq;refine wpAny_pyIter_tuple (show s1.heap.IsTuple a its.toArray from p) ?_;refine⟨s1.heap.objs.size,[s1.heap.objs.size],_,_,H1,rfl,I1.kept (t':=s1.toks) fun b o e=>Xc _ e,jbO a _,⟨_,Xn _ rfl,rfl,rfl⟩,fun b hb=>?_,q⟩;have e:b=s1.heap.objs.size:=by simpa using hb
 subst e;exact I1.fpOk (Xh _) (I1.hok.fresh (Xh _))
theorem ja8 {σ:St}{H:Hp}{R:It->Hp->Prop}{lo hi:Int}{t u v:Tok} (I:Inv X pins σ H s) (h1:-(2 ^ 62)<=lo) (h2:lo<2 ^ 62) (h3:-(2 ^ 62)<=hi) (h4:hi<2 ^ 62)
  (q:R (Itr lo (hi-lo).toNat) H):wpAny (model X.prog X.w) X.A (pyIter (.ref s.heap.objs.size)) (PIE X pins σ tg R) E { s with heap:=s.heap.push { cls:=.type "range",data:=.fields #[.int lo t,.int hi u,.int 1 v] },toks:=tk }:=by
 refine wpAny_pyIter_range (IsRange.new ..) (small_one h1 h2 h3 h4) ?_;have I1:Inv X pins σ H { s with heap:=s.heap.push { cls:=.type "range",data:=.fields #[.int lo t,.int hi u,.int 1 v] },toks:=tk }:=I.kept fun b o e=>Xc _ e
 refine⟨(s.heap.push { cls:=.type "range",data:=.fields #[.int lo t,.int hi u,.int 1 v] }).objs.size,[(s.heap.push { cls:=.type "range",data:=.fields #[.int lo t,.int hi u,.int 1 v] }).objs.size],_,_,H,rfl,
  I1.kept (t':=tk) fun b o e=>Xc _ e,jbP _ lo (hi-lo).toNat,?_,fun b hb=>?_,q⟩
 ·have e1:lo+((0:Nat):Int) * 1=lo:=by simp
  have e2:(((hi-lo).toNat:Nat):Int)-((0:Nat):Int)=Builtin.Range.rangeSize lo hi 1:=by rw[rangeSize_one]; split <;> omega
  show IsRangeIter _ _ (lo+((0:Nat):Int) * 1) ((((hi-lo).toNat:Nat):Int)-((0:Nat):Int)) 1;rw[e1,e2];exact Xn _ rfl
 ·have e:b=(s.heap.push { cls:=.type "range",data:=.fields #[.int lo t,.int hi u,.int 1 v] }).objs.size:=by simpa using hb
  subst e;exact I1.fpOk (Xh _) (I1.hok.fresh (Xh _))
def WE (ta:TA):TI:=fun σ H R=>ta σ H fun vs H1=>∃ j:Int,vs=[.int j]/\-(2 ^ 62)<=j/\j<2 ^ 62/\R (Itr 0 j.toNat) H1
def Z7 (ta:TA):TI:=fun σ H R=>ta σ H fun vs H1=>∃ i j:Int,vs=[.int i,.int j]/\(-(2 ^ 62)<=i/\i<2 ^ 62/\-(2 ^ 62)<=j/\j<2 ^ 62)/\R (Itr i (j-i).toNat) H1
theorem kA {a:Expr}{ta:TA} (hg:Gl X "range") (hm:X.mg "range"=none) (ha:PA X [a] ta) (hs:starEach [a] X.env=[(false,eval a X.env)]:=by rfl):PI X tg (.Call (.Name "range" p) [a] [] pos) (WE ta):=by
 intro pins s σ H R I h;refine Call_ (Q9 I hg hm boot_range (wP (thn (ha pos pins s σ H _ I h) fun us s1 ⟨vs,H1,I1,r1,q1⟩=>?_) hs rfl));obtain⟨j,e,q1,q2,q⟩:=q1;subst e;cases r1 with
 | cons r rr=>
  cases rr;obtain⟨t,rfl⟩:=r;exact call_range_1 (ja8 I1 (by omega) (by omega) q1 q2 (by simpa using q))
theorem YQ {a b:Expr}{ta:TA} (hg:Gl X "range") (hm:X.mg "range"=none) (ha:PA X [a,b] ta) (hs:starEach [a,b] X.env=[(false,eval a X.env),(false,eval b X.env)]:=by rfl) (hs2:starEach [b] X.env=[(false,eval b X.env)]:=by rfl) :
  PI X tg (.Call (.Name "range" p) [a,b] [] pos) (Z7 ta):=by
 intro pins s σ H R I h;refine Call_ (Q9 I hg hm boot_range (wP (thn (ha pos pins s σ H _ I h) fun us s1 ⟨vs,H1,I1,r1,q1⟩=>?_) (by rw[hs,hs2]) (by rw[hs2]; rfl)));obtain⟨i,j,e,⟨q1,q2,q3,q4⟩,q⟩:=q1;subst e;cases r1 with
 | cons r rr=>
  cases rr with
  | cons r' rr=>
   cases rr;obtain⟨t,rfl⟩:=r;obtain⟨t',rfl⟩:=r';exact call_range_2 (ja8 I1 q1 q2 q3 q4 q)
def jg3 (wi:TI) (g:TG) (tb:TS):TS:=fun D σ H=>wi σ H fun J H1=>∃ W:Nat->Nat->St->Hp->Prop,(∃ m,W 0 m σ H1)/\∀ i m σ H,W i m σ H ->
 (J.stop i H/\D.nx σ H) \/ (J.go i H/\∃ N:St->Hp->Prop,(∀ σ' H',N σ' H'->∃ m',m'<m/\W (i+1) m' σ' H')/\∀ x H',J.yld i H x H'->g x σ H' fun σ2 H2=>tb { D with nx:=N,ct:=N,bk:=D.nx } σ2 H2)
def YR (fp:List Addr) (h:Heap):List (Addr×Obj):=fp.filterMap fun b=>(h.get? b).map fun o=>(b,o)
theorem Jz {b:Addr} (hb:b∈fp) (e:h.get? b=some o):(b,o)∈YR fp h:=List.mem_filterMap.mpr ⟨b,hb,by rw[e]; rfl⟩
theorem jc6 {p:Addr×Obj} (hp:p∈YR fp h):p.1∈fp/\h.get? p.1=some p.2:=by
 obtain⟨b,hb,e⟩:=List.mem_filterMap.mp hp;cases q:h.get? b with
 | none=>rw[q] at e; cases e
 | some o=>
  rw[q] at e;have e':(b,o)=p:=Option.some.inj e;subst e';exact⟨hb,q⟩
theorem Inv.pinned {σ:St}{H:Hp} (I:Inv X pins σ H s) (hf:∀ b∈fp,jc4 X pins H b) (ho:∀ b∈fp,∃ o,s.heap.get? b=some o/\∀ v,o.data≠.cell v):Inv X (pins++YR fp s.heap) σ H s:=
 I.pins_of fun p hp=>(List.mem_append.mp hp).elim (fun z=>I.pin p (XM _ z)) fun z=>by
  obtain⟨hb,e⟩:=jc6 z;obtain⟨f0,f1,f2,_⟩:=hf p.1 hb;obtain⟨o,e',d⟩:=ho p.1 hb;rw[e] at e'; cases e';exact⟨e,f0,f1,f2,d⟩
theorem Inv.unpinned {pl:List (Addr×Obj)}{σ:St}{H:Hp} (I:Inv X (pins++pl) σ H s):Inv X pins σ H s:=I.pins_of fun p hp=>I.pin p (XM _ (wb _ hp))
theorem qQ {wi:TI}{g:TG}{tb:TS} (hp:PassesOwn (model X.prog X.w) X.A X.env X.xe) (hc:X.calm=true) (hi:PI X tg iter wi) (hg:PG X tg g) (hb:PSs X body tb)
  (hs:∀ x,foldedSetIterable iter X.env x=pure x:=by intro _; rfl):PS X (.For tg iter body [] pos) (jg3 wi g tb):=by
 intro pins s σ H D I h;refine wpAny_For (thn (hi pins s σ H _ I h) fun v s1 h1=>thn h1 fun itv s2 h2=>?_) hs;obtain⟨it,fp,tn,J,H2,e,I2,T,st2,f2,W,⟨m0,w0⟩,turn⟩:=h2;subst e;have stat:∀ {H':Hp},(∀ b∈fp,H' b=none)->∀ b∈fp,jc4 X pins H' b:=fun hn b hb=>⟨hn b hb,(f2 b hb).2⟩;refine codeAny_forLoop_any (fun n s'=>∃ i σ' H',Inv X pins σ' H' s'/\tn i s'.heap/\(∀ b∈fp,H' b=none)/\W i n σ' H') ?_ m0 ⟨0,σ,H2,I2,st2,fun b hb=>(f2 b hb).1,w0⟩;rintro n s3 ⟨i,σ3,H3,I3,st3,fr3,w3⟩;rcases turn i n σ3 H3 w3 with⟨stop,qn⟩ | ⟨go,N,hN,step⟩
 ·refine wpAny_passesOwn hp (thn (T.done X rfl rfl rfl hc i pins s3 σ3 H3 X.xe I3 (stat fr3) st3 stop) fun r s4 ⟨hr,I4⟩=>?_);subst hr;exact wpAny_execs_nil ⟨σ3,H3,I4,qn⟩
 ·refine wpAny_passesOwn hp (thn (T.item X rfl rfl rfl hc i pins s3 σ3 H3 X.xe I3 (stat fr3) st3 go) fun r s4 ⟨u,hr,h4⟩=>?_);subst hr;refine wpAny_passesOwn hp (thn h4 fun _ s5 ⟨x,H5,I5,r5,y5,st5,fr5⟩=>?_);have I5':=I5.pinned (stat fr5) (T.obj _ _ st5);refine wpAny_passesOwn hp (thn (hg _ s5 σ3 H5 x u _ I5' r5 (step x H5 y5)) fun _ s6 ⟨σ6,H6,I6,q6⟩=>?_);refine wpAny_passesOwn hp (thn (hb _ s6 σ6 H6 _ I6 q6) fun f s7 q7=>?_);have again:∀ {σ7:St}{H7:Hp},Inv X (pins++YR fp s5.heap) σ7 H7 s7->N σ7 H7->∃ m,m<n/\∃ i σ' H',Inv X pins σ' H' s7/\tn i s7.heap/\(∀ b∈fp,H' b=none)/\W i m σ' H':=fun {σ7 H7} I7 n7=>by
   obtain⟨m',hm,w7⟩:=hN σ7 H7 n7;refine⟨m',hm,i+1,σ7,H7,I7.unpinned,T.keep _ _ _ st5 fun b hb o e=>(I7.pin (b,o) (XM _ (XM _ (Jz hb e)))).1,fun b hb=>?_,w7⟩;obtain⟨o,e,d⟩:=T.obj _ _ st5 b hb;exact(I7.pin (b,o) (XM _ (XM _ (Jz hb e)))).2.1
  cases f with
  | next=>obtain⟨σ7,H7,I7,n7⟩:=q7; exact again I7 n7
  | cont=>obtain⟨σ7,H7,I7,n7⟩:=q7; exact again I7 n7
  | brk=>obtain⟨σ7,H7,I7,q7⟩:=q7; exact ⟨σ7,H7,I7.unpinned,q7⟩
  | ret v=>obtain⟨x7,σ7,H7,I7,r7,q7⟩:=q7; exact ⟨x7,σ7,H7,I7.unpinned,r7,q7⟩
end
abbrev R2:=V->V->Hp->VK->Prop
def OpR (X:Cx) (f:Value->Value->Sem Value) (r:R2):Prop:=
 ∀ (pins:List (Addr×Obj)) (s:Shared) (σ:St) (H:Hp) (x y:V) (v u:Value) (Q:VK),Inv X pins σ H s->RelV x v->RelV y u->r x y H Q ->
  wpAny (model X.prog X.w) X.A (f v u) (EP X pins σ Q) X.xe s
def UnR (X:Cx) (f:Value->Sem Value) (r:V->Hp->VK->Prop):Prop:=
 ∀ (pins:List (Addr×Obj)) (s:Shared) (σ:St) (H:Hp) (x:V) (v:Value) (Q:VK),Inv X pins σ H s->RelV x v->r x H Q ->
  wpAny (model X.prog X.w) X.A (f v) (EP X pins σ Q) X.xe s
def GN (X:Cx) (f:Value) (r:List V->Hp->VK->Prop):Prop:=
 ∀ (pins:List (Addr×Obj)) (s:Shared) (σ:St) (H:Hp) (xs:List V) (us:List Value) (Q:VK),Inv X pins σ H s->Vals xs us->r xs H Q ->
  wpAny (model X.prog X.w) X.A (call f us) (EP X pins σ Q) X.xe s
def tOp (r:R2) (ta tb:TE):TE:=fun σ H Q=>ta σ H fun x H1=>tb σ H1 fun y H2=>r x y H2 Q
def tUn (r:V->Hp->VK->Prop) (ta:TE):TE:=fun σ H Q=>ta σ H fun x H1=>r x H1 Q
def rI (C:Int->Int->Prop) (g:Int->Int->V):R2:=fun x y H Q=>∃ i j,x=.int i/\y=.int j/\C i j/\Q (g i j) H
def rI0 (g:Int->Int->V):R2:=fun x y H Q=>∃ i j,x=.int i/\y=.int j/\Q (g i j) H
def rU (g:Int->V):V->Hp->VK->Prop:=fun x H Q=>∃ i,x=.int i/\Q (g i) H
section
variable {X:Cx}{a b c:Expr}{ta tb tc:TE} 
theorem jkQ (ha:PE X a ta) (hb:PE X b tb) {σ:St}{H:Hp}{R:V->V->Hp->Prop} (I:Inv X pins σ H s)
  (h:ta σ H fun x H1=>tb σ H1 fun y H2=>R x y H2) {f:Value->Value->Sem Value}
  (hf:∀ v u s2 x y H2,Inv X pins σ H2 s2->RelV x v->RelV y u->R x y H2->wpAny (model X.prog X.w) X.A (f v u) Q X.xe s2) :
  wpAny (model X.prog X.w) X.A (eval a X.env) (fun v s₁=>wpAny (model X.prog X.w) X.A (eval b X.env) (fun u s₂=>wpAny (model X.prog X.w) X.A (f v u) Q X.xe s₂) X.xe s₁) X.xe s:=by
 refine thn (ha pins s σ H _ I h) fun v s1 ⟨x,H1,I1,r1,q1⟩=>?_;refine thn (hb pins s1 σ H1 _ I1 q1) fun u s2 ⟨y,H2,I2,r2,q2⟩=>?_;exact hf v u s2 x y H2 I2 r1 r2 q2
theorem jL {op:Operator}{r:R2} (ho:OpR X (binaryOp op) r) (ha:PE X a ta) (hb:PE X b tb):PE X (.BinOp a op b pos) (tOp r ta tb):=by
 intro pins s σ H Q I h;exact wpAny_BinOp (jkQ ha hb I h fun v u s2 x y H2 I2 rx ry q=>ho pins s2 σ H2 x y v u Q I2 rx ry q)
theorem jc7 {op:UnaryOp}{r:V->Hp->VK->Prop} (ho:UnR X (unaryOp op) r) (ha:PE X a ta):PE X (.UnaryOp op a pos) (tUn r ta):=by
 intro pins s σ H Q I h;exact UnaryOp_ (thn (ha pins s σ H _ I h) fun v s1 ⟨x,H1,I1,r1,q1⟩=>ho pins s1 σ H1 x v Q I1 r1 q1)
theorem opI {f:Value->Value->Sem Value}{C:Int->Int->Prop}{g:Int->Int->Int}
  (rule:∀ (i j:Int) (t u:Tok) (s:Shared) (Q:Value->Shared->Prop) (E:Value->Shared->Prop),C i j->Q (.int (g i j) s.toks) { s with toks:=s.toks+1 }->wpAny (model X.prog X.w) X.A (f (.int i t) (.int j u)) Q E s) :
  OpR X f (rI C fun i j=>.int (g i j)):=by
 intro pins s σ H x y v u Q I rx ry h;obtain⟨i,j,rfl,rfl,hc,q⟩:=h;obtain⟨t,rfl⟩:=rx;obtain⟨t',rfl⟩:=ry;exact rule i j t t' s _ _ hc ⟨.int (g i j),H,I.tok _,⟨_,rfl⟩,q⟩
theorem jkG {f:Value->Value->Sem Value}{g:Int->Int->Int}
  (rule:∀ (i j:Int) (t u:Tok) (s:Shared) (Q:Value->Shared->Prop) (E:Value->Shared->Prop),Q (.int (g i j) s.toks) { s with toks:=s.toks+1 }->wpAny (model X.prog X.w) X.A (f (.int i t) (.int j u)) Q E s) :
  OpR X f (rI0 fun i j=>.int (g i j)):=by
 intro pins s σ H x y v u Q I rx ry h;obtain⟨i,j,rfl,rfl,q⟩:=h;obtain⟨t,rfl⟩:=rx;obtain⟨t',rfl⟩:=ry;exact rule i j t t' s _ _ ⟨.int (g i j),H,I.tok _,⟨_,rfl⟩,q⟩
theorem jkR {f:Value->Value->Sem Value}{g:Int->Int->Bool}
  (rule:∀ (i j:Int) (t u:Tok) (s:Shared) (Q:Value->Shared->Prop) (E:Value->Shared->Prop),Q (.bool (g i j)) s->wpAny (model X.prog X.w) X.A (f (.int i t) (.int j u)) Q E s) :
  OpR X f (rI0 fun i j=>.bl (g i j)):=by
 intro pins s σ H x y v u Q I rx ry h;obtain⟨i,j,rfl,rfl,q⟩:=h;obtain⟨t,rfl⟩:=rx;obtain⟨t',rfl⟩:=ry;exact rule i j t t' s _ _ ⟨.bl (g i j),H,I,rfl,q⟩
def ji_ (i j:Int):Prop:=0<=j/\j<=1000000/\i.natAbs<2 ^ 64
def CMul (i j:Int):Prop:=(-(2 ^ 64)<i/\i<2 ^ 64) \/ (-(2 ^ 64)<j/\j<2 ^ 64)
theorem CMul.ok {i j:Int} (h:CMul i j):IntMulOk i j:=by
 rcases h with⟨h1,h2⟩ | ⟨h1,h2⟩
 ·exact .of_left (intBits_le_64 h1 h2)
 ·exact .of_right (intBits_le_64 h1 h2)
theorem jbQ (k:Nat):(0:Int)<=2 ^ k:=by
 rw[two_pow_cast];exact Int.natCast_nonneg _
theorem qC:OpR X (binaryOp .Add) (rI0 fun i j=>.int (i+j)):=jkG fun _ _ _ _ _ _ _ q=>add_int q
theorem GR:OpR X (binaryOp .Sub) (rI0 fun i j=>.int (i-j)):=jkG fun _ _ _ _ _ _ _ q=>sub_int q
theorem GS:OpR X (binaryOp .Mult) (rI CMul fun i j=>.int (i * j)):=opI fun _ _ _ _ _ _ _ hc q=>mul_int q hc.ok
theorem xB:OpR X (binaryOp .Mod) (rI (fun _ j=>0<j) fun i j=>.int (i % j)):=opI fun i j _ _ _ _ _ hc q=>by
 have h1:(0:Int)<j:=hc;exact mod_int' (by omega) (by rw[Int.fmod_eq_emod_of_nonneg i (by omega)]; exact q)
theorem jg4:OpR X (binaryOp .Pow) (rI ji_ fun i j=>.int (i ^ j.toNat)):=opI fun _ _ _ _ _ _ _ hc q=>pow_int_small hc.1 hc.2.1 hc.2.2 q
theorem jc8:OpR X (binaryOp .LShift) (rI ji_ fun i j=>.int (i * 2 ^ j.toNat)):=opI fun _ _ _ _ _ _ _ hc q=>lshift_int_small hc.1 hc.2.1 hc.2.2 q
theorem jg5:OpR X (binaryOp .RShift) (rI (fun _ j=>0<=j) fun i j=>.int (i / 2 ^ j.toNat)):=opI fun i j _ _ _ _ _ hc q=>
 rshift_int hc (by rw[Int.fdiv_eq_ediv_of_nonneg i (jbQ _)]; exact q)
theorem jg6:OpR X (binaryOp .BitAnd) (rI0 fun i j=>.int (Builtin.bitAnd i j)):=jkG fun _ _ _ _ _ _ _ q=>and_int q
theorem jc9:OpR X (binaryOp .BitOr) (rI0 fun i j=>.int (Builtin.bitOr i j)):=jkG fun _ _ _ _ _ _ _ q=>or_int q
theorem unI {f:Value->Sem Value}{g:Int->Int}
  (rule:∀ (i:Int) (t:Tok) (s:Shared) (Q:Value->Shared->Prop) (E:Value->Shared->Prop),Q (.int (g i) s.toks) { s with toks:=s.toks+1 }->wpAny (model X.prog X.w) X.A (f (.int i t)) Q E s) :
  UnR X f (rU fun i=>.int (g i)):=by
 intro pins s σ H x v Q I rx h;obtain⟨i,rfl,q⟩:=h;obtain⟨t,rfl⟩:=rx;exact rule i t s _ _ ⟨.int (g i),H,I.tok _,⟨_,rfl⟩,q⟩
theorem YS:UnR X (unaryOp .USub) (rU fun i=>.int (-i)):=unI fun _ _ _ _ _ q=>neg_int q
end
def jls:V->V->Bool
 | .non,.non=>true | .non,.int _=>true | .int _,.non=>true | .non,.bl _=>true | .bl _,.non=>true | .non,.str _=>true | .str _,.non=>true
 | .int _,.int _=>true | .bl _,.bl _=>true | .str _,.str _=>true | .byt _,.byt _=>true
 | .int _,.str _=>true | .str _,.int _=>true | .bl _,.str _=>true | .str _,.bl _=>true
 | _,_=>false
def rEq:R2:=fun x y H Q=>jls x y=true/\Q (.bl (decide (x=y))) H
def rNe:R2:=fun x y H Q=>jls x y=true/\Q (.bl (!decide (x=y))) H
theorem WF {i j:Int}:decide (V.int i=V.int j)=(i==j):=by
 rw[XR];simp
theorem jg7 {i j:Bool}:decide (V.bl i=V.bl j)=(i==j):=by
 rw[XR];simp
theorem jc_ {i j:Str}:decide (V.str i=V.str j)=(i==j):=by
 rw[XR];simp
theorem jda {i j:Array UInt8}:decide (V.byt i=V.byt j)=(i.toList==j.toList):=by
 rw[XR];cases i;cases j;simp
section
variable {X:Cx}{a b c:Expr}{ta tb tc:TE} 
theorem qk {σ:St}{H:Hp}{Q:VK}{k k':Bool} (I:Inv X pins σ H s) (q:Q (.bl k) H) (e:k=k'):EP X pins σ Q (.bool k') s:=by
 subst e;exact⟨.bl k,H,I,rfl,q⟩
theorem zz:OpR X (compareOp .Eq) rEq:=by
 intro pins s σ H x y v u Q I rx ry h;obtain⟨hs,q⟩:=h;cases x with
 | non=>
  cases rx;cases y with
  | non=>cases ry; exact PySem.EqNone.eq_none_none (qk I q (by simp))
  | bl j=>cases ry; exact PySem.EqNone.eq_none_bool (qk I q (by simp))
  | int j=>obtain⟨t',rfl⟩:=ry; exact PySem.EqNone.eq_none_int (qk I q (by simp))
  | str j=>obtain⟨t',rfl⟩:=ry; exact PySem.EqNone.eq_none_str (qk I q (by simp))
  | _=>exact absurd (show false=true from hs) Xw
 | bl i=>
  cases rx;cases y with
  | non=>cases ry; exact PySem.EqNone.eq_bool_none (qk I q (by simp))
  | bl j=>cases ry; exact eq_bool (qk I q jg7)
  | str j=>obtain⟨t',rfl⟩:=ry; exact PySem.EqMixed.eq_bool_str (qk I q (by simp))
  | _=>exact absurd (show false=true from hs) Xw
 | int i=>
  obtain⟨t,rfl⟩:=rx;cases y with
  | non=>cases ry; exact PySem.EqNone.eq_int_none (qk I q (by simp))
  | int j=>obtain⟨t',rfl⟩:=ry; exact eq_int (qk I q WF)
  | str j=>obtain⟨t',rfl⟩:=ry; exact PySem.EqMixed.eq_int_str (qk I q (by simp))
  | _=>exact absurd (show false=true from hs) Xw
 | str i=>
  obtain⟨t,rfl⟩:=rx;cases y with
  | non=>cases ry; exact PySem.EqNone.eq_str_none (qk I q (by simp))
  | bl j=>cases ry; exact PySem.EqMixed.eq_str_bool (qk I q (by simp))
  | int j=>obtain⟨t',rfl⟩:=ry; exact PySem.EqMixed.eq_str_int (qk I q (by simp))
  | str j=>obtain⟨t',rfl⟩:=ry; exact eq_str (qk I q jc_)
  | _=>exact absurd (show false=true from hs) Xw
 | byt i=>
  obtain⟨t,rfl⟩:=rx;cases y with
  | byt j=>obtain⟨t',rfl⟩:=ry; exact W.eq_bytes (qk I q jda)
  | _=>exact absurd (show false=true from hs) Xw
 | _=>cases y <;> exact absurd (show false=true from hs) Xw
theorem jkS:OpR X (compareOp .NotEq) rNe:=by
 intro pins s σ H x y v u Q I rx ry h;obtain⟨hs,q⟩:=h;cases x with
 | non=>
  cases rx;cases y with
  | non=>cases ry; exact PySem.EqNone.ne_none_none (qk I q (by simp))
  | bl j=>cases ry; exact PySem.EqNone.ne_none_bool (qk I q (by simp))
  | int j=>obtain⟨t',rfl⟩:=ry; exact PySem.EqNone.ne_none_int (qk I q (by simp))
  | str j=>obtain⟨t',rfl⟩:=ry; exact PySem.EqNone.ne_none_str (qk I q (by simp))
  | _=>exact absurd (show false=true from hs) Xw
 | bl i=>
  cases rx;cases y with
  | non=>cases ry; exact PySem.EqNone.ne_bool_none (qk I q (by simp))
  | bl j=>cases ry; exact ne_bool (qk I q (congrArg not jg7))
  | str j=>obtain⟨t',rfl⟩:=ry; exact PySem.EqMixed.ne_bool_str (qk I q (by simp))
  | _=>exact absurd (show false=true from hs) Xw
 | int i=>
  obtain⟨t,rfl⟩:=rx;cases y with
  | non=>cases ry; exact PySem.EqNone.ne_int_none (qk I q (by simp))
  | int j=>obtain⟨t',rfl⟩:=ry; exact ne_int (qk I q (congrArg not WF))
  | str j=>obtain⟨t',rfl⟩:=ry; exact PySem.EqMixed.ne_int_str (qk I q (by simp))
  | _=>exact absurd (show false=true from hs) Xw
 | str i=>
  obtain⟨t,rfl⟩:=rx;cases y with
  | non=>cases ry; exact PySem.EqNone.ne_str_none (qk I q (by simp))
  | bl j=>cases ry; exact PySem.EqMixed.ne_str_bool (qk I q (by simp))
  | int j=>obtain⟨t',rfl⟩:=ry; exact PySem.EqMixed.ne_str_int (qk I q (by simp))
  | str j=>obtain⟨t',rfl⟩:=ry; exact ne_str (qk I q (congrArg not jc_))
  | _=>exact absurd (show false=true from hs) Xw
 | byt i=>
  obtain⟨t,rfl⟩:=rx;cases y with
  | byt j=>obtain⟨t',rfl⟩:=ry; exact W.ne_bytes (qk I q (congrArg not jda))
  | _=>exact absurd (show false=true from hs) Xw
 | _=>cases y <;> exact absurd (show false=true from hs) Xw
theorem WG:OpR X (compareOp .Lt) (rI0 fun i j=>.bl (decide (i<j))):=jkR fun _ _ _ _ _ _ _ q=>lt_int q
theorem jfu:OpR X (compareOp .LtE) (rI0 fun i j=>.bl (decide (i<=j))):=jkR fun _ _ _ _ _ _ _ q=>le_int q
theorem YT:OpR X (compareOp .Gt) (rI0 fun i j=>.bl (decide (j<i))):=jkR fun _ _ _ _ _ _ _ q=>gt_int q
theorem ky (b:Expr) {op:CmpOp} (h:op≠.In:=by decide) (h2:op≠.NotIn:=by decide):behindInMarks op b=false:=by
 have e1:(op==CmpOp.In)=false:=by cases op <;> first | rfl | exact absurd rfl h
 have e2:(op==CmpOp.NotIn)=false:=by cases op <;> first | rfl | exact absurd rfl h2
 cases b <;> simp[behindInMarks,e1,e2]
theorem QN {op:CmpOp}{r:R2} (ho:OpR X (compareOp op) r) (ha:PE X a ta) (hb:PE X b tb) (hm:behindInMarks op b=false):PE X (.Compare a [op] [b] pos) (tOp r ta tb):=by
 intro pins s σ H Q I h;exact wpAny_Compare1 (jkQ ha hb I h fun v u s2 x y H2 I2 rx ry q=>ho pins s2 σ H2 x y v u Q I2 rx ry q) hm
def jfv (t:TE):TT:=fun σ H Q=>t σ H fun x H'=>∃ k,x=.bl k/\Q k H'
theorem j9 {op:CmpOp}{r:R2} (ho:OpR X (compareOp op) r) (ha:PE X a ta) (hb:PE X b tb) (hm:behindInMarks op b=false):PT X (.Compare a [op] [b] pos) (jfv (tOp r ta tb)):=by
 intro pins s σ H Q I h;refine wpAny_isTrue_Compare1 (thn (ha pins s σ H _ I h) fun v s1 ⟨x,H1,I1,r1,q1⟩=>thn (hb pins s1 σ H1 _ I1 q1) fun u s2 ⟨y,H2,I2,r2,q2⟩=>
  thn (ho pins s2 σ H2 x y v u _ I2 r1 r2 q2) fun c s3 ⟨z,H3,I3,r3,k,e,q3⟩=>?_) hm
 subst e;cases r3;exact wm ⟨H3,I3,q3⟩
def ja9 (r r':R2) (ta tb tc:TE):TE:=fun σ H Q=>ta σ H fun x H1=>tb σ H1 fun y H2=>r x y H2 fun z H3=>∃ k,z=.bl k /\
 (if k=true then tc σ H3 fun w' H4=>r' y w' H4 Q else Q (.bl false) H3)
theorem ja_ {op op':CmpOp}{r r':R2} (ho:OpR X (compareOp op) r) (ho':OpR X (compareOp op') r') (ha:PE X a ta) (hb:PE X b tb) (hc:PE X c tc)
  (hm:lastMarks [op,op'] [b,c]=false:=by with_unfolding_all rfl):PT X (.Compare a [op,op'] [b,c] pos) (jfv (ja9 r r' ta tb tc)):=by
 intro pins s σ H Q I h;refine isTrue_chain (thn (ha pins s σ H _ I h) fun v s1 ⟨x,H1,I1,r1,q1⟩=>test_link (thn (hb pins s1 σ H1 _ I1 q1) fun u s2 ⟨y,H2,I2,r2,q2⟩=>
  thn (ho pins s2 σ H2 x y v u _ I2 r1 r2 q2) fun d s3 ⟨z,H3,I3,r3,k,e,q3⟩=>?_)) hm
 subst e;cases r3;refine wm ?_;cases k with
 | false=>
  obtain⟨k',e',q'⟩:=q3;cases e';exact ite_ff ⟨H3,I3,q'⟩
 | true=>
  refine ite_tt (test_last (thn (hc pins s3 σ H3 _ I3 q3) fun w' s4 ⟨z',H4,I4,r4,q4⟩=>thn (ho' pins s4 σ H4 y z' u w' _ I4 r2 r4 q4) fun d' s5 ⟨z2,H5,I5,r5,k2,e2,q5⟩=>?_));subst e2;cases r5;exact wm ⟨H5,I5,q5⟩
theorem jba:(sizeLine:Nat)<2 ^ 63:=by rw[wa]; decide
theorem WH {x:V} (r:Vals [x] us):∃ u,us=[u]/\RelV x u:=by
 cases r with
 | cons r1 r2=>cases r2; exact ⟨_,rfl,r1⟩
end
structure ObjM (h:Heap) (x dx C:Addr) (mA:Str->Option Value):Prop where
 obj:h.get? x=some (W.instObj C dx)
 ns:h.Ns1 dx mA
 ne:dx≠x
theorem Qf (n:h.Ns1 dx mA):∃ od,h.get? dx=some od/\∀ name,W.lookIn name od=some (mA name):=by
 obtain⟨o,es,ep,ho,hd,hk,_,hm⟩:=n;refine⟨o,ho,fun name=>?_⟩;have e:=hm name;unfold nsFind findBy at e;rw[<- Array.find?_toList] at e;unfold W.lookIn;rw[hd];dsimp only;split
 ·rename_i y q
  rw[q] at e;exact congrArg some e
 ·rename_i q
  rw[q] at e;have a:es.toList.any (·.refKey)=false:=by
   rw[List.any_eq_false];intro y hy;obtain⟨z,t,hkey⟩:=hk y (Array.mem_toList_iff.mp hy);simp[DictEntry.refKey,hkey]
  have a':¬ es.toList.any (·.refKey)=true:=by rw[a]; exact Xw
  rw[if_neg a'];exact congrArg some e
theorem ObjM.look {x:Addr} (I:ObjM h x dx C mA):∃ od,W.InstAt h x (W.instObj C dx) C (some od)/\∀ name,W.lookIn name od=some (mA name):=
 let ⟨od,ho,hl⟩:=Qf I.ns
 ⟨od,⟨I.obj,rfl,rfl,ho⟩,hl⟩
section
variable {x f:Addr} 
theorem jhJ (X:K.In s.heap) (I:ObjM s.heap x dx C mA) (hg:W.plainGet K C name=true) (hh:W.hasDictIn K C=true)
  (ha:W.findIn K (.ref C) name=some none) (hv:mA name=some v) (hv':W.handedIn v=true) (h:Q v { s with toks:=s.toks+1 }) :
  wpAny (model prog w) A (getAttr (.ref x) name expr) Q E s:=by
 obtain⟨od,J,hl⟩:=I.look;exact W.get_value X J (W.plainGet_of hg).1 (W.findObj_own hh ha rfl (by rw[hl,hv])) hv' h
theorem jfw {Q:Value×List Value->Shared->Prop} (X:K.In s.heap) (I:ObjM s.heap x dx C mA) (hg:W.plainGet K C name=true)
  (hf:W.findIn K (.ref C) name=some (some (.ref f))) (ht:W.isFn K (.ref f)=true) (hv:mA name=none) (h:Q (.ref f,[.ref x]) s) :
  wpAny (model prog w) A (getMethod (.ref x) name pl) Q E s:=by
 obtain⟨od,J,hl⟩:=I.look;exact W.method_fn X J (W.plainGet_of hg).1 (W.plainGet_of hg).2 hf (wj.mp ht) (by show (W.lookIn name od).map (·.isSome)=some false; rw[hl,hv]; rfl) h
theorem jhK {ns:List Str}{Q:Unit->Shared->Prop} (X:K.In s.heap) (I:ObjM s.heap x dx C mA)
  (hs:W.findIn K (.ref C) "__setattr__"=some (some (.builtin "object.__setattr__"))) (hp:W.plainOver K C=true) (ht:W.takerIn K C name=some none) (hh:W.hasDictIn K C=true)
  (hw:PySem.Within mA ns) (hsz:ns.length<=sizeLine)
  (h:∀ h',ObjM h' x dx C (fun y=>if y=name then some v else mA y)->Heap.SameBut dx s.heap h'->Q () { s with heap:=h',toks:=s.toks+2 }) :
  wpAny (model prog w) A (setAttr (.ref x) name v) Q E s:=by
 obtain⟨od,J,hl⟩:=I.look;refine W.set_plain X J hs (W.osa_open (s:={ s with toks:=s.toks+1 }) (r:=none) X J hp ht fun b=>?_)
 obtain⟨cd,hc,hd'⟩:=W.any_some hh;have hx:s.heap.get? x=some ⟨.ref C,some dx,.plain,#[]⟩:=I.obj;refine Xa (Xb (Xa (Xa (wpAny_loadPart hx (Xa (W.Looks.here (s:={ s with toks:=s.toks+1 }) (W.looks_clsIn X hc) ?_))))))
 rw[hd'];refine Xb (a:=some dx) (Xa (Xb (Xa ?_)));refine wpAny_nsSet1 (s:={ s with toks:=s.toks+1 }) I.ns fun h' hn2 hs2=>?_
 obtain⟨oD,esD,epD,hoD,hdD,hcD⟩:=hn2.count (PySem.Within.cons name v hw);refine Xa (wpAny_lookBehind hoD (by rw[hdD]; exact pastItsLine_dict (X6 hcD (by rw[Xm]; omega))) ?_);exact Xb (h _ ⟨(hs2.2 _ (Ne.symm I.ne)).trans I.obj,hn2,I.ne⟩ hs2)
theorem jfx {R:Result->Shared->Prop} (X:K.In s.heap) (hm:W.makesIn K C=true)
  (hi:W.findIn K (.ref C) "__init__"=some (some (.ref f))) (hf:W.typeIn K (.ref f)=some (.type "function"))
  (h:codeAny (model prog w) (A.under (.builtin "type.__call__" ⟨.ref C::vs,kw⟩)) (.call (.ref f) ⟨.ref (s.heap.objs.size+1)::vs,kw⟩) (W.InitBack (s.heap.objs.size+1) R)
   { s with heap:=(s.heap.push W.emptyDict).push (W.instObj C s.heap.objs.size) }) :
  codeAny (model prog w) A (.call (.ref C) ⟨vs,kw⟩) R s:=by
 obtain⟨hh,g,d,t,os⟩:=s;exact W.make_core (W.makes_of X hm) (W.looks_findIn X hi) (fun self=>W.bind_fn X self hf) (.inl rfl) h
end
def QM (f:Str) (v:V):List (Str×V)->List (Str×V)
 | []=>[(f,v)]
 | (g,x)::r=>if g=f then (g,v)::r else (g,x)::QM f v r
theorem jF (f g:Str) (v:V):∀ fs:List (Str×V),(QM f v fs).lookup g=if g=f then some v else fs.lookup g
 | []=>by
  show List.lookup g [(f,v)]=_;by_cases h:g=f
  ·have hb:(g==f)=true:=wj.mpr h;simp only[List.lookup,hb,if_pos h]
  ·have hb:(g==f)=false:=beq_eq_false_iff_ne.mpr h;simp only[List.lookup,hb,if_neg h]
 | (k,x)::r=>by
  have ih:=jF f g v r;rw[show QM f v ((k,x)::r)=(if k=f then (k,v)::r else (k,x)::QM f v r) from rfl];by_cases hk:k=f
  ·rw[if_pos hk];by_cases h:g=k
   ·have hb:(g==k)=true:=wj.mpr h;simp only[List.lookup,hb,if_pos (h.trans hk)]
   ·have hb:(g==k)=false:=beq_eq_false_iff_ne.mpr h;simp only[List.lookup,hb,if_neg (fun e:g=f=>h (e.trans hk.symm))]
  ·rw[if_neg hk];by_cases h:g=k
   ·have hb:(g==k)=true:=wj.mpr h;simp only[List.lookup,hb,if_neg (fun e:g=f=>hk (h.symm.trans e))]
   ·have hb:(g==k)=false:=beq_eq_false_iff_ne.mpr h;simp only[List.lookup,hb];exact ih
theorem GT (f:Str) (v:V):∀ fs:List (Str×V),f∈(QM f v fs).map (·.1)/\∀ g,g∈fs.map (·.1)->g∈(QM f v fs).map (·.1)
 | []=>⟨by simp[QM],fun g h=>by simp at h⟩
 | (k,x)::r=>by
  obtain⟨i1,i2⟩:=GT f v r;rw[show QM f v ((k,x)::r)=(if k=f then (k,v)::r else (k,x)::QM f v r) from rfl];by_cases hk:k=f
  ·rw[if_pos hk];subst hk;exact⟨by simp,fun g h=>by simpa using h⟩
  ·rw[if_neg hk];refine⟨?_,fun g h=>?_⟩
   ·rw[X8];exact Xf _ i1
   ·rw[X8] at h ⊢;rcases Xk.mp h with e | e
    ·exact Xk.mpr (.inl e)
    ·exact Xf _ (i2 g e)
theorem JQ (f:Str) (v:V):∀ fs:List (Str×V),(QM f v fs).length<=fs.length+1
 | []=>by simp[QM]
 | (k,x)::r=>by
  have ih:=JQ f v r;rw[show QM f v ((k,x)::r)=(if k=f then (k,v)::r else (k,x)::QM f v r) from rfl];by_cases hk:k=f
  ·rw[if_pos hk,Xm,Xm]; omega
  ·rw[if_neg hk,Xm,Xm]; omega
theorem RelO.some_of {v:V}{o:Option Value} (r:RelO (some v) o):∃ u,o=some u/\RelV v u:=by
 cases o with
 | none=>exact (show False from r).elim
 | some u=>exact ⟨u,rfl,r⟩
theorem RelO.none_of {o:Option Value} (r:RelO none o):o=none:=by
 cases o with
 | none=>rfl
 | some u=>exact (show False from r).elim
theorem YU {v:V} (r:RelV v u):W.handedIn u=true:=by
 cases v with
 | non=>cases (show u=Value.none from r); rfl
 | bl b=>cases (show u=Value.bool b from r); rfl
 | int i=>obtain⟨t,e⟩:=(show ∃ t,u=Value.int i t from r); cases e; rfl
 | str x=>obtain⟨t,e⟩:=(show ∃ t,u=Value.str x t from r); cases e; rfl
 | byt b=>obtain⟨t,e⟩:=(show ∃ t,u=Value.bytes b t from r); cases e; rfl
 | flt b=>obtain⟨t,e⟩:=(show ∃ t,u=Value.float b t from r); cases e; rfl
 | ref a=>cases (show u=Value.ref a from r); rfl
 | ty n=>cases (show u=Value.type n from r); rfl
section
variable {P:Program}{H H':Hp}{fs fs':List (Str×V)}
theorem WI (hok:HOk P w H h) (e:H a=some (.ins C dx fs)):∃ mA,ObjM h a dx C mA/\(∀ f,RelO (fs.lookup f) (mA f))/\PySem.Within mA (fs.map (·.1))/\fs.length<=1000/\H dx=some (.own a):=by
 obtain⟨d,z,ne,ob,mA,n,r,q⟩:=(show ObjOk P w H h a (.ins C dx fs) from hok a _ e);exact⟨mA,⟨ob,n,ne⟩,r,q,z,d⟩
end
structure Cls (K:W.Frag) (C:Addr):Prop where
 pg:W.plainGet K C Str.empty=true
 hd:W.hasDictIn K C=true
 po:W.plainOver K C=true
 sa:W.findIn K (.ref C) "__setattr__"=some (some (.builtin "object.__setattr__"))
theorem Cls.get (c:Cls K C) (f:Str):W.plainGet K C f=true:=c.pg
def NoAttr (K:W.Frag) (C:Addr) (f:Str):Prop:=W.findIn K (.ref C) f=some none
theorem NoAttr.taker {f:Str} (n:NoAttr K C f):W.takerIn K C f=some none:=by
 unfold W.takerIn;rw[show W.findIn K (.ref C) f=some none from n];rfl
structure Meth (K:W.Frag) (C:Addr) (m:Str) (f:Addr):Prop where
 at_:W.findIn K (.ref C) m=some (some (.ref f))
 fn:W.isFn K (.ref f)=true
 kp:W.keepIn K (.ref f)=true
section
variable {X:Cx}{σ:St}{H:Hp}{fs:List (Str×V)}{f:Str}{v:V} 
theorem jbR {b:Bool} (I:Inv X pins σ H s) (e:H a=some (.ins C dx fs)) (c:Cls X.K C) (n:NoAttr X.K C f) (l:fs.lookup f=some v)
  (h:∀ u s',Inv X pins σ H s'->RelV v u->Q u s'):wpAny (model X.prog X.w) A (getAttr (.ref a) f b) Q E s:=by
 obtain⟨mA,O,r,_,_,_⟩:=WI I.hok e;obtain⟨u,hu,ru⟩:=RelO.some_of (v:=v) (o:=mA f) (by rw[<- l]; exact r f);exact jhJ I.kIn O (c.get f) c.hd n hu (YU ru) (h u _ (I.tok _) ru)
theorem QO {m:Str}{g:Addr}{Q:Value×List Value->Shared->Prop} (I:Inv X pins σ H s) (e:H a=some (.ins C dx fs)) (c:Cls X.K C) (k:Meth X.K C m g) (l:fs.lookup m=none)
  (h:Q (.ref g,[.ref a]) s):wpAny (model X.prog X.w) A (getMethod (.ref a) m pl) Q E s:=by
 obtain⟨mA,O,r,_,_,_⟩:=WI I.hok e;have hn:mA m=none:=RelO.none_of (by rw[<- l]; exact r m);exact jfw I.kIn O (c.get m) k.at_ k.fn hn h
theorem jbS {y:V}{Q:Unit->Shared->Prop} (I:Inv X pins σ H s) (e:H a=some (.ins C dx fs)) (c:Cls X.K C) (n:NoAttr X.K C f) (hl:fs.length<1000) (ry:RelV y u)
  (h:∀ s',Inv X pins σ (upd H a (.ins C dx (QM f y fs))) s'->Q () s'):wpAny (model X.prog X.w) A (setAttr (.ref a) f u) Q E s:=by
 obtain⟨mA,O,r,wi,_,ho⟩:=WI I.hok e;have hz:(fs.map (·.1)).length<=sizeLine:=by rw[Xr,wa]; omega
 refine jhK I.kIn O c.sa c.po n.taker c.hd wi hz fun h' O' sb=>h _ ?_;have hd:∃ o,h'.get? dx=some o:=let ⟨o,_,_,e',_⟩:=O'.ns; ⟨o,e'⟩;refine I.write (x:=a) (e:=dx) (by rw[e]; exact True.intro) (.inr ho) (fun b q hb z=>(sb.2 b hb).trans z) hd ?_;refine⟨by rw[jM O.ne]; exact ho,?_,O.ne,O'.obj,_,O'.ns,fun g=>?_,fun g hg=>?_⟩
 ·have:=JQ f y fs; omega
 ·show RelO ((QM f y fs).lookup g) (if g=f then some u else mA g);rw[jF];by_cases q:g=f
  ·rw[if_pos q,if_pos q]; exact ry
  ·rw[if_neg q,if_neg q]; exact r g
 ·by_cases q:g=f
  ·rw[q]; exact (GT f y fs).1
  ·refine(GT f y fs).2 g (wi g fun z=>hg ?_);show (if g=f then some u else mA g)=none;rw[if_neg q]; exact z
theorem Inv.made (I:Inv X pins σ H s):Inv X pins σ (upd (upd H s.heap.objs.size (.own (s.heap.objs.size+1))) (s.heap.objs.size+1) (.ins C s.heap.objs.size []))
  { s with heap:=(s.heap.push W.emptyDict).push (W.instObj C s.heap.objs.size) }:=by
 have e1:(s.heap.push W.emptyDict).get? s.heap.objs.size=some W.emptyDict:=Xn s.heap rfl;have e2:((s.heap.push W.emptyDict).push (W.instObj C s.heap.objs.size)).get? (s.heap.objs.size+1)=some (W.instObj C s.heap.objs.size):=by
  have:=Xn (s.heap.push W.emptyDict) (o:=W.instObj C s.heap.objs.size) rfl
  rwa [wf] at this
 have e3:(s.heap.push W.emptyDict).Ns s.heap.objs.size (fun _=>none):=⟨W.emptyDict,#[],_,e1,rfl,(fun e he=>absurd he (by simp)),fun _=>rfl⟩;have I1:=I.laid (a:=s.heap.objs.size) (o:=.own (s.heap.objs.size+1)) (h':=s.heap.push W.emptyDict) (t':=s.toks) (fun b u q=>Xc _ q) (Xh _) ⟨_,e1⟩;refine I1.laid (a:=s.heap.objs.size+1) (o:=.ins C s.heap.objs.size []) (t':=s.toks) (fun b u q=>Xc _ q) (Nat.le_of_eq (wf _ _)) ?_;have ne:s.heap.objs.size≠s.heap.objs.size+1:=XA (Nat.lt_succ_self _);refine⟨by rw[jM ne,jV],wH _,ne,e2,fun _=>none,(Heap.Ns1.of_empty e3).at fun o q=>Xc _ q,fun _=>True.intro,fun y hy=>absurd rfl hy⟩
theorem jdb {f:Str} (hb:attributeBase e f env (eval e env)=eval e env)
  (h:wpAny (model prog w) A (eval e env) (fun o s₁=>wpAny (model prog w) A (getAttr o f true) Q E s₁) E s):wpAny (model prog w) A (eval (.Attribute e f pos) env) Q E s:=
 Attribute_any_ h (by rw[arm_eval_Attribute,hb])
end
def jjk (K:W.Frag) (ta:TE) (f:Str):TE:=fun σ H Q=>ta σ H fun x H1=>∃ a C dx fs v,x=.ref a/\H1 a=some (.ins C dx fs)/\Cls K C/\NoAttr K C f/\fs.lookup f=some v/\Q v H1
def jkT (K:W.Frag) (ta tv:TE) (f:Str):TS:=fun D σ H=>tv σ H fun y H1=>ta σ H1 fun x H2=>∃ a C dx fs,x=.ref a/\H2 a=some (.ins C dx fs)/\Cls K C/\NoAttr K C f/\fs.length<1000 /\
 D.nx σ (upd H2 a (.ins C dx (QM f y fs)))
section
variable {X:Cx}{o:Expr}{f:Str}{ta tv:TE}
theorem xC (he:PE X e ta) (hb:attributeBase e f X.env (eval e X.env)=eval e X.env):PE X (.Attribute e f pos) (jjk X.K ta f):=by
 intro pins s σ H Q I h;refine jdb hb (thn (he pins s σ H _ I h) fun u s1 ⟨x,H1,I1,rx,a,C,dx,fs,v,ex,ea,c,n,l,q⟩=>?_);subst ex;obtain rfl:u=Value.ref a:=rx;exact jbR I1 ea c n l fun u' s2 I2 ru=>⟨v,H1,I2,ru,q⟩
theorem UO (ha:PE X o ta) (hv:PE X value tv) (hs:swapsWith value (some (.Attribute o f pos')) pos.line X.env=pure false):PS X (.Assign [.Attribute o f pos'] value pos) (jkT X.K ta tv f):=by
 intro pins s σ H D I h;refine plainObj_wpAny_Assign_Attribute (thn (hv pins s σ H _ I h) fun u s1 ⟨y,H1,I1,ry,q⟩=>thn (ha pins s1 σ H1 _ I1 q) fun ov s2 ⟨x,H2,I2,rx,a,C,dx,fs,ex,ea,c,n,l,q2⟩=>?_) hs;subst ex;obtain rfl:ov=Value.ref a:=rx;exact jbS I2 ea c n l ry fun s3 I3=>⟨σ,_,I3,q2⟩
end
section
variable {X:Cx}{σ:St}{H:Hp}{c:Value}{b:Bool}
inductive TyOf (K:W.Frag) (H:Hp):V->Value->Prop where
 | non:TyOf K H .non (.type "NoneType")
 | bl (x:Bool):TyOf K H (.bl x) (.type "bool")
 | int (i:Int):TyOf K H (.int i) (.type "int")
 | str (x:Str):TyOf K H (.str x) (.type "str")
 | flt (x:UInt64):TyOf K H (.flt x) (.type "float")
 | lst {a:Addr}{xs:List V} (e:H a=some (.lst xs)):TyOf K H (.ref a) (.type "list")
 | frz {a:Addr}{o:Obj}{xs:List V} (e:H a=some (.frz o (.lst xs))):TyOf K H (.ref a) (.type "list")
 | tup {a:Addr}{xs:List V} (e:H a=some (.tup xs)):TyOf K H (.ref a) (.type "tuple")
 | dK {a:Addr}{kvs:List (Key×V)} (e:H a=some (.dK kvs)):TyOf K H (.ref a) (.type "dict")
 | dT {a:Addr}{fl:Bool}{kvs:List (List Key×V)} (e:H a=some (.dT fl kvs)):TyOf K H (.ref a) (.type "dict")
 | ins {a C dx:Addr}{fs:List (Str×V)} (e:H a=some (.ins C dx fs)) (cl:Cls K C) (ha:W.findIn K (.ref C) "__class__"=some (some (.builtin "object.__class__")))
   (hn:W.specialIn K (.builtin "object.__class__") "__get__"=some (some (.builtin "getset_descriptor.__get__"))) (htk:W.takesIn K (.builtin "object.__class__")=some true)
   (hm:W.mroIn K C (.type "object")=some true):TyOf K H (.ref a) (.ref C)
theorem jdc {x:V}{t:Value} (I:Inv X pins σ H s) (rx:RelV x u) (ty:TyOf X.K H x t) (e:W.kitOne X.K t c=some b) (h:∀ tk,Q (.bool b) { s with toks:=tk }) :
  wpAny (model X.prog X.w) A (call (.builtin "isinstance") [u,c]) Q E s:=by
 cases ty with
 | non=>cases (show u=Value.none from rx); exact wv W.kitx_none I.kIn True.intro e (fun z=>nomatch z) h
 | bl y=>cases (show u=Value.bool y from rx); exact wv W.kitx_bool I.kIn True.intro e (fun z=>nomatch z) h
 | int i=>obtain⟨t,q⟩:=(show ∃ t,u=Value.int i t from rx); cases q; exact wv W.kitx_int I.kIn True.intro e (fun z=>nomatch z) h
 | str y=>obtain⟨t,q⟩:=(show ∃ t,u=Value.str y t from rx); cases q; exact wv W.kitx_str I.kIn True.intro e (fun z=>nomatch z) h
 | flt y=>obtain⟨t,q⟩:=(show ∃ t,u=Value.float y t from rx); cases q; exact wv W.kitx_float I.kIn True.intro e (fun z=>nomatch z) h
 | @lst a xs ea=>
  cases (show u=Value.ref a from rx);obtain⟨_,_,n,_,h1⟩:=(show ObjOk X.prog X.w H s.heap a (.lst xs) from I.hok a _ ea);exact wv W.kitx_list I.kIn ⟨_,h1,rfl⟩ e (fun z=>nomatch z) h
 | @frz a ob xs ea=>
  cases (show u=Value.ref a from rx);obtain⟨_,_,_,n,_,h1⟩:=(show ObjOk X.prog X.w H s.heap a (.frz ob (.lst xs)) from I.hok a _ ea);exact wv W.kitx_list I.kIn ⟨_,h1,rfl⟩ e (fun z=>nomatch z) h
 | @tup a xs ea=>
  cases (show u=Value.ref a from rx);obtain⟨_,_,_,p⟩:=(show ObjOk X.prog X.w H s.heap a (.tup xs) from I.hok a _ ea);obtain⟨o,h1,h2,_⟩:=p;exact wv W.kitx_tuple I.kIn ⟨o,h1,h2.1⟩ e (fun z=>nomatch z) h
 | @dK a kvs ea=>
  cases (show u=Value.ref a from rx);obtain⟨_,_,vs,_,p⟩:=(show ObjOk X.prog X.w H s.heap a (.dK kvs) from I.hok a _ ea);obtain⟨o,es,ep,h1,h2,_⟩:=p;exact wv W.kitx_dict I.kIn ⟨o,h1,h2.1⟩ e (fun z=>nomatch z) h
 | @dT a fl kvs ea=>
  cases (show u=Value.ref a from rx);obtain⟨_,_,xs,_,o,es,ep,h1,h2,_⟩:=(show ObjOk X.prog X.w H s.heap a (.dT fl kvs) from I.hok a _ ea);exact wv W.kitx_dict I.kIn ⟨o,h1,h2.1⟩ e (fun z=>nomatch z) h
 | @ins a C dx fs ea cl ha hn htk hm=>
  cases (show u=Value.ref a from rx);obtain⟨mA,O,_⟩:=WI I.hok ea;obtain⟨od,J,_⟩:=O.look;exact wv (W.kitx_own (cl.get _) cl.hd ha hn htk hm) I.kIn J e (fun z=>nomatch z) h
end
structure Room (k:Nat) (A:Around):Prop where
 hd:A.handled=none
 dp:A.depth+3 * k+5<recursionLimit
 un:A.units+16 * k+200<cLine
 gd:A.guards=some []
theorem Room.mono {k:Nat} (r:Room k A) (h:j<=k):Room j A:=⟨r.hd,by have:=r.dp; omega,by have:=r.un; omega,r.gd⟩
theorem Room.deeper {k:Nat} (r:Room (k+1) A) (env:Env):Room k (A.deeper env):=
 ⟨r.hd,by have:=r.dp; show A.depth+1+3 * k+5<_; omega,by have:=r.un; show A.units+3+16 * k+200<_; omega,r.gd⟩
theorem jbT:(A.under (.builtin "type.__call__" ⟨.ref C::us,kw⟩)).depth=A.depth+1:=by
 first | rfl | simp[Around.under,Code.weight,Code.isCreation,Code.isGuard,Code.isCaller,Code.frames,Code.isFrame,guardIds]
theorem jbU:(A.under (.builtin "type.__call__" ⟨.ref C::us,kw⟩)).units=A.units+1:=by
 first | rfl | simp[Around.under,Code.cUnits,Code.frames,Code.isFrame]
theorem Z8:(A.under (.builtin "type.__call__" ⟨.ref C::us,kw⟩)).guards=A.guards:=by
 cases A with
 | mk a b c d e=>cases d <;> rfl
theorem Room.make {k:Nat} (r:Room (k+1) A) (C:Addr) (us:List Value) (kw:List (Str×Value)):Room k (A.under (.builtin "type.__call__" ⟨.ref C::us,kw⟩)):=
 ⟨r.hd,by have:=r.dp; rw[jbT]; omega,by have:=r.un; rw[jbU]; omega,(Z8).trans r.gd⟩
theorem Room.depth {k:Nat} (r:Room k A):A.depth<recursionLimit:=by have:=r.dp; omega
def xb:TA:=fun _ H Q=>Q [] H
def jJ (ta:TE) (tr:TA):TA:=fun σ H Q=>ta σ H fun x H1=>tr σ H1 fun xs H2=>Q (x::xs) H2
section
variable {X:Cx}{te:TE}{t:TA} 
theorem jl:PA X [] xb:=fun _ _ _ _ H Q I h=>Calls.spliced_nil ⟨[],H,I,.nil,h⟩
theorem jc (ha:PE X e te) (hr:PA X es t) (hs:starEach (e::es) X.env=(false,eval e X.env)::starEach es X.env:=by rfl):PA X (e::es) (jJ te t):=by
 intro pos pins s σ H Q I h;rw[hs];show wpAny _ _ (spliced ((false,eval e X.env)::backTo pos (starEach es X.env))) _ _ s;refine Calls.spliced_cons (thn (ha pins s σ H _ I h) fun u s1 ⟨x,H1,I1,r1,q1⟩=>?_);exact thn (hr pos pins s1 σ H1 _ I1 q1) fun us s2 ⟨xs,H2,I2,r2,q2⟩=>⟨x::xs,H2,I2,.cons r1 r2,q2⟩
def jg8 (t:TA):TE:=fun σ H Q=>t σ H fun xs H1=>xs.length<=sizeLine/\∀ p,H1 p=none->Q (.ref p) (upd H1 p (.tup xs))
def jlt (t:TA):TE:=fun σ H Q=>t σ H fun xs H1=>xs.length<=sizeLine/\∀ p,H1 p=none->Q (.ref p) (upd H1 p (.lst xs))
theorem xH {x1} (h:PA X es t):PE X (.Tuple es x1 pos) (jg8 t):=by
 intro pins s σ H Q I hq;refine wpAny_Tuple_spliced (thn (h pos pins s σ H _ I hq) fun us s1 ⟨xs,H1,I1,r,z,q⟩=>⟨by rw[<- r.length]; exact z,?_⟩);have hf:H1 s1.heap.objs.size=none:=I1.hok.fresh (Xh _);refine⟨.ref s1.heap.objs.size,upd H1 s1.heap.objs.size (.tup xs),I1.laid (t':=s1.toks) (fun b u e=>Xc _ e) (Xh _) ?_,rfl,q _ hf⟩;exact⟨z,us,r,TupO.new _ _⟩
theorem xj (h:PA X es t):PE X (.List es pos) (jlt t):=by
 intro pins s σ H Q I hq;refine wpAny_List_spliced (thn (h pos pins s σ H _ I hq) fun us s1 ⟨xs,H1,I1,r,z,q⟩=>⟨by rw[<- r.length]; exact z,?_⟩);have hf:H1 s1.heap.objs.size=none:=I1.hok.fresh (Xh _);refine⟨.ref s1.heap.objs.size,upd H1 s1.heap.objs.size (.lst xs),I1.laid (t':=s1.toks) (fun b u e=>Xc _ e) (Xh _) ?_,rfl,q _ hf⟩;exact⟨z,us,0,r,Xn _ rfl⟩
end
abbrev Sp:=List V->Hp->VK->XK->Prop
abbrev CXT:=List Env->Hp->Shared->XK->Value->Shared->Prop
structure Env0 (P:Program) (w:World) (K:W.Frag) (mg:Str->Option Value) (base:Heap) (A:Around) (outer:List Env) (s:Shared) (H:Hp):Prop where
 frames:A.frames=some outer
 mod:Mod K mg base
 bs:∀ b o,base.get? b=some o->s.heap.get? b=some o/\H b=none
 bsz:base.objs.size<=s.heap.objs.size
 funs:s.heap.FunFrames base outer
 frf:∀ b∈frs outer,H b=none
 hok:HOk P w H s.heap
 bare:AllBare s.gens
def CE (outer:List Env) (P:Program) (w:World) (H:Hp) (s:Shared) (Q:VK) (u:Value) (s':Shared):Prop:=
 ∃ v H',s'.os=s.os/\AllBare s'.gens/\Un (frs outer) [] H H' s.heap s'.heap/\HOk P w H' s'.heap/\RelV v u/\Q v H'
def CR (CX:CXT) (outer:List Env) (P:Program) (w:World) (H:Hp) (s:Shared) (Q:VK) (E:XK) (r:Result) (s':Shared):Prop:=
 match r with
 | .ok (.ret u)=>CE outer P w H s Q u s'
 | .ok _=>False
 | .error e=>CX outer H s E e s'
structure FnOk (P:Program) (w:World) (K:W.Frag) (mg:Str->Option Value) (base:Heap) (CX:CXT) (k:Nat) (f:Addr) (fd:FuncData) (ps:List Str) (sp:Sp):Prop where
 len:∀ vs H Q E,sp vs H Q E->vs.length=ps.length
 run:∀ (A:Around) (outer:List Env) (s:Shared) (H:Hp) (args:Args) (us:List Value) (vs:List V) (Q:VK) (E:XK),Room k A->Env0 P w K mg base A outer s H->BindsTo s fd args (ps.zip us)->Vals vs us->sp vs H Q E ->
  codeAny (model P w) A (.call (.ref f) args) (CR CX outer P w H s Q E) s
theorem FnOk.mono {P:Program}{CX:CXT}{k:Nat}{f:Addr}{sp:Sp} (F:FnOk P w K mg base CX j f fd ps sp) (h:j<=k) :
  FnOk P w K mg base CX k f fd ps sp:=⟨F.len,fun A outer s H args us vs Q E hr=>F.run A outer s H args us vs Q E (hr.mono h)⟩
theorem Env0.make {P:Program}{H:Hp} (e:Env0 P w K mg base A outer s H) (C:Addr) (us:List Value) (kw:List (Str×Value)) :
  Env0 P w K mg base (A.under (.builtin "type.__call__" ⟨.ref C::us,kw⟩)) outer s H:=⟨by first | exact e.frames | (simpa [Around.under,Code.envs,Code.isFrame,pushEnvs] using e.frames),e.mod,e.bs,e.bsz,e.funs,e.frf,e.hok,e.bare⟩
section
variable {X:Cx}{σ:St}{H:Hp} 
theorem Inv.env0 (I:Inv X pins σ H s):Env0 X.prog X.w X.K X.mg X.base X.A X.stack s H:=
 ⟨I.ok.frames,I.ok.mod,I.bs,X6 I.ok.bsz I.sz,I.stack,I.stkFree,I.hok,I.bare⟩
theorem Inv.after {Q:VK} (I:Inv X pins σ H s) (h:CE X.stack X.prog X.w H s Q u s'):EP X pins σ Q u s':=by
 obtain⟨v,H',os,bare,un,hok,r,q⟩:=h;obtain⟨hh,g,d,t,os'⟩:=s';obtain rfl:os'=s.os:=os;exact⟨v,H',I.call (h':=hh) (g':=g) (d':=d) (t':=t) (ch:=[]) un hok bare (fun b z=>absurd z (by simp)),r,q⟩
end
def JR (sp:Sp) (dvs:List V) (E:XK) (t:TA):TE:=fun σ H Q=>t σ H fun vs H1=>sp (vs++dvs) H1 Q E
def VS (C:Addr) (m:Str) (sp:Sp) (dvs:List V) (E:XK) (ta:TE) (t:TA):TE:=fun σ H Q=>ta σ H fun x H1=>∃ a dx fs,x=.ref a/\H1 a=some (.ins C dx fs)/\fs.lookup m=none /\
 t σ H1 fun vs H2=>sp (x::(vs++dvs)) H2 Q E
def jfy (C:Addr) (sp:Sp) (dvs:List V) (E:XK) (t:TA):TE:=fun σ H Q=>t σ H fun vs H1=>∀ x dx,H1 x=none->H1 dx=none->dx≠x ->
 sp (.ref x::(vs++dvs)) (upd (upd H1 dx (.own x)) x (.ins C dx [])) (fun v H2=>v=.non/\Q (.ref x) H2) E
def Binds (K:W.Frag) (fd:FuncData) (ps:List Str) (ds:List Value):Prop:=
 ∀ (s:Shared) (us:List Value),K.In s.heap->(us++ds).length=ps.length->BindsTo s fd ⟨us,[]⟩ (ps.zip (us++ds))
theorem Binds.all (h:∀ us:List Value,us.length=ps.length->bindArgs fd ⟨us,[]⟩=pure (ps.zip us)):Binds K fd ps []:=fun s us _ hl=>by
 rw[wM] at hl ⊢;exact .of_eq (h us hl)
def UP (CX:CXT) (X:Cx) (E:XK):Prop:=∀ (pins:List (Addr×Obj)) (σ:St) (H:Hp) (s:Shared) (e:Value) (s':Shared),Inv X pins σ H s->CX X.stack H s E e s'->X.xe e s'
section
variable {X:Cx}{CX:CXT}{k:Nat}{f:Addr}{sp:Sp}{dvs:List V}{ds:List Value}{E:XK}{m:Str}{o:Expr}{ta:TE}{t:TA}
theorem jdd {σ:St}{H:Hp}{Q:VK}{vs:List V} (F:FnOk X.prog X.w X.K X.mg X.base CX k f fd ps sp) (hr:Room k X.A) (hb:Binds X.K fd ps ds) (hd:Vals dvs ds) (hx:UP CX X E)
  (I:Inv X pins σ H s) (r:Vals vs us) (h:sp (vs++dvs) H Q E):wpAny (model X.prog X.w) X.A (call (.ref f) us) (EP X pins σ Q) X.xe s:=by
 have r2:Vals (vs++dvs) (us++ds):=r.append hd;have hl:(us++ds).length=ps.length:=by rw[<- r2.length]; exact F.len _ _ _ _ h
 refine wpAny_call (codeAny_mono (F.run X.A X.stack s H ⟨us,[]⟩ (us++ds) (vs++dvs) Q E hr I.env0 (hb s us I.kIn hl) r2 h) fun r s' hq=>?_);cases r with
 | error e=>exact hx pins σ H s e s' I hq
 | ok fl=>
  cases fl with
  | ret u=>exact I.after hq
  | next=>exact False.elim hq
  | brk=>exact False.elim hq
  | cont=>exact False.elim hq
theorem jhL (F:FnOk X.prog X.w X.K X.mg X.base CX k f fd ps sp) (hr:Room k X.A) (hg:Gl X x) (hm:X.mg x=some (.ref f)) (hk:W.keepIn X.K (.ref f)=true) (hb:Binds X.K fd ps ds) (hd:Vals dvs ds) (hx:UP CX X E)
  (ha:PA X (e::es) t) (hdb:(x==("__debug__":Str))=false:=by decide) (he:starEach (e::es) X.env=(false,eval e X.env)::starEach es X.env:=by rfl) (hpl:(backTo pos (starEach es X.env)).any (·.1)=false:=by rfl) :
  PE X (.Call (.Name x p) (e::es) [] pos) (JR sp dvs E t):=by
 intro pins s σ H Q I h;refine wpAny_Call_Name_kw (zV I hg hm ?_ hdb);refine W.callWith_K (h₀:=X.base) I.ok.mod.kin hk (thn (ha pos pins s σ H _ I h) fun us s1 ⟨vs,H1,I1,r,q⟩=>⟨I1.kIn,?_⟩) he hpl;exact jdd F hr hb hd hx I1 r q
theorem jhM (he:PE X o ta) (c:Cls X.K C) (hm:Meth X.K C m f) (F:FnOk X.prog X.w X.K X.mg X.base CX k f fd ps sp) (hr:Room k X.A) (hb:Binds X.K fd ps ds) (hd:Vals dvs ds) (hx:UP CX X E) (ha:PA X (e::es) t)
  (hst:starEach (e::es) X.env=(false,eval e X.env)::starEach es X.env:=by rfl) (hpl:(backTo pos (starEach es X.env)).any (·.1)=false:=by rfl)
  (ht:eval (.Call (.Attribute o m apos) (e::es) [] pos) X.env=(do
   let ov <- eval o X.env
   standAt apos.atName
   let (f,first) <- holding [ov] (getMethod ov m pl)
   callWith pos f first (backTo pos (starEach (e::es) X.env)) (backToKw pos (keywordEach [] X.env))):=by rfl) :
  PE X (.Call (.Attribute o m apos) (e::es) [] pos) (VS C m sp dvs E ta t):=by
 intro pins s σ H Q I h;refine W.methodCall_KW (pl:=pl) (thn (he pins s σ H _ I h) fun u s1 ⟨x,H1,I1,rx,a,dx,fs,ex,ea,l,q⟩=>?_) ht;subst ex;obtain rfl:u=Value.ref a:=rx;refine QO I1 ea c hm l ?_;refine W.callWith_K (first:=[.ref a]) (h₀:=X.base) I.ok.mod.kin hm.kp (thn (ha pos pins s1 σ H1 _ I1 q) fun us s2 ⟨vs,H2,I2,r,q2⟩=>⟨I2.kIn,?_⟩) hst hpl;exact jdd (us:=.ref a::us) (vs:=.ref a::vs) F hr hb hd hx I2 (.cons rfl r) q2
theorem jfz (he:PE X o ta) (c:Cls X.K C) (hm:Meth X.K C m f) (F:FnOk X.prog X.w X.K X.mg X.base CX k f fd ps sp) (hr:Room k X.A) (hb:Binds X.K fd ps ds) (hd:Vals dvs ds) (hx:UP CX X E)
  (ht:eval (.Call (.Attribute o m apos) [] [] pos) X.env=(do
   let ov <- eval o X.env
   standAt apos.atName
   let (f,first) <- holding [ov] (getMethod ov m pl)
   callWith pos f first (backTo pos (starEach [] X.env)) (backToKw pos (keywordEach [] X.env))):=by rfl) :
  PE X (.Call (.Attribute o m apos) [] [] pos) (VS C m sp dvs E ta xb):=by
 intro pins s σ H Q I h;refine W.methodCall_KW (pl:=pl) (thn (he pins s σ H _ I h) fun u s1 ⟨x,H1,I1,rx,a,dx,fs,ex,ea,l,q⟩=>?_) ht;subst ex;obtain rfl:u=Value.ref a:=rx;refine QO I1 ea c hm l ?_;exact W.callWith_K0 (first:=[.ref a]) I1.kIn hm.kp (jdd (us:=[.ref a]) (vs:=[.ref a]) F hr hb hd hx I1 (.cons rfl .nil) q)
structure Mk (K:W.Frag) (C f:Addr):Prop where
 makes:W.makesIn K C=true
 init:W.findIn K (.ref C) "__init__"=some (some (.ref f))
 fn:W.isFn K (.ref f)=true
 kp:W.keepIn K (.ref C)=true
theorem jfA {σ:St}{H:Hp}{Q:VK}{vs:List V} (M:Mk X.K C f) (F:FnOk X.prog X.w X.K X.mg X.base CX k f fd ps sp) (hr:Room (k+1) X.A) (hb:Binds X.K fd ps ds) (hd:Vals dvs ds)
  (hx:UP CX X E) (I:Inv X pins σ H s) (r:Vals vs us)
  (h:∀ x dx,H x=none->H dx=none->dx≠x->sp (.ref x::(vs++dvs)) (upd (upd H dx (.own x)) x (.ins C dx [])) (fun v H2=>v=.non/\Q (.ref x) H2) E) :
  wpAny (model X.prog X.w) X.A (call (.ref C) us) (EP X pins σ Q) X.xe s:=by
 have hq:=h (s.heap.objs.size+1) s.heap.objs.size (I.hok.fresh (wy _)) (I.hok.fresh (Xh _)) (XA (Nat.lt_succ_self _));have I2:=Inv.made (C:=C) I;have r2:Vals (V.ref (s.heap.objs.size+1)::(vs++dvs)) (Value.ref (s.heap.objs.size+1)::(us++ds)):=.cons rfl (r.append hd);have hl:(Value.ref (s.heap.objs.size+1)::us++ds).length=ps.length:=by
  have e:=r2.length;rw[F.len _ _ _ _ hq] at e;exact e.symm
 refine wpAny_call (jfx (f:=f) I.kIn M.makes M.init (wj.mp M.fn) (codeAny_mono (F.run _ X.stack _ _ ⟨Value.ref (s.heap.objs.size+1)::us,[]⟩ (Value.ref (s.heap.objs.size+1)::(us++ds)) _ _ E (hr.make C us [])
  (I2.env0.make C us []) (hb _ (Value.ref (s.heap.objs.size+1)::us) I2.kIn hl) r2 hq) fun r s' hq'=>?_))
 cases r with
 | error e=>exact hx pins σ _ _ e s' I2 hq'
 | ok fl=>
  cases fl with
  | ret u=>
   obtain⟨v,H',I3,rv,ev,q3⟩:=I2.after hq';subst ev;exact⟨rv,⟨V.ref (s.heap.objs.size+1),H',I3,rfl,q3⟩⟩
  | next=>exact False.elim hq'
  | brk=>exact False.elim hq'
  | cont=>exact False.elim hq'
theorem jhN (M:Mk X.K C f) (F:FnOk X.prog X.w X.K X.mg X.base CX k f fd ps sp) (hr:Room (k+1) X.A) (hg:Gl X x) (hm:X.mg x=some (.ref C)) (hb:Binds X.K fd ps ds) (hd:Vals dvs ds) (hx:UP CX X E)
  (ha:PA X (e::es) t) (hdb:(x==("__debug__":Str))=false:=by decide) (he:starEach (e::es) X.env=(false,eval e X.env)::starEach es X.env:=by rfl) (hpl:(backTo pos (starEach es X.env)).any (·.1)=false:=by rfl) :
  PE X (.Call (.Name x p) (e::es) [] pos) (jfy C sp dvs E t):=by
 intro pins s σ H Q I h;refine wpAny_Call_Name_kw (zV I hg hm ?_ hdb);refine W.callWith_K (h₀:=X.base) I.ok.mod.kin M.kp (thn (ha pos pins s σ H _ I h) fun us s1 ⟨vs,H1,I1,r,q⟩=>⟨I1.kIn,?_⟩) he hpl;exact jfA M F hr hb hd hx I1 r q
end
structure FnScope (N P:List Str) (sc:Scope):Prop where
 kind:sc.kind=.function
 co:sc.isCoroutine=false
 gen:sc.isGenerator=false
 nd:N.Nodup
 pre:N.take P.length=P
 par:∀ x∈P,sc.names.lookup x=some .local \/ sc.names.lookup x=some .cell
 nofree:∀ y∈sc.names,y.2≠.free
theorem YV:∀ {binds:List (Str×Value)}{m:Str->Option Value},(∀ v,(x,v)∉binds)->bindL kindOf binds m x=m x
 | [],_,_=>rfl
 | (n,v)::r,m,h=>by
  unfold bindL;rw[YV fun w hw=>h w (Xf _ hw)];split
  ·have:x≠n:=by rintro rfl; exact h v Xi
   simp[this]
  ·rfl
theorem YW:∀ {binds:List (Str×Value)}{m:Str->Option Value},(∀ v,(x,v)∉binds)->bindC kindOf binds m x=m x
 | [],_,_=>rfl
 | (n,v)::r,m,h=>by
  unfold bindC;rw[YW fun w hw=>h w (Xf _ hw)];split
  ·rfl
  ·have:x≠n:=by rintro rfl; exact h v Xi
   simp[this]
theorem YX {kindOf:Str->Option NameKind}{x:Str}{v:Value}:∀ {P:List Str}{vs:List Value}{i:Nat}{m:Str->Option Value},P.Nodup->P[i]?=some x->vs[i]?=some v->kindOf x=some .local ->
  bindL kindOf (P.zip vs) m x=some v
 | [],_,_,_,_,h,_,_=>by simp at h
 | _::_,[],_,_,_,_,h,_=>by simp at h
 | p::P,w::vs,0,m,nd,h1,h2,hk=>by
  simp at h1 h2; subst h1; subst h2;show bindL kindOf ((p,w)::P.zip vs) m p=_;unfold bindL;rw[YV fun v hv=>(List.nodup_cons.mp nd).1 (List.of_mem_zip hv).1,if_pos hk];simp
 | p::P,w::vs,i+1,m,nd,h1,h2,hk=>by
  show bindL kindOf ((p,w)::P.zip vs) m x=_;unfold bindL;exact YX (i:=i) (List.nodup_cons.mp nd).2 (by simpa using h1) (by simpa using h2) hk
theorem YY {kindOf:Str->Option NameKind}{x:Str}{v:Value}:∀ {P:List Str}{vs:List Value}{i:Nat}{m:Str->Option Value},P.Nodup->P[i]?=some x->vs[i]?=some v->kindOf x≠some .local ->
  bindC kindOf (P.zip vs) m x=some v
 | [],_,_,_,_,h,_,_=>by simp at h
 | _::_,[],_,_,_,_,h,_=>by simp at h
 | p::P,w::vs,0,m,nd,h1,h2,hk=>by
  simp at h1 h2; subst h1; subst h2;show bindC kindOf ((p,w)::P.zip vs) m p=_;unfold bindC;rw[YW fun v hv=>(List.nodup_cons.mp nd).1 (List.of_mem_zip hv).1,if_neg hk];simp
 | p::P,w::vs,i+1,m,nd,h1,h2,hk=>by
  show bindC kindOf ((p,w)::P.zip vs) m x=_;unfold bindC;exact YY (i:=i) (List.nodup_cons.mp nd).2 (by simpa using h1) (by simpa using h2) hk
def zF (N:List Str) (vs:List V):St:=vs.map some++List.replicate (N.length-vs.length) none
def Z2 (CX:CXT) (P:Program) (w:World) (K:W.Frag) (mg:Str->Option Value) (base:Heap) (N:List Str) (qual:Str) (scope:Scope) (f:Addr) (cd:Value) (A:Around) (outer:List Env) (s:Shared) (H:Hp) (E:XK):Cx where
 prog:=P
 w:=w
 K:=K
 mg:=mg
 base:=base
 A:=A.deeper (envOfC qual scope s.heap.objs.size f cd)
 N:=N
 s₀:=s
 H₀:=H
 env:=envOfC qual scope s.heap.objs.size f cd
 outer:=outer
 stack:=envOfC qual scope s.heap.objs.size f cd::outer
 ex:=[]
 calm:=true
 fn:=fun _=>true
 pn:=[]
 xe:=fun e s'=>wpAny (model P w) (A.deeper (envOfC qual scope s.heap.objs.size f cd)) (leaving (envOfC qual scope s.heap.objs.size f cd) e) (fun _ s''=>CX outer H s E e s'') (fun e' s''=>CX outer H s E e' s'') s'
theorem jbb (h:sc.names.lookup x=some .cell):∃ c,(cellsFrom n sc.names []).lookup x=some c:=by
 have q:=W.cellsFrom_some sc.names n [] (.inl h);exact Option.isSome_iff_exists.mp q
theorem YZ {CX:CXT}{P:Program}{f:Addr}{cd:Value}{s1:Shared}{H:Hp}{E:XK}{vs:List V}
  (S:FnScope N ps scope) (hd:A.handled=none) (e0:Env0 P w K mg base A outer s H) (hl:vs.length=ps.length) (r:Vals vs us)
  (x:InCallC s s.heap.objs.size (bindL (envOfC qual scope s.heap.objs.size f cd).kindOf (ps.zip us) fun _=>none) (cellsFrom (s.heap.objs.size+1) scope.names []) (bindC (envOfC qual scope s.heap.objs.size f cd).kindOf (ps.zip us) fun _=>none) s1) :
  Inv (Z2 CX P w K mg base N qual scope f cd A outer s H E) [] (zF N vs) H s1:=by
 have hpl:ps.length<=N.length:=by have:=congrArg List.length S.pre; rw[wT] at this; omega
 obtain⟨h1,tk,rfl,hk⟩:=x.done;have noA:∀ b:Addr,b∉(Z2 CX P w K mg base N qual scope f cd A outer s H E).ex:=fun b z=>absurd (show b∈([]:List Addr) from z) (by simp);refine⟨⟨e0.mod,S.kind,rfl,rfl,Xh _,fun y z c h1 h2=>?_,fun y hy=>?_,fun y c _ h=>?_,fun _=>hd,Around.frames_deeper e0.frames,.inr ⟨rfl,rfl⟩,fun b z=>absurd z (noA b),e0.bs,e0.bsz,fun b _ _=>noA b,fun b z=>absurd z (noA b),e0.funs,e0.frf⟩,
  rfl,e0.bare,Un.kept hk,⟨_,x.toInCall.ns,fun i y v h1 h2 h3=>?_⟩,fun y c h=>⟨_,x.cell y c h⟩,e0.hok.fresh (Xh _),fun y c h=>?_,fun p hp=>absurd (show p∈([]:List (Addr×Obj)) from hp) (by simp),e0.hok.kept hk,?_⟩
 ·exact name_of_addr x.apart (wC h1) (wC h2)
 ·have hy:scope.names.lookup y=some .cell \/ scope.names.lookup y=some .free:=hy;rcases hy with hy | hy
  ·exact jbb hy
  ·exact absurd rfl (S.nofree _ (wC hy))
 ·exact wG (x.above y c (wC h))
 ·have hi:i<vs.length:=by
   unfold zF at h2;by_cases hi:i<vs.length
   ·exact hi
   ·rw[List.getElem?_append_right (by simpa using hi)] at h2;rw[List.getElem?_replicate] at h2;split at h2 <;> cases h2
  have ha:vs[i]?=some v:=by
   unfold zF at h2;rw[List.getElem?_append_left (by simpa using hi),Xy] at h2;cases e:vs[i]? with
   | none=>rw[e] at h2; cases h2
   | some a=>rw[e] at h2; cases h2; rfl
  obtain⟨u,hu,rv⟩:=r.get ha;have hp:ps[i]?=some y:=by
   rw[<- S.pre,List.getElem?_take_of_lt (by omega)]; exact h1
  have ndP:ps.Nodup:=by rw[<- S.pre]; exact S.nd.sublist (List.take_sublist _ _)
  refine⟨u,rv,?_⟩;rcases S.par y (XG hp) with k | k
  ·exact .inl ⟨k,YX ndP hp hu k⟩
  ·obtain⟨c,e⟩:=jbb (n:=s.heap.objs.size+1) k;refine .inr ⟨.inl k,c,e,?_⟩;have q:=x.cell y c e;rw[YY ndP hp hu (by show scope.names.lookup y≠_; rw[k]; decide)] at q;exact q
 ·exact e0.hok.fresh (wG (x.above y c (wC h)))
 ·unfold zF;show _=N.length;rw[Xj,Xr,List.length_replicate];omega
theorem jjl {CX:CXT}{P:Program}{k:Nat}{f:Addr}{params:Arguments}{dV kV ct:Value}{od:Option Addr}
  {sp:Sp} (lk:K.lookup f=some ⟨oc,od,.func (W.fnOf name qual params body scope dV kV doc pm an cdv ct),osl⟩) (hcd:W.codeIn K cdv qual=true) (S:FnScope N ps scope)
  (len:∀ vs H Q E,sp vs H Q E->vs.length=ps.length)
  (hbody:∀ (A:Around) (outer:List Env) (s:Shared) (H:Hp) (vs:List V) (Q:VK) (E:XK),Room k (A.deeper (envOfC qual scope s.heap.objs.size f cdv))->sp vs H Q E ->
   ∃ t,PSs (Z2 CX P w K mg base N qual scope f cdv A outer s H E) body t/\t { nx:=fun _ H'=>Q .non H',rt:=Q } (zF N vs) H) :
  FnOk P w K mg base CX (k+1) f (W.fnOf name qual params body scope dV kV doc pm an cdv ct) ps sp:=by
 refine⟨len,fun A outer s H args us vs Q E hr e0 hb r hsp=>?_⟩;have hl:=len _ _ _ _ hsp;have KX:K.In s.heap:=e0.mod.kin.keeps fun b o e=>(e0.bs b o e).1;have lim:s.heap.NoLimit:=e0.mod.nolimit.keeps fun b o e=>(e0.bs b o e).1;have hkind:∀ y∈ps.zip us,scope.names.lookup y.1=some .local \/ (scope.names.lookup y.1=some .cell/\((cellsFrom (s.heap.objs.size+1) scope.names []).lookup y.1).isSome=true):=fun⟨n,v⟩ hy=>by
  rcases S.par n (List.of_mem_zip hy).1 with q | q
  ·exact .inl q
  ·exact .inr ⟨q,W.cellsFrom_some _ _ _ (.inl q)⟩
 refine codeAny_call_function hr.depth (KX _ _ lk) rfl S.co S.gen rfl (W.codeRec_of KX hcd) (hb _ _ _ _ ?_);refine wpAny_newFunctionEnv_cells S.kind hkind fun env he s1 x=>?_;subst he;refine⟨lim.keeps x.toInCall.keep,codeAny_func ?_⟩;obtain⟨t,ht,hq⟩:=hbody A outer s H vs Q E (hr.deeper _) hsp;have I:Inv (Z2 CX P w K mg base N qual scope f cdv A outer s H E) [] (zF N vs) H s1:=YZ S hr.hd e0 hl r x;refine wg (ht [] s1 (zF N vs) H _ I hq) (fun fl s' hs=>?_) fun e s' hs=>hs;have fin:∀ {σ':St}{H':Hp}{v:V}{u:Value},Inv (Z2 CX P w K mg base N qual scope f cdv A outer s H E) [] σ' H' s'->RelV v u->Q v H'->CE outer P w H s Q u s':=
  fun {σ' H' v u} J rv q=>⟨v,H',J.os,J.bare,J.base,J.hok,rv,q⟩
 cases fl with
 | ret u=>
  obtain⟨v,σ',H',J,rv,q⟩:=hs;exact fin J rv q
 | next=>
  obtain⟨σ',H',J,q⟩:=hs;exact fin (v:=V.non) (u:=Value.none) J rfl q
 | brk=>
  obtain⟨_,_,_,q⟩:=hs;exact False.elim q
 | cont=>
  obtain⟨_,_,_,q⟩:=hs;exact False.elim q
section
variable {X:Cx}{t:TA}{id T:String}{r:List V->Hp->VK->Prop}
def tCB (r:List V->Hp->VK->Prop) (t:TA):TE:=fun σ H Q=>t σ H fun vs H1=>r vs H1 Q
theorem xK (hc:GN X (.builtin id) r) (hg:Gl X x) (hm:X.mg x=none) (hv:bootBuiltins x=some (.builtin id)) (ha:PA X (e::es) t) (hn:x≠"__name__":=by decide) (hdb:(x==("__debug__":Str))=false:=by decide)
  (he:starEach (e::es) X.env=(false,eval e X.env)::starEach es X.env:=by rfl) (hpl:(backTo pos (starEach es X.env)).any (·.1)=false:=by rfl):PE X (.Call (.Name x p) (e::es) [] pos) (tCB r t):=by
 intro pins s σ H Q I h;refine wpAny_Call_Name_kw (Q9 I hg hm hv ?_ hn hdb);exact PyProof.Rows.callWith_builtin1 (thn (ha pos pins s σ H _ I h) fun us s1 ⟨vs,H1,I1,r1,q1⟩=>hc pins s1 σ H1 vs us Q I1 r1 q1) he hpl
theorem jde (hc:GN X (.type T) r) (hg:Gl X x) (hm:X.mg x=none) (hv:bootBuiltins x=some (.type T)) (ha:PA X (e::es) t) (hn:x≠"__name__":=by decide) (hdb:(x==("__debug__":Str))=false:=by decide)
  (he:starEach (e::es) X.env=(false,eval e X.env)::starEach es X.env:=by rfl) (hpl:(backTo pos (starEach es X.env)).any (·.1)=false:=by rfl):PE X (.Call (.Name x p) (e::es) [] pos) (tCB r t):=by
 intro pins s σ H Q I h;refine wpAny_Call_Name_kw (Q9 I hg hm hv ?_ hn hdb);exact wP (thn (ha pos pins s σ H _ I h) fun us s1 ⟨vs,H1,I1,r1,q1⟩=>hc pins s1 σ H1 vs us Q I1 r1 q1) he hpl
end
end L2
variable {σ:L2.St}{xs ys:List L2.V}{H H' H1 F1 Fe He F':L2.Hp}{X:L2.Cx}{ta tb te tc tv td t1 t2 t3 ty ts:L2.TE}{D:L2.Ends}{wi:L2.TI}{CX:L2.CXT}{sp sp':L2.Sp}{J:L2.It}{tr:L2.TA}{G:L2.Hp->L2.Hp->Prop}{u':L2.TS}{kvs:List (List L2.Key×L2.V)}
namespace HT
open PySem PyProof.Rows
section
theorem cat_tup {t b:Addr} (ht:IsTup s.heap t vs.toArray) (hb:IsTup s.heap b ws.toArray) (hv:vs≠[])
  (h1:ws=[]->Q (.ref t) s) (h2:ws≠[]->Q (.ref s.heap.objs.size) { s with heap:=s.heap.push { cls:=.type "tuple",data:=.seq (vs++ws).toArray } })
  (hsz:vs.length+ws.length<=sizeLine):wpAny (model prog w) A (binaryOp .Add (.ref t) (.ref b)) Q E s:=by
 obtain⟨⟨cls,dd,data,sl⟩,ho,hc,n,hd⟩:=id ht;obtain⟨⟨cls2,dd2,data2,sl2⟩,ho2,hc2,n2,hd2⟩:=id hb;simp only at hc hd hc2 hd2;subst hc hd hc2 hd2;have e:vs.toArray++ws.toArray=(vs++ws).toArray:=by simp
 by_cases hw:ws=[]
 ·exact concat_meets ⟨_,ho,rfl⟩ ⟨_,ho2,rfl⟩ noFill_tuple_add seq_tuple_add PySem.F.slot_tuple_add PySem.F.entry_tuple_add (PySem.F.args_tuple_add_2 _ _)
   (tuple_addW1 t b vs.toArray ws.toArray n n2 dd dd2 sl sl2 (by simpa using hv) (by simp[hw])) ⟨ho,ho2,h1 hw⟩
 ·refine concat_meets ⟨_,ho,rfl⟩ ⟨_,ho2,rfl⟩ noFill_tuple_add seq_tuple_add PySem.F.slot_tuple_add PySem.F.entry_tuple_add (PySem.F.args_tuple_add_2 _ _)
   (tuple_addW2 t b vs.toArray ws.toArray n n2 dd dd2 sl sl2 (by simpa using hv) (by simpa using hw) (by rw[List.size_toArray,List.size_toArray]; exact hsz)) ⟨ho,ho2,?_⟩
  rw[e];exact h2 hw
def sIx (n d:Nat):Option Int->Nat
 | none=>d
 | some v=>if v<0 then (v+(n:Int)).toNat else min v.toNat n
theorem sIx_none (n d:Nat):sIx n d none=d:=rfl
theorem sIx_nat (n d k:Nat):sIx n d (some (k:Int))=min k n:=by
 show (if (k:Int)<0 then ((k:Int)+(n:Int)).toNat else min (k:Int).toNat n)=min k n;rw[if_neg (by omega),Int.toNat_natCast]
theorem jjm (n d:Nat) (hd:d<=n) (o:Option Int):sIx n d o<=n:=by
 cases o with
 | none=>exact hd
 | some v=>
  show (if v<0 then (v+(n:Int)).toNat else min v.toNat n)<=n;by_cases hv:v<0
  ·rw[if_pos hv]; omega
  ·rw[if_neg hv]; exact Nat.min_le_right _ _
theorem jdf (v:Int) (n d:Nat):(if v<0 then max (v+(n:Int)) 0 else min v (n:Int))=((sIx n d (some v):Nat):Int):=by
 show (if v<0 then max (v+(n:Int)) 0 else min v (n:Int))=(((if v<0 then (v+(n:Int)).toNat else min v.toNat n):Nat):Int);by_cases hv:v<0
 ·simp only[if_pos hv]; omega
 ·simp only[if_neg hv]; omega
theorem jbV (lo hi:Option Int) (n:Nat):Builtin.Slice.sliceAdjust lo hi 1 (n:Int)=(((sIx n 0 lo:Nat):Int),((sIx n n hi:Nat):Int)):=by
 have h1:¬ ((1:Int)<0):=by omega
 unfold Builtin.Slice.sliceAdjust;simp only[h1,if_false];refine Prod.ext ?_ ?_
 ·cases lo with
  | none=>rfl
  | some v=>exact jdf v n 0
 ·cases hi with
  | none=>rfl
  | some v=>exact jdf v n n
theorem jbW (i j:Nat):Builtin.Slice.slicePlaces (i:Int) (j:Int) 1=j-i:=by
 unfold Builtin.Slice.slicePlaces;have h1:(1:Int) > 0:=by omega
 simp only[h1,if_true,Int.ediv_one];split <;> omega
theorem Wd {o:Option Int}{Q:Option Int->Shared->Prop} (p:IsPart v o) (h:Q o s):wpAny (model prog w) A (Builtin.Slice.slicePartIndex v) Q E s:=by
 cases p with
 | none=>exact slicePart_none h
 | int i t=>exact slicePart_int h
theorem GC {sl:Addr}{Q:Int×Int×Nat->Shared->Prop} (hs:s.heap.IsSliceOf sl vl vu .none) (pl:IsPart vl lo) (pu:IsPart vu hi)
  (h:Q (((sIx n 0 lo:Nat):Int),1,sIx n n hi-sIx n 0 lo) s):wpAny (model prog w) A (Builtin.Slice.sliceApplied (.ref sl) (pure (n:Int))) Q E s:=by
 obtain⟨os,hos,hcs,hds⟩:=id hs;unfold Builtin.Slice.sliceApplied Builtin.Slice.sliceFields;refine wpAny_bind (wpAny_bind (wpAny_field hos hds (x:=vl) rfl (wpAny_bind (wpAny_field hos hds (x:=vu) rfl (wpAny_bind (wpAny_field hos hds (x:=.none) rfl (wpAny_pure ?_)))))));refine wpAny_bind (slicePart_none ?_);show wpAny _ _ (if ((1:Int)==0)=true then _ else _) _ _ s;rw[if_neg (by decide)];refine wpAny_bind (Wd pl (wpAny_bind (Wd pu (wpAny_bind (wpAny_pure ?_)))));show wpAny _ _ (match Builtin.Slice.sliceAdjust lo hi 1 (n:Int) with | (lo,hi)=>pure (lo,(1:Int),Builtin.Slice.slicePlaces lo hi 1)) _ _ s
 rw[jbV lo hi n];show wpAny _ _ (pure (((sIx n 0 lo:Nat):Int),(1:Int),Builtin.Slice.slicePlaces ((sIx n 0 lo:Nat):Int) ((sIx n n hi:Nat):Int) 1)) _ _ s;rw[jbW];exact wpAny_pure h
theorem jfB (xs:Array Value) (i k:Nat):((List.range k).filterMap fun (m:Nat)=>xs[((i:Int)+(m:Int) * 1).toNat]?).toArray=((xs.toList.drop i).take k).toArray:=by
 have e:(fun (m:Nat)=>xs[((i:Int)+(m:Int) * 1).toNat]?)=fun m=>xs[i+m]?:=by
  funext m
  have:((i:Int)+(m:Int) * 1).toNat=i+m:=by omega
  rw[this]
 rw[e];have:=pick_run xs i k;rw[List.filterMap_map] at this;have e2:((fun x=>xs[x]?) ∘ fun x=>i+x)=fun m=>xs[i+m]?:=rfl;rw[e2] at this;rw[this]
theorem getItem_tuple_cut {t sl:Addr} (ht:IsTup s.heap t items) (hs:s.heap.IsSliceOf sl vl vu .none) (pl:IsPart vl lo) (pu:IsPart vu hi)
  (hw:¬ (sIx items.size 0 lo=0/\sIx items.size items.size hi=items.size))
  (h:Q (.ref s.heap.objs.size) { s with heap:=s.heap.push { cls:=.type "tuple",data:=.seq ((items.toList.drop (sIx items.size 0 lo)).take (sIx items.size items.size hi-sIx items.size 0 lo)).toArray } })
  (hsz:items.size<=sizeLine):wpAny (model prog w) A (getItem (.ref t) (.ref sl)) Q E s:=by
 have htake:sizeOk (.seq ((items.toList.drop (sIx items.size 0 lo)).take (sIx items.size items.size hi-sIx items.size 0 lo)).toArray):=by
  show ((items.toList.drop (sIx items.size 0 lo)).take (sIx items.size items.size hi-sIx items.size 0 lo)).toArray.size<=sizeLine;rw[List.size_toArray,List.length_take,List.length_drop,Array.length_toList];omega
 have hj:sIx items.size items.size hi<=items.size:=jjm _ _ (Nat.le_refl _) hi;obtain⟨os,hos,hcs,hds⟩:=id hs;have hTs:s.TypeIs (.ref sl) "slice":=⟨os,hos,hcs⟩;unfold getItem
 try with_reducible refine wpAny_holding ?_
 first | refine wpAny_bind (wpAny_pure ?_) | skip
 refine wpAny_bind (wpAny_sequenceKey ht.typeIs (by decide) ?_);refine wpAny_bind (wpAny_callSpecial?_slot (name:=Str.ofString "__getitem__") ht.typeIs PyProof.Rows.slot_tuple_getitem
  (wpAny_call_entry PyProof.Rows.slot_tuple_getitem ht.typeIs entry_tuple_getitem ?_ (args_tuple_getitem _ _)))
 show wpAny _ _ (Builtin.Tuple.tupleItemsOf (.ref t) >>= _) _ _ s;refine wpAny_bind (tupleItemsOf_ ht ?_);refine wpAny_bind (wpAny_typeOf hTs ?_);rw[if_pos (by decide)];refine wpAny_bind (GC hs pl pu ?_);have hno:¬ ((((sIx items.size 0 lo:Nat):Int)==0&&(1:Int)==1&&(sIx items.size items.size hi-sIx items.size 0 lo)==items.size)=true):=by
  intro q;rw[Bool.and_eq_true,Bool.and_eq_true] at q;have q1:((sIx items.size 0 lo:Nat):Int)=0:=eq_of_beq q.1.1;have q2:sIx items.size items.size hi-sIx items.size 0 lo=items.size:=eq_of_beq q.2;exact hw ⟨by omega,by omega⟩
 show wpAny _ _ (if (((sIx items.size 0 lo:Nat):Int)==0&&(1:Int)==1&&(sIx items.size items.size hi-sIx items.size 0 lo)==items.size)=true then _ else _) _ _ s;rw[if_neg hno,jfB]
 first
  | exact wpAny_bind (m:=Builtin.Tuple.tupleExact _) (wpAny_newObj_type (wpAny_pure ⟨_,rfl,wpAny_pure h⟩) htake)
  | exact wpAny_bind (m:=Builtin.Tuple.tupleExact _) (wpAny_newObj_type (wpAny_bind (wpAny_pure (wpAny_pure ⟨_,rfl,wpAny_pure h⟩))) htake)
  | exact wpAny_bind (wpAny_bind (m:=Builtin.Tuple.tupleExact _) (wpAny_newObj_type (wpAny_pure (wpAny_pure ⟨_,rfl,wpAny_pure h⟩)) htake))
  | exact wpAny_bind (wpAny_bind (m:=Builtin.Tuple.tupleExact _) (wpAny_newObj_type (wpAny_pure ⟨_,rfl,wpAny_pure h⟩) htake))
end
end HT
namespace L2
open PySem PySem.Spec PyProof.Rows
abbrev TO:=St->Hp->(Option Int->Hp->Prop)->Prop
def PO (X:Cx) (e:Option Expr) (t:TO):Prop:=
 ∀ (pins:List (Addr×Obj)) (s:Shared) (σ:St) (H:Hp) (Q:Option Int->Hp->Prop),Inv X pins σ H s->t σ H Q ->
  wpAny (model X.prog X.w) X.A (evalPart e X.env) (fun u s'=>∃ o H',Inv X pins σ H' s'/\IsPart u o/\Q o H') X.xe s
def jdg:TO:=fun _ H Q=>Q none H
def jfC (t:TE):TO:=fun σ H Q=>t σ H fun x H1=>∃ i,x=.int i/\Q (some i) H1
theorem yP:∀ {us:List Value},Vals (ns.map V.int) us->IntsAre us ns:=by
 induction ns with
 | nil=>intro us r; rw[List.map_nil] at r; cases r; exact .nil
 | cons n ns ih=>
  intro us r;rw[X8] at r;cases r with
  | cons r1 r2=>
   obtain⟨t,e⟩:=r1;subst e;exact .cons n t (ih r2)
section
variable {lo hi:Option Expr}{tl th:TO}{p2:Pos}
theorem xO:PO X none jdg:=by
 intro pins s σ H Q I h;rw[evalPart_none];exact Xb ⟨none,H,I,.none,h⟩
theorem xP (h:PE X e te):PO X (some e) (jfC te):=by
 intro pins s σ H Q I hw;rw[evalPart_some];refine thn (h pins s σ H _ I hw) fun u s1 ⟨x,H1,I1,r1,q1⟩=>?_;obtain⟨i,rfl,q⟩:=q1;obtain⟨t,rfl⟩:=r1;exact⟨some i,H1,I1,.int i t,q⟩
def SlR (X:Cx) (r:V->Option Int->Option Int->Hp->VK->Prop):Prop:=
 ∀ (pins:List (Addr×Obj)) (s:Shared) (σ:St) (H:Hp) (x:V) (v vl vu:Value) (lo hi:Option Int) (sl:Addr) (Q:VK),Inv X pins σ H s->RelV x v->s.heap.IsSliceOf sl vl vu .none->IsPart vl lo->IsPart vu hi->r x lo hi H Q ->
  ∃ T id,typeLookup (.type T) "__getitem__"=pure (some (.builtin id))/\s.TypeIs v T/\wpAny (model X.prog X.w) X.A (getItem v (.ref sl)) (EP X pins σ Q) X.xe s
def tSl (r:V->Option Int->Option Int->Hp->VK->Prop) (te:TE) (tl th:TO):TE:=fun σ H Q=>te σ H fun x H1=>tl σ H1 fun l H2=>th σ H2 fun u H3=>r x l u H3 Q
theorem qV {r:V->Option Int->Option Int->Hp->VK->Prop} (hr:SlR X r) (he:PE X e te) (hl:PO X lo tl) (hu:PO X hi th):PE X (.Subscript e (.Slice lo hi none p2) pos) (tSl r te tl th):=by
 intro pins s σ H Q I h;refine Subscript_ (thn (he pins s σ H _ I h) fun v s1 ⟨x,H1,I1,r1,q1⟩=>?_);refine wpAny_Slice (thn (hl pins s1 σ H1 _ I1 q1) fun vl s2 ⟨l,H2,I2,pl,q2⟩=>thn (hu pins s2 σ H2 _ I2 q2) fun vu s3 ⟨u,H3,I3,pu,q3⟩=>?_);rw[evalPart_none];refine Xb ?_;have I4:Inv X pins σ H3 { s3 with heap:=s3.heap.push { cls:=.type "slice",data:=.fields #[vl,vu,.none] } }:=I3.kept (t':=s3.toks) fun b ob q=>Xc _ q
 obtain⟨T,id,hT,ht,hg⟩:=hr pins { s3 with heap:=s3.heap.push { cls:=.type "slice",data:=.fields #[vl,vu,.none] } } σ H3 x v vl vu l u s3.heap.objs.size Q I4 r1 (Heap.IsSliceOf.new ..) pl pu q3
 show wpAny (model X.prog X.w) X.A (subscriptTail e (.Slice lo hi none p2) v (.ref s3.heap.objs.size)) (EP X pins σ Q) X.xe { s3 with heap:=s3.heap.push { cls:=.type "slice",data:=.fields #[vl,vu,.none] } }
 exact tail_any (ops:=[.ref s3.heap.objs.size,v]) ht hT hg (by with_unfolding_all rfl)
def jfD (xs:List V) (lo hi:Option Int):List V:=(xs.drop (HT.sIx xs.length 0 lo)).take (HT.sIx xs.length xs.length hi-HT.sIx xs.length 0 lo)
theorem UQ (xs:List V) (lo hi:Option Int):(jfD xs lo hi).length<=xs.length:=by
 unfold jfD;rw[wT,wF];omega
def jlN (K:W.Frag):V->Option Int->Option Int->Hp->VK->Prop:=fun x lo hi H Q=>∃ a xs,x=.ref a/\SqT K H a xs /\
 ¬ (HT.sIx xs.length 0 lo=0/\HT.sIx xs.length xs.length hi=xs.length)/\∀ p,H p=none->Q (.ref p) (upd H p (.tup (jfD xs lo hi)))
theorem jjn:SlR X (jlN X.K):=by
 intro pins s σ H x v vl vu lo hi sl Q I rx hs pl pu h;obtain⟨a,xs,rfl,hx,hw,q⟩:=h;cases rx;obtain⟨its,r,ht,hz⟩:=I.tuple hx;have hlen:its.toArray.size=xs.length:=by rw[Xq]; exact r.length.symm
 refine⟨"tuple",_,PyProof.Rows.slot_tuple_getitem.lookup,ht.typeIs,?_⟩;refine HT.getItem_tuple_cut ht hs pl pu (by rw[hlen]; exact hw) ?_ (by rw[hlen]; exact hz);rw[hlen];refine⟨.ref s.heap.objs.size,_,I.laid (t':=s.toks) (o:=.tup (jfD xs lo hi)) (fun b ob q=>Xc _ q) (Xh _) ?_,rfl,q _ (I.hok.fresh (Xh _))⟩;exact⟨X6 (UQ xs lo hi) hz,_,(r.drop (HT.sIx xs.length 0 lo)).take (HT.sIx xs.length xs.length hi-HT.sIx xs.length 0 lo),TupO.new _ _⟩
def jkU (K:W.Frag):R2:=fun x y H Q=>∃ a b xs ys,x=.ref a/\y=.ref b/\SqT K H a xs/\SqT K H b ys/\xs≠[]/\xs.length+ys.length<=sizeLine /\
 (ys=[]->Q (.ref a) H)/\(ys≠[]->∀ p,H p=none->Q (.ref p) (upd H p (.tup (xs++ys))))
theorem Vals.nil_iff (r:Vals xs us):us=[] ↔ xs=[]:=by
 cases r with
 | nil=>simp
 | cons _ _=>simp
theorem jhO:OpR X (binaryOp .Add) (jkU X.K):=by
 intro pins s σ H x y v u Q I rx ry h;obtain⟨a,b,xs,ys,rfl,rfl,ha,hb,hx,hz,q1,q2⟩:=h;cases rx;cases ry;obtain⟨its,r1,p1,_⟩:=I.tuple ha;obtain⟨its2,r2,p2,_⟩:=I.tuple hb;refine HT.cat_tup p1 p2 (fun z=>hx (r1.nil_iff.mp z)) (fun z=>⟨.ref a,H,I,rfl,q1 (r2.nil_iff.mp z)⟩) (fun z=>?_) (by rw[<- r1.length,<- r2.length]; exact hz);refine⟨.ref s.heap.objs.size,_,I.laid (t':=s.toks) (o:=.tup (xs++ys)) (fun b ob q=>Xc _ q) (Xh _) ?_,rfl,q2 (fun w=>z (r2.nil_iff.mpr w)) _ (I.hok.fresh (Xh _))⟩;exact⟨by rw[Xj]; exact hz,_,r1.append r2,TupO.new _ _⟩
end
def ixN (n:Nat) (i:Int):Option Nat:=if 0<=i then (if i<n then some i.toNat else none) else if -(n:Int)<=i then some (i+n).toNat else none
def atI (xs:List α) (i:Int):Option α:=(ixN xs.length i).bind fun j=>xs[j]?
theorem jdh {i:Int} (h:ixN n i=some j):seqIndex? i n=some j/\j<n/\-(n:Int)<=i/\i<n:=by
 unfold ixN at h;by_cases h0:0<=i
 ·rw[if_pos h0] at h;by_cases h1:i<n
  ·rw[if_pos h1] at h;have e:i.toNat=j:=Option.some.inj h;exact⟨by rw[seqIndex_of h0 h1,e],by omega,by omega,h1⟩
  ·rw[if_neg h1] at h; cases h
 ·rw[if_neg h0] at h;by_cases h1:-(n:Int)<=i
  ·rw[if_pos h1] at h;have e:(i+n).toNat=j:=Option.some.inj h;exact⟨by rw[seqIndex_neg (by omega) h1,e],by omega,h1,by omega⟩
  ·rw[if_neg h1] at h; cases h
theorem jdi {xs:List α}{i:Int}{v:α} (h:atI xs i=some v):∃ j,seqIndex? i xs.length=some j/\xs[j]?=some v/\j<xs.length/\-(xs.length:Int)<=i/\i<xs.length:=by
 unfold atI at h;cases e:ixN xs.length i with
 | none=>rw[e] at h; cases h
 | some j=>
  rw[e] at h;obtain⟨h1,h2,h3,h4⟩:=jdh e;exact⟨j,h1,h,h2,h3,h4⟩
theorem jhP {xs:List α}{v:α} (h:xs[j]?=some v):atI xs (j:Int)=some v:=by
 have hj:j<xs.length:=(List.getElem?_eq_some_iff.mp h).1;have e:ixN xs.length (j:Int)=some j:=by
  unfold ixN;rw[if_pos (by omega),if_pos (by omega)]; simp
 unfold atI; rw[e]; exact h
theorem jfE (xs:List α) (v:α):atI (xs++[v]) (-1)=some v:=by
 have hl:(xs++[v]).length=xs.length+1:=by simp
 have e:ixN (xs++[v]).length (-1)=some xs.length:=by
  unfold ixN;rw[hl,if_neg (by decide),if_pos (by omega)];congr 1;omega
 unfold atI;rw[e];show (xs++[v])[xs.length]?=some v;simp
def jdj (b:Expr):Prop:=∀ o i,subscripted b false o i=operate [o,i] (getItem o i)
def IxR (X:Cx) (r:R2):Prop:=
 ∀ (value slice:Expr) (pins:List (Addr×Obj)) (s:Shared) (σ:St) (H:Hp) (x y:V) (v u:Value) (Q:VK),Inv X pins σ H s->RelV x v->RelV y u->r x y H Q ->
  subscripted slice false v u=operate [v,u] (getItem v u)->wpAny (model X.prog X.w) X.A (subscriptTail value slice v u) (EP X pins σ Q) X.xe s
def MtR (X:Cx) (id:String) (r:V->List V->Hp->VK->Prop):Prop:=
 ∀ (pins:List (Addr×Obj)) (s:Shared) (σ:St) (H:Hp) (x:V) (xs:List V) (v:Value) (us:List Value) (Q:VK),Inv X pins σ H s->RelV x v->Vals xs us->r x xs H Q ->
  wpAny (model X.prog X.w) X.A (call (.builtin id) (v::us)) (EP X pins σ Q) X.xe s
section
variable {a b:Expr} 
theorem jkV {r:R2} (hr:IxR X r) (ha:PE X a ta) (hb:PE X b tb) (hs:jdj b):PE X (.Subscript a b pos) (tOp r ta tb):=by
 intro pins s σ H Q I h;exact Subscript_ (jkQ ha hb I h fun v u s2 x y H2 I2 rx ry q=>hr a b pins s2 σ H2 x y v u Q I2 rx ry q (hs _ _))
def jlu (K:W.Frag):R2:=fun x y H Q=>∃ p xs i v,x=.ref p/\y=.int i/\SqL K H p xs/\atI xs i=some v/\Q v H
def jlv (K:W.Frag):R2:=fun x y H Q=>∃ p xs i v,x=.ref p/\y=.int i/\SqT K H p xs/\atI xs i=some v/\Q v H
theorem yT:IxR X (jlu X.K):=by
 intro value slice pins s σ H x y v u Q I rx ry h hs;obtain⟨p,xs,i,z,rfl,rfl,hq,he,q⟩:=h;cases rx;obtain⟨t,rfl⟩:=ry;obtain⟨its,r,pl,hz⟩:=I.list hq;obtain⟨j,h1,h2,h3,h4,h5⟩:=jdi he;obtain⟨w,ew,rw'⟩:=r.get h2;have hl:=r.length;have hn:=jba;have fin:EP X pins σ Q w s:=⟨z,H,I,rw',q⟩;by_cases h0:0<=i
 ·have hj:i.toNat=j:=by
   rw[seqIndex_of h0 h5] at h1;exact Option.some.inj h1
  exact item_listR pl.isList h0 (by omega) (by rw[hj]; simpa using ew) fin hs
 ·have hj:(i+(its.toArray.size:Int)).toNat=j:=by
   rw[seqIndex_neg (by omega) h4] at h1;rw[Xq,<- hl];exact Option.some.inj h1
  exact subscriptTail_builtinR (x:=w) pl.isList.typeIs slot_list_getitem.lookup
   (wpAny_getItem_list_neg (Q:=fun r s'=>r=w/\EP X pins σ Q r s') pl.isList (by omega) (by rw[Xq] <;> omega) (by omega) (by rw[hj]; simpa using ew) ⟨rfl,fin⟩) hs
theorem GU:IxR X (jlv X.K):=by
 intro value slice pins s σ H x y v u Q I rx ry h hs;obtain⟨p,xs,i,z,rfl,rfl,hq,he,q⟩:=h;cases rx;obtain⟨t,rfl⟩:=ry;obtain⟨its,r,pl,hz⟩:=I.tuple hq;obtain⟨j,h1,h2,h3,h4,h5⟩:=jdi he;obtain⟨w,ew,rw'⟩:=r.get h2;have hl:=r.length;have hn:=jba;have fin:EP X pins σ Q w s:=⟨z,H,I,rw',q⟩;exact subscriptTail_builtinR (x:=w) pl.typeIs slot_tuple_getitem.lookup
  (getItem_tuple (j:=j) (Q:=fun r s'=>r=w/\EP X pins σ Q r s') pl (by omega) (by omega) (by rw[Xq,<- hl]; exact h1) (by simpa using ew) ⟨rfl,fin⟩) hs
theorem jbX (its:List Value) (n j:Nat) (u:Value):Obj.mapSeq (·.setIfInBounds j u) { cls:=.type "list",data:=.seq its.toArray n }={ cls:=.type "list",data:=.seq (its.set j u).toArray n }:=by
 simp[Obj.mapSeq]
theorem Inv.lst {p:Addr} (I:Inv X pins σ H s) (h:H p=some (.lst xs)) :
  ∃ (its:List Value) (n:Nat),Vals xs its/\s.heap.get? p=some { cls:=.type "list",data:=.seq its.toArray n }/\xs.length<=sizeLine:=by
 obtain⟨z,its,n,r,e⟩:=I.hok p _ h;exact⟨its,n,r,e,z⟩
theorem Inv.lstUpd {p:Addr}{n':Nat}{f:Obj->Obj} (I:Inv X pins σ H s) (h:H p=some (.lst xs))
  (ho:s.heap.get? p=some { cls:=.type "list",data:=.seq its.toArray n }) (hf:f { cls:=.type "list",data:=.seq its.toArray n }={ cls:=.type "list",data:=.seq its'.toArray n' }) (r:Vals ys its') (hz:ys.length<=sizeLine) (t:Nat) :
  Inv X pins σ (upd H p (.lst ys)) { s with heap:=s.heap.update p f,toks:=t }:=by
 have e:(s.heap.update p f).get? p=some { cls:=.type "list",data:=.seq its'.toArray n' }:=by
  rw[XZ f ho (by rw[hf] <;> rfl),hf]
 refine I.write (x:=p) (e:=p) (by rw[h]; trivial) (.inl rfl) (fun b u hb q=>(XH _ _ (Ne.symm hb)).trans q) ⟨_,e⟩ ?_;exact⟨hz,its',n',r,e⟩
def jfF:V->V->V->Hp->(Hp->Prop)->Prop:=fun o i v H Q=>∃ p xs k j,o=.ref p/\i=.int k/\H p=some (.lst xs)/\ixN xs.length k=some j/\Q (upd H p (.lst (xs.set j v)))
theorem jbc:jlr X jfF:=by
 intro pins s σ H o i v ov iv u Q I ro ri rv h;obtain⟨p,xs,k,j,rfl,rfl,hp,hj,q⟩:=h;cases ro;obtain⟨t,rfl⟩:=ri;obtain⟨its,n,r,ho,hz⟩:=I.lst hp;obtain⟨h1,h2,h3,h4⟩:=jdh hj;have hl:=r.length;have hn:=jba;have I':Inv X pins σ (upd H p (.lst (xs.set j v))) { s with heap:=s.heap.update p (Obj.mapSeq (·.setIfInBounds j u)) }:=
  I.lstUpd hp ho (jbX its n j u) (r.set rv j) (by rw[List.length_set]; exact hz) s.toks
 by_cases h0:0<=k
 ·have hk:k.toNat=j:=by
   rw[seqIndex_of h0 h4] at h1;exact Option.some.inj h1
  exact W.ki_setAt ho h0 (by omega) (by rw[Xq,<- hl]; exact h4) (by rw[hk]; exact ⟨_,I',q⟩)
 ·have hk:(k+(its.toArray.size:Int)).toNat=j:=by
   rw[seqIndex_neg (by omega) h3] at h1;rw[Xq,<- hl];exact Option.some.inj h1
  exact W.ki_setBack ho (by omega) (by rw[Xq,<- hl]; exact h3) (by omega) (by rw[hk]; exact ⟨_,I',q⟩)
theorem Y0 (lo hi:Option Int) (n:Nat):(sliceBounds lo hi none n).1=((HT.sIx n 0 lo:Nat):Int)/\(sliceBounds lo hi none n).2.1=((HT.sIx n n hi:Nat):Int)/\(sliceBounds lo hi none n).2.2=1:=by
 refine⟨?_,?_,rfl⟩
 ·cases lo with
  | none=>simp[sliceBounds,HT.sIx]
  | some i=>
   simp only[sliceBounds,HT.sIx,Option.getD_none,show (1:Int) > 0 by decide,if_true];by_cases h:i<0
   ·simp only[h,if_true] <;> omega
   ·simp only[h,wD] <;> omega
 ·cases hi with
  | none=>simp[sliceBounds,HT.sIx]
  | some i=>
   simp only[sliceBounds,HT.sIx,Option.getD_none,show (1:Int) > 0 by decide,if_true];by_cases h:i<0
   ·simp only[h,if_true] <;> omega
   ·simp only[h,wD] <;> omega
theorem WJ (its:List Value) (lo hi:Option Int):slicePick its.toArray lo hi none=((its.drop (HT.sIx its.length 0 lo)).take (HT.sIx its.length its.length hi-HT.sIx its.length 0 lo)).toArray:=by
 obtain⟨h1,h2,h3⟩:=Y0 lo hi its.toArray.size;unfold slicePick;rw[h1,h2,h3];simp only[sliceRange_one,pick_run,Xq] <;> rfl
def jjo (K:W.Frag):V->Option Int->Option Int->Hp->VK->Prop:=fun x lo hi H Q=>∃ a xs,x=.ref a/\SqL K H a xs/\∀ p,H p=none->Q (.ref p) (upd H p (.lst (jfD xs lo hi)))
theorem Z9:SlR X (jjo X.K):=by
 intro pins s σ H x v vl vu lo hi sl Q I rx hs pl pu h;obtain⟨a,xs,rfl,hx,q⟩:=h;cases rx;obtain⟨its,r,ht,hz⟩:=I.list hx;have hlen:=r.length;refine⟨"list",_,slot_list_getitem.lookup,ht.isList.typeIs,?_⟩;refine wpAny_getItem_list_slice ht.isList hs pl pu .none (by simp) ?_ (by rw[Xq] <;> omega);rw[WJ,<- hlen];refine⟨.ref s.heap.objs.size,_,I.laid (t':=s.toks) (o:=.lst (jfD xs lo hi)) (fun b ob q=>Xc _ q) (Xh _) ?_,rfl,q _ (I.hok.fresh (Xh _))⟩;exact⟨X6 (UQ xs lo hi) hz,_,0,(r.drop (HT.sIx xs.length 0 lo)).take (HT.sIx xs.length xs.length hi-HT.sIx xs.length 0 lo),Xn _ rfl⟩
def WK:V->Bool
 | .non=>true
 | .bl _=>true
 | .int _=>true
 | .str _=>true
 | _=>false
def eqV:V->V->Bool
 | .non,.non=>true
 | .bl a,.bl b=>a==b
 | .bl a,.int b=>(if a then 1 else 0)==b
 | .int a,.bl b=>a==(if b then 1 else 0)
 | .int a,.int b=>a==b
 | .str a,.str b=>a==b
 | _,_=>false
theorem jjp {y x:V} (ry:RelV y u) (rx:RelV x v) (fy:WK y=true) (fx:WK x=true):SeqAt.EqAt A s u v (eqV y x):=by
 cases y with
 | non=>
  cases ry;cases x with
  | non=>cases rx; exact SeqAt.EqAt.same _
  | bl b=>cases rx; exact SeqAt.EqAt.none_bool b
  | int b=>obtain⟨t,rfl⟩:=rx; exact SeqAt.EqAt.none_int b t
  | str b=>obtain⟨t,rfl⟩:=rx; exact SeqAt.EqAt.none_str b t
  | _=>exact absurd (show false=true from fx) Xw
 | bl a=>
  cases ry;cases x with
  | non=>cases rx; exact SeqAt.EqAt.bool_none a
  | bl b=>cases rx; exact SeqAt.EqAt.bool_bool a b
  | int b=>obtain⟨t,rfl⟩:=rx; exact SeqAt.EqAt.bool_int a b t
  | str b=>obtain⟨t,rfl⟩:=rx; exact SeqAt.EqAt.bool_str a b t
  | _=>exact absurd (show false=true from fx) Xw
 | int a=>
  obtain⟨t',rfl⟩:=ry;cases x with
  | non=>cases rx; exact SeqAt.EqAt.int_none a t'
  | bl b=>cases rx; exact SeqAt.EqAt.int_bool a t' b
  | int b=>obtain⟨t,rfl⟩:=rx; exact SeqAt.EqAt.int_int a t' b t
  | str b=>obtain⟨t,rfl⟩:=rx; exact SeqAt.EqAt.int_str a t' b t
  | _=>exact absurd (show false=true from fx) Xw
 | str a=>
  obtain⟨t',rfl⟩:=ry;cases x with
  | non=>cases rx; exact SeqAt.EqAt.str_none a t'
  | bl b=>cases rx; exact SeqAt.EqAt.str_bool a t' b
  | int b=>obtain⟨t,rfl⟩:=rx; exact SeqAt.EqAt.str_int a t' b t
  | str b=>obtain⟨t,rfl⟩:=rx; exact SeqAt.EqAt.str_str a t' b t
  | _=>exact absurd (show false=true from fx) Xw
 | _=>exact absurd (show false=true from fy) Xw
theorem jQ:GN X (.builtin "len") (fun xs H Q=>∃ p ys,xs=[.ref p]/\(SqL X.K H p ys \/ SqT X.K H p ys)/\Q (.int ys.length) H):=by
 intro pins s σ H xs us Q I r h;obtain⟨p,ys,rfl,hq,q⟩:=h;obtain⟨u,rfl,rx⟩:=WH r;cases rx;have hn:=jba;rcases hq with hq | hq
 ·obtain⟨its,r',pl,hz⟩:=I.list hq;have hlen:=r'.length;exact Calls.call_len_list pl.isList (by simp only[Xq] <;> omega) ⟨.int ys.length,H,I.tok _,⟨s.toks+1,by rw[Xq,hlen]⟩,q⟩
 ·obtain⟨its,r',pl,hz⟩:=I.tuple hq;have hlen:=r'.length;exact len_tuple pl (by simp only[Xq] <;> omega) ⟨.int ys.length,H,I.tok _,⟨s.toks+1,by rw[Xq,hlen]⟩,q⟩
theorem GV:GN X (.type "list") (fun xs H Q=>∃ p ys,xs=[.ref p]/\(SqL X.K H p ys \/ SqT X.K H p ys)/\∀ l,H l=none->Q (.ref l) (upd H l (.lst ys))):=by
 intro pins s σ H xs us Q I r h;obtain⟨p,ys,rfl,hq,q⟩:=h;obtain⟨u,rfl,rx⟩:=WH r;cases rx;have fin:∀ (its:List Value),Vals ys its->ys.length<=sizeLine->∀ (h':Heap) (c':Nat),(∀ b o',s.heap.get? b=some o'->h'.get? b=some o') ->
   h'.get? s.heap.objs.size=some { cls:=.type "list",dict:=none,data:=.seq its.toArray c',slots:=#[] }->EP X pins σ Q (.ref s.heap.objs.size) { s with heap:=h' }:=fun its r' hz h' c' kp e=>
  ⟨.ref s.heap.objs.size,_,I.laid (t':=s.toks) kp (Xh _) (show ObjOk X.prog X.w _ h' _ (.lst ys) from ⟨hz,its,c',r',e⟩),rfl,q _ (I.hok.fresh (Xh _))⟩
 rcases hq with hq | hq
 ·obtain⟨its,r',pl,hz⟩:=I.list hq;have hlen:=r'.length;obtain⟨o,ho,hc,n,hd⟩:=pl.isList;exact call_list_seq p (.inl rfl) ho hc hd (fun h' c' kp e=>fin its r' hz h' c' kp e) (by simp only[Xq] <;> omega)
 ·obtain⟨its,r',pl,hz⟩:=I.tuple hq;have hlen:=r'.length;obtain⟨o,ho,hc,n,hd⟩:=pl;exact call_list_seq p (.inr rfl) ho hc hd (fun h' c' kp e=>fin its r' hz h' c' kp e) (by simp only[Xq] <;> omega)
theorem x6:GN X (.type "tuple") (fun xs H Q=>∃ p ys,xs=[.ref p]/\((SqL X.K H p ys/\∀ l,H l=none->Q (.ref l) (upd H l (.tup ys))) \/ (SqT X.K H p ys/\Q (.ref p) H))):=by
 intro pins s σ H xs us Q I r h;obtain⟨p,ys,rfl,h⟩:=h;obtain⟨u,rfl,rx⟩:=WH r;cases rx;rcases h with⟨hq,q⟩ | ⟨hq,q⟩
 ·obtain⟨its,r',pl,hz⟩:=I.list hq;have hlen:=r'.length;refine call_tuple_list pl.isList (fun h' kp=>?_) (by simp only[Xq] <;> omega);have I1:Inv X pins σ H { s with heap:=h' }:=I.kept (t':=s.toks) kp
  have I2:Inv X pins σ (upd H h'.objs.size (.tup ys)) { s with heap:=h'.push { cls:=.type "tuple",data:=.seq its.toArray } }:=
   I1.laid (t':=s.toks) (fun b o e=>Xc _ e) (Xh _) (show ObjOk X.prog X.w _ _ _ (.tup ys) from ⟨hz,its,r',TupO.new _ _⟩)
  exact⟨.ref h'.objs.size,_,I2,rfl,q _ (I1.hok.fresh (Xh _))⟩
 ·obtain⟨its,r',pl,hz⟩:=I.tuple hq;exact call_tuple_same pl ⟨.ref p,H,I,rfl,q⟩
def tyV (K:W.Frag) (T:String) (x:V) (H:Hp):Prop:=match x with
 | .str _=>T="str"
 | .int _=>T="int"
 | .ref p=>(T="list"/\∃ xs,SqL K H p xs) \/ (T="tuple"/\∃ o,K.lookup p=some o/\o.cls=.type "tuple"/\o.dict=none) \/
   (T="dict"/\((∃ kvs,H p=some (.dK kvs)) \/ ∃ fl kvs,H p=some (.dT fl kvs))) \/ (T="set"/\∃ S n,H p=some (.set S n))
 | _=>False
theorem jg9 {T:String}{x:V} (I:Inv X pins σ H s) (r:RelV x v) (ty:tyV X.K T x H) :
  s.TypeIs v T/\∀ a,v=.ref a->∃ ob,s.heap.get? a=some ob/\ob.dict=none:=by
 cases x with
 | str z=>
  obtain⟨t,rfl⟩:=r;cases (show T="str" from ty);exact⟨typeIs_str s z t,fun _ e=>nomatch e⟩
 | int i=>
  obtain⟨t,rfl⟩:=r;cases (show T="int" from ty);exact⟨typeIs_int s i t,fun _ e=>nomatch e⟩
 | ref p=>
  cases r;rcases ty with⟨rfl,xs,hq⟩ | ⟨rfl,o,hk,hc,hd⟩ | ⟨rfl,hk⟩ | ⟨rfl,S,n,hk⟩
  ·obtain⟨its,_,pl,_⟩:=I.list hq;refine⟨pl.isList.typeIs,fun a e=>?_⟩;cases e;obtain⟨o,n,e,c,hd,_⟩:=pl;exact⟨o,e,hd⟩
  ·refine⟨⟨o,I.kIn p o hk,hc⟩,fun a e=>?_⟩;cases e;exact⟨o,I.kIn _ o hk,hd⟩
  ·have z:∃ o,s.heap.get? p=some o/\o.ExactDict:=by
    rcases hk with⟨kvs,hk⟩ | ⟨fl,kvs,hk⟩
    ·obtain⟨_,_,_,_,o,_,_,e,ex,_⟩:=I.hok p _ hk;exact⟨o,e,ex⟩
    ·obtain⟨_,_,_,_,o,_,_,e,ex,_⟩:=I.hok p _ hk;exact⟨o,e,ex⟩
   obtain⟨o,e,ex⟩:=z;refine⟨⟨o,e,ex.1⟩,fun a e2=>?_⟩;cases e2;exact⟨o,e,ex.2.1⟩
  ·obtain⟨o,_,_,_,e,ex,_⟩:=I.hok p _ hk;refine⟨⟨o,e,ex.1⟩,fun a e2=>?_⟩;cases e2;exact⟨o,e,ex.2.1⟩
 | _=>exact False.elim ty
def jkH (K:W.Frag) (T:String) (r:V->List V->Hp->VK->Prop) (to:TE):TE:=fun σ H Q=>to σ H fun x H1=>tyV K T x H1/\r x [] H1 Q
def tBM (K:W.Frag) (T:String) (r:V->List V->Hp->VK->Prop) (to:TE) (t:TA):TE:=fun σ H Q=>to σ H fun x H1=>tyV K T x H1/\t σ H1 fun xs H2=>r x xs H2 Q
variable {o:Expr}{to:TE}{t:TA}{T id:String}{r:V->List V->Hp->VK->Prop}
theorem jjq (pa:PlainAttrs T) (slot:Slot T name id) (hty:typeOf (.builtin id)=pure (.type "method_descriptor")) (hm:MtR X id r) (ho:PE X o to)
  (hbase:attributeBase o name X.env (eval o X.env)=eval o X.env:=by rfl) (hline:(apos.endLine==cpos.line)=true:=by rfl):PE X (.Call (.Attribute o name apos) [] [] cpos) (jkH X.K T r to):=by
 intro pins s σ H Q I h;refine wpAny_Call_method0_late hbase hline (thn (ho pins s σ H _ I h) fun v s1 ⟨x,H1,I1,r1,ty,q1⟩=>?_);obtain⟨h1,h2⟩:=jg9 I1 r1 ty;exact⟨T,id,pa,slot,hty,h1,h2,Calls.callWith_builtin rfl (PySem.evalArgs_none (hm pins s1 σ H1 x [] v [] Q I1 r1 .nil q1))⟩
theorem QP (pa:PlainAttrs T) (slot:Slot T name id) (hty:typeOf (.builtin id)=pure (.type "method_descriptor")) (hm:MtR X id r) (ho:PE X o to) (ha:PA X (e::es) t)
  (hbase:attributeBase o name X.env (eval o X.env)=eval o X.env:=by rfl)
  (hfew:((backTo cpos (starEach (e::es) X.env)).all (fun x=>!x.1)&&(backToKw cpos (keywordEach [] X.env)).all (fun x=>x.1.isSome)
  &&decide ((e::es).length+([]:List Keyword).length+(if ([]:List Keyword).isEmpty then 0 else 1)<30))=true:=by rfl)
  (hline:(apos.endLine==cpos.line)=true:=by rfl) (hs:starEach (e::es) X.env=(false,eval e X.env)::starEach es X.env:=by rfl) (hplain:(backTo cpos (starEach es X.env)).any (·.1)=false:=by rfl) :
  PE X (.Call (.Attribute o name apos) (e::es) [] cpos) (tBM X.K T r to t):=by
 intro pins s σ H Q I h;refine wpAny_Call_method_late hbase hfew hline rfl (thn (ho pins s σ H _ I h) fun v s1 ⟨x,H1,I1,r1,ty,q1⟩=>?_);obtain⟨h1,h2⟩:=jg9 I1 r1 ty;refine⟨T,id,pa,slot,hty,h1,h2,?_⟩;have hA:=ha cpos pins s1 σ H1 _ I1 q1;rw[hs] at hA ⊢;refine Calls.callWith_builtin (by show (false||(backTo cpos (starEach es X.env)).any (·.1))=false; rw[hplain] <;> rfl) (Calls.evalArgs_plain ?_)
 exact thn hA fun us s2 ⟨vs,H2,I2,r2,q2⟩=>hm pins s2 σ H2 x vs v us Q I2 r1 r2 q2
end
def MtM (X:Cx) (id:String) (r:V->List V->Hp->VK->Prop):Prop:=
 ∀ (pins:List (Addr×Obj)) (s:Shared) (σ:St) (H:Hp) (x:V) (xs:List V) (v:Value) (us:List Value) (Q:VK),Inv X pins σ H s->RelV x v->Vals xs us->r x xs H Q ->
  wpAny (model X.prog X.w) X.A (call (.builtin id) (v::us)) (EP X pins σ Q) X.xe s
theorem Vals.one:∀ {x:V}{us:List Value},Vals [x] us->∃ u,us=[u]/\RelV x u
 | _,_,.cons r .nil=>⟨_,rfl,r⟩
theorem Vals.two:∀ {x y:V}{us:List Value},Vals [x,y] us->∃ u v,us=[u,v]/\RelV x u/\RelV y v
 | _,_,_,.cons r (.cons q .nil)=>⟨_,_,rfl,r,q⟩
theorem Vals.zero:∀ {us:List Value},Vals [] us->us=[]
 | _,.nil=>rfl
section
variable {l b:Addr}{zs:List V}
theorem Inv.lset {f:Array Value->Array Value} (I:Inv X pins σ H s) (hH:H l=some (.lst xs))
  (e:s.heap.get? l=some { cls:=.type "list",data:=.seq its.toArray n }) (hf:f its.toArray=its'.toArray) (hv:Vals ys its') (hz:ys.length<=sizeLine) :
  Inv X pins σ (upd H l (.lst ys)) { s with heap:=s.heap.update l (Obj.mapSeq f),toks:=t' }:=by
 have q:=PySem.IsL.update e f;rw[hf] at q;refine I.write (x:=l) (e:=l) (by rw[hH]; exact trivial) (.inl rfl) (fun b' u hb hu=>(XH s.heap (Obj.mapSeq f) (Ne.symm hb)).trans hu) ⟨_,q⟩ ?_;exact⟨hz,its',_,hv,q⟩
theorem Inv.lnew (I:Inv X pins σ H s) (hv:Vals ys its) (hz:ys.length<=sizeLine) :
  Inv X pins σ (upd H s.heap.objs.size (.lst ys)) { s with heap:=s.heap.push { cls:=.type "list",data:=.seq its.toArray },toks:=t' }:=
 I.laid (fun _ _ q=>Xc _ q) (Xh _) ⟨hz,its,0,hv,Xn _ rfl⟩
theorem Inv.fresh (I:Inv X pins σ H s):H s.heap.objs.size=none:=I.hok.fresh (Xh _)
theorem Inv.lstM (I:Inv X pins σ H s) (hH:H l=some (.lst xs)):xs.length<=sizeLine/\∃ (its:List Value) (n:Nat),Vals xs its/\xs.length=its.length/\s.heap.get? l=some { cls:=.type "list",data:=.seq its.toArray n }:=by
 obtain⟨z,its,n,r,e⟩:=I.hok l _ hH;exact⟨z,its,n,r,r.length,e⟩
theorem jfG (h:n<=sizeLine):Builtin.List.listTooLong n=false:=by
 unfold Builtin.List.listTooLong;exact Xp (by omega)
end
section
def WL:V->List V->Hp->VK->Prop:=fun x vs H Q=>∃ l xs y,x=.ref l/\vs=[y]/\H l=some (.lst xs)/\xs.length<sizeLine/\Q .non (upd H l (.lst (xs++[y])))
theorem qG:MtM X "list.append" WL:=by
 intro pins s σ H x vs v us Q I rx rv h;obtain⟨l,xs,y,rfl,rfl,hH,hz,q⟩:=h;cases rx;obtain⟨u,rfl,ru⟩:=rv.one;obtain⟨z,its,n,r,hl,e⟩:=I.lstM hH;refine call_meets F.slot_list_append ⟨_,e,rfl⟩ F.entry_list_append (F.args_list_append_2 _ _) (PySem.list_append l its.toArray n u (by rw[Xq]; omega)) ⟨e,?_⟩;refine⟨.non,_,I.lset (its':=its++[u]) hH e (by simp) (r.append (.cons ru .nil)) ?_,rfl,q⟩;rw[Xj,wk];omega
def jdk:V->List V->Hp->VK->Prop:=fun x vs H Q=>∃ l b xs zs,x=.ref l/\vs=[.ref b]/\H l=some (.lst xs)/\H b=some (.lst zs)/\xs.length+zs.length<=sizeLine/\Q .non (upd H l (.lst (xs++zs)))
theorem jdl:MtM X "list.extend" jdk:=by
 intro pins s σ H x vs v us Q I rx rv h;obtain⟨l,b,xs,zs,rfl,rfl,hH,hB,hz,q⟩:=h;cases rx;obtain⟨u,rfl,ru⟩:=rv.one;cases ru;obtain⟨z,its,n,r,hl,e⟩:=I.lstM hH;obtain⟨z2,its2,n2,r2,hl2,e2⟩:=I.lstM hB;have hsz:its.toArray.size+its2.toArray.size<=sizeLine:=by rw[Xq,Xq]; omega
 have hlong:¬ (!its.toArray.isEmpty&&Builtin.List.listTooLong (its.toArray.size+its2.toArray.size))=true:=by
  rw[jfG hsz,Bool.and_false];exact Xw
 refine call_meets F.slot_list_extend ⟨_,e,rfl⟩ F.entry_list_extend (F.args_list_extend_2 _ _)
  (AutoSeq1.list_extend_list_list_0 l its.toArray n b its2.toArray n2 hlong (by rw[Xq]; omega) (by omega)) ⟨e,e2,?_⟩
 refine⟨.non,_,I.lset (its':=its++its2) hH e (by simp) (r.append r2) ?_,rfl,q⟩;rw[Xj];omega
def jlw:R2:=fun x y H Q=>∃ l b xs zs,x=.ref l/\y=.ref b/\H l=some (.lst xs)/\H b=some (.lst zs)/\xs.length+zs.length<=sizeLine/\∀ p,H p=none->Q (.ref p) (upd H p (.lst (xs++zs)))
theorem jbd:OpR X (binaryOp .Add) jlw:=by
 intro pins s σ H x y v u Q I rx ry h;obtain⟨l,b,xs,zs,rfl,rfl,hH,hB,hz,q⟩:=h;cases rx;cases ry;obtain⟨z,its,n,r,hl,e⟩:=I.lstM hH;obtain⟨z2,its2,n2,r2,hl2,e2⟩:=I.lstM hB;refine PySem.P.add_list e e2 ?_ (by rw[Xq,Xq]; omega);have ea:its.toArray++its2.toArray=(its++its2).toArray:=by simp
 rw[ea];exact⟨.ref _,_,I.lnew (t':=s.toks) (r.append r2) (by rw[Xj]; omega),rfl,q _ I.fresh⟩
end
end L2
variable {tl th:L2.TO}
namespace Att
open PySem PySem.W PySem.Calls PyProof.Rows
theorem UR {P:Params} :∀ (ns:List Int) (vs:List Value),WellAll P h vs (ns.map WData.int)->IntsAre vs ns:=by
 intro ns
 induction ns with
 | nil=>
  intro vs w;rw[List.map_nil] at w;cases w;exact .nil
 | cons n ns ih=>
  intro vs w;rw[List.map_cons] at w;cases w with
  | cons a b=>
   cases a;exact .cons _ _ (ih _ b)
theorem jdm {l:OpenLaw} (hn:l.most=some n) {P:Params}{args:List WData}{vals:List Value}
  (hpre:l.row.toRowW.claim.pre args=true) (hwl:WellAll P h vals args) :
  ∃ a vs ns,vals=[Value.ref a]/\args=[WData.list (ns.map WData.int)]/\h.get? a=some { cls:=.type "list",data:=.seq vs.toArray }/\IntsAre vs ns/\ns.length<=n:=by
 have hsh:WShape.hasAll [] args [.list .int]=true:=(pre_splitW hpre).1;have hc:l.pre.holds [] { args:=args }=true:=(pre_splitW hpre).2;obtain⟨d,r,rfl,h1,h2⟩:=hasAllW_cons hsh;obtain rfl:=hasAllW_nil h2;obtain⟨xs,rfl,h3⟩:=hasW_list h1;obtain⟨ns,rfl⟩:=items_int h3;have hlen:ns.length<=n:=by
  unfold OpenLaw.pre at hc;have h4:(WTm.not (.lt (.lit (.int (n:Int))) (.len (.arg 0)))).holds [] { args:=[.list (ns.map .int)] }=true:=by
   have h4:=(holds_andW hc).1;rw[hn] at h4;exact h4
  have h5:=condW_of h4 (w_not (w_lt w_lit (w_len_list (w_arg rfl))));rw[List.length_map] at h5;refine Nat.le_of_not_lt fun q=>?_;have q':(n:Int)<((ns.length:Nat):Int):=by omega
  first
   | (rw[decide_eq_true q'] at h5; exact absurd h5 (by decide))
   | (simp at h5; omega)
 cases hwl with
 | cons w1 w2=>
  cases w2;cases w1 with
  | list ho hall=>exact ⟨_,_,ns,rfl,rfl,ho,UR ns _ hall,hlen⟩
theorem jdn (l:OpenLaw) (args:List WData):l.row.toRowW.claim.post args (.bool true) args=true:=
 postW_of (r:=l.row.toRowW) (X:=(true==true))
  (show WShape.has [] (.bool true) .bool=true by first | rfl | decide | simp[WShape.has,WShape.arms,WShape.armsAll])
  (show (WTm.eq .res (.lit (.bool true))).value [] { args:=args,res:=some (.bool true),after:=args }=some (.bool (true==true)) from w_eq_bool (w_res rfl) w_lit) rfl
theorem attach_call {l:OpenLaw}{q:Program}{d:DefRec}
  (hn:l.most=some n) (hdf:d.params.defaults=[])
  (call:∀ (w:World) (s₀ s₁:Shared) (mg mb:Str->Option Value) (fa:Addr) (o:Obj) (pm cd doc:Value) (a:Addr) (vs:List Value) (ns:List Int),
   Ground q loose [] XP w s₀ mg mb s₁.heap->YP w s₁.heap ->
   s₁.heap.get? fa=some o->o.data=.func (docDef d.name d.params d.body d.scope pm cd doc)->s₁.heap.CodeRec cd d.name->mg d.name=some (.ref fa) ->
   s₁.heap.get? a=some { cls:=.type "list",data:=.seq vs.toArray }->IntsAre vs ns->ns.length<=n->s₁.gens=#[] ->
   codeAny (model l.prog w) callerA (.call (.ref fa) ⟨[.ref a],[]⟩) (fun r s'=>r=.ok (.ret (.bool true))/\OldK s₁.heap s'.heap/\s'.os=s₁.os/\AllBare s'.gens) s₁) :
  WalkO q loose XP YP l.row.toRowW d [] (fun f vs=>PySem.call f vs):=by
 intro w s₀ s₁ mg mb G Y fa o pm cd doc dV kV ho hd hcd hD hmg hg args vals as hpre hlay hrd hwl hlo;obtain rfl:dV=.none:=Dflts.none hD hdf;obtain rfl:kV=.none:=Dflts.noKw hD;obtain⟨a,vs,ns,rfl,rfl,hobj,hints,hlen⟩:=jdm hn hpre hwl;refine enter_call (codeAny_mono (call w s₀ s₁ mg mb fa o pm cd doc a vs ns G Y ho (fd_plain hd) hcd hmg hobj hints hlen hg) fun r s' hq=>?_);obtain⟨rfl,h2,h3,h4⟩:=hq;exact⟨.inl ⟨.bool true,.bool true,[],rfl,fun _=>rfl,.bool true,jdn l _,fun _=>⟨List.Pairwise.nil,fun _ hm=>(nomatch hm)⟩⟩,h2,h3,h4⟩
end Att
namespace L2
open PySem PySem.Spec PyProof.Rows
theorem Y1:∀ {vs:List Value}{ns:List Int},IntsAre vs ns->Vals (ns.map V.int) vs
 | _,_,.nil=>.nil
 | _,_,.cons n t h=>.cons ⟨t,rfl⟩ (Y1 h)
def jkW (H:Hp):Prop:=∀ b,H b=none \/ ∃ o xs,H b=some (.frz o (.lst xs))
theorem jfH {P:Program}{mb:Str->Option Value}{k:Nat}{fa:Addr}{s₁:Shared} 
  (KX:K.In s₁.heap) (hns:s₁.heap.Ns mainGlobals mg) (hb:s₁.heap.Ns builtinsNs mb) (hbb:∀ x:Str,x≠"__name__"->mb x=bootBuiltins x) (hlim:s₁.heap.NoLimit) (hg:s₁.gens=#[])
  (ha:s₁.heap.get? a=some { cls:=.type "list",data:=.seq vs.toArray }) (hi:IntsAre vs ns) (hl:ns.length<=sizeLine) (hr:Room k callerA)
  (F:∀ base:Heap,K.In base->base.Ns mainGlobals mg->FnOk P w K mg base CX k fa fd [x] sp) (hbind:∀ (s:Shared) (u:Value),BindsTo s fd ⟨[u],[]⟩ [(x,u)])
  (hsp:∀ H:Hp,jkW H->SqL K H a (ns.map V.int)->sp [.ref a] H (fun v _=>v=.bl true) fun _ _ _=>False)
  (hCX:∀ H e s',CX [] H s₁ (fun _ _ _=>False) e s'->False) :
  codeAny (model P w) callerA (.call (.ref fa) ⟨[.ref a],[]⟩) (fun r s'=>r=.ok (.ret (.bool true))/\OldK s₁.heap s'.heap/\s'.os=s₁.os/\AllBare s'.gens) s₁:=by
 have rv:=Y1 hi;have lenV:=hi.length;have core:∀ H:Hp,jkW H->SqL K H a (ns.map V.int)->HOk P w H s₁.heap->(∀ b,H b≠none->b=a)->(H a≠none->K.lookup a=none) ->
   codeAny (model P w) callerA (.call (.ref fa) ⟨[.ref a],[]⟩) (fun r s'=>r=.ok (.ret (.bool true))/\OldK s₁.heap s'.heap/\s'.os=s₁.os/\AllBare s'.gens) s₁:=by
  intro H hO hS hok hA hK;have base_of:∀ {b:Addr}{o:Obj},s₁.heap.get? b=some o->H b=none->(jfn s₁.heap H).get? b=some o:=fun e n=>jfo e n;have noA:∀ {b:Addr}{o:Obj}{es:Array DictEntry}{ep:Nat},s₁.heap.get? b=some o->o.data=.dict es ep->H b=none:=fun {b o es ep} e d=>by
   cases q:H b with
   | none=>rfl
   | some u=>
    have e':b=a:=hA b (by rw[q]; simp);subst e';rw[ha] at e; cases e;have d':Data.seq vs.toArray _=Data.dict es ep:=d;cases d'
  have nsK:∀ {b:Addr}{m:Str->Option Value},s₁.heap.Ns b m->(jfn s₁.heap H).Ns b m:=fun {b m} ⟨o,es,ep,e,d,r⟩=>⟨o,es,ep,base_of e (noA e d),d,r⟩;have hKb:K.In (jfn s₁.heap H):=fun b o e=>base_of (KX b o e) (by
   cases q:H b with
   | none=>rfl
   | some u=>
    have e':b=a:=hA b (by rw[q]; simp);subst e';rw[hK (by rw[q]; simp)] at e; cases e)
  have hM:Mod K mg (jfn s₁.heap H):=⟨hKb,nsK hns,⟨mb,nsK hb,hbb⟩,let ⟨mc,h1,h2⟩:=hlim; ⟨mc,nsK h1,h2⟩⟩;have e0:Env0 P w K mg (jfn s₁.heap H) callerA [] s₁ H:=⟨rfl,hM,fun b o e=>jhE e,Nat.le_of_eq (jcY _ _),trivial,fun b hb=>absurd (show b∈([]:List Addr) from hb) (by simp),hok,.of_eq hg⟩;refine codeAny_mono ((F _ hKb (nsK hns)).run callerA [] s₁ H ⟨[.ref a],[]⟩ [.ref a] [.ref a] _ _ hr e0 (hbind s₁ (.ref a)) (.cons rfl .nil) (hsp H hO hS)) fun r s' h=>?_;cases r with
  | error e=>exact (hCX H e s' h).elim
  | ok fl=>
   cases fl with
   | next=>exact False.elim h
   | brk=>exact False.elim h
   | cont=>exact False.elim h
   | ret u=>
    obtain⟨v,H',os,bare,un,hok',r',q⟩:=h;have q':v=.bl true:=q;subst q';obtain rfl:u=Value.bool true:=r';refine⟨rfl,OldK.of_keep fun b o e=>?_,os,bare⟩;cases q:H b with
    | none=>exact un.keep b o e q (by intro z; exact absurd (show b∈([]:List Addr) from z) (by simp)) (by simp)
    | some u=>
     rcases hO b with z | ⟨ob,xs,z⟩
     ·rw[q] at z; cases z
     ·have z2:=un.frzs b ob _ z;obtain⟨e1,_⟩:=hok b _ z;obtain⟨e2,_⟩:=hok' b _ z2;rw[e] at e1; cases e1;exact e2
 cases hk:K.lookup a with
 | some o=>
  have e:=KX a o hk;rw[ha] at e;cases e;refine core (fun _=>none) (fun _=>.inl rfl) (.inr ⟨_,vs.toArray,_,hk,rfl,rfl,rfl,by rw[Xq,lenV]; exact hl,by simpa using rv⟩) (fun b u z=>by have z':(none:Option HO)=some u:=z; cases z') (fun b z=>absurd rfl z) fun z=>absurd rfl z
 | none=>
  refine core (fun b=>if b=a then some (.frz { cls:=.type "list",data:=.seq vs.toArray } (.lst (ns.map V.int))) else none) (fun b=>?_) (.inl (.inr ⟨{ cls:=.type "list",data:=.seq vs.toArray },if_pos rfl⟩)) (fun b u z=>?_) (fun b z=>?_) fun _=>hk
  ·by_cases hb:b=a
   ·exact .inr ⟨_,_,if_pos hb⟩
   ·exact .inl (if_neg hb)
  ·by_cases hb:b=a
   ·have z':=(if_pos hb).symm.trans z;cases z';subst hb;exact⟨ha,by rw[Xr]; exact hl,vs,_,rv,ha⟩
   ·have z':=(if_neg hb).symm.trans z;cases z'
  ·by_cases hb:b=a
   ·exact hb
   ·exact absurd (if_neg hb) z
abbrev KOf (_:K.In h):W.Frag:=K
theorem walk_of {l:W.OpenLaw}{k:Nat}{q:Program}{d:DefRec}{K:Params->W.Frag}{CX:World->CXT}{sp:World->Sp} 
  (hn:l.most=some n) (hn2:n<=sizeLine) (hdf:d.params.defaults=[]) (hr:Room k callerA)
  (hY:∀ (w:World) (h:Heap),YP w h->(K w.params).In h)
  (F:∀ (w:World) (mg:Str->Option Value) (fa:Addr) (h:Heap),(K w.params).In h->h.Ns mainGlobals mg->mg d.name=some (.ref fa) ->
   ∃ fd:FuncData,(∀ (s:Shared) (u:Value),BindsTo s fd ⟨[u],[]⟩ [(x,u)]) /\
    ∀ base:Heap,(K w.params).In base->base.Ns mainGlobals mg->FnOk l.prog w (K w.params) mg base (CX w) k fa fd [x] (sp w))
  (hsp:∀ (w:World) (H:Hp) (a:Addr) (ns:List Int),ns.length<=n->jkW H->SqL (K w.params) H a (ns.map V.int)->sp w [.ref a] H (fun v _=>v=.bl true) fun _ _ _=>False)
  (hCX:∀ (w:World) (H:Hp) (s:Shared) (e:Value) (s':Shared),CX w [] H s (fun _ _ _=>False) e s'->False) :
  W.WalkO q loose XP YP l.row.toRowW d [] (fun f vs=>PySem.call f vs):=by
 refine Att.attach_call hn hdf fun w s₀ s₁ mg mb fa o pm cd doc a vs ns G Y ho hd hcd hmg hobj hints hlen hg=>?_;have KX:=hY w _ Y;obtain⟨fd,hb,hF⟩:=F w mg fa _ KX G.T.g hmg;exact jfH KX G.T.g G.T.b G.T.builtins G.T.nolimit hg hobj hints (X6 hlen hn2) hr hF hb (fun H hO hS=>hsp w H a ns hlen hO hS) fun H e s'=>hCX w H s₁ e s'
def jG (s:Stmt) (j:Nat):Stmt:=match s with
 | .ClassDef _ _ _ body _ _ _ _ _ _ _=>body.getD j (.Pass ⟨0,0,0,0⟩)
 | _=>.Pass ⟨0,0,0,0⟩
def yx (s:Stmt):Arguments:=match s with
 | .FunctionDef _ a _ _ _ _ _ _ _ _=>a
 | _=>{ posonlyargs:=[],args:=[],vararg:=none,kwonlyargs:=[],kw_defaults:=[],kwarg:=none,defaults:=[] }
def qW (s:Stmt):List Stmt:=match s with
 | .FunctionDef _ _ b _ _ _ _ _ _ _=>b
 | _=>[]
def jo (s:Stmt):Scope:=match s with
 | .FunctionDef _ _ _ _ _ _ sc _ _ _=>sc
 | _=>{ kind:=.function,names:=[],isGenerator:=false,isCoroutine:=false }
abbrev CX0:CXT:=fun _ _ _ _ _ _=>False
abbrev E0:XK:=fun _ _ _=>False
theorem jfI:UP CX0 X E0:=fun _ _ _ _ _ _ _ h=>h.elim
structure Fun (K:W.Frag) (x qual:Str) (st:Stmt) (f:Addr) (fd:FuncData):Prop where
 ex:∃ (oc:Value) (od:Option Addr) (kV doc pm:Value) (an:Option Addr) (cdv ct:Value) (osl:Array (Option Value)),
  fd=W.fnOf x qual (yx st) (qW st) (jo st) .none kV doc pm an cdv ct/\K.lookup f=some ⟨oc,od,.func fd,osl⟩/\W.codeIn K cdv qual=true
 kp:W.keepIn K (.ref f)=true
section
variable {P:Program} 
theorem Fun.ok {f:Addr}{k:Nat} (F:Fun K x qual st f fd) (S:FnScope N ps (jo st)) (len:∀ vs H Q E,sp vs H Q E->vs.length=ps.length)
  (hbody:∀ (cdv:Value) (A:Around) (outer:List Env) (s:Shared) (H:Hp) (vs:List V) (Q:VK) (E:XK),Room k (A.deeper (envOfC qual (jo st) s.heap.objs.size f cdv))->sp vs H Q E ->
   ∃ t,PSs (Z2 CX0 P w K mg base N qual (jo st) f cdv A outer s H E).nox (qW st) t/\t { nx:=fun _ H'=>Q .non H',rt:=Q } (zF N vs) H):FnOk P w K mg base CX0 (k+1) f fd ps sp:=by
 obtain⟨oc,od,kV,doc,pm,an,cdv,ct,osl,rfl,lk,hcd⟩:=F.ex;refine jjl lk hcd S len fun A outer s H vs Q E hr hsp=>?_;obtain⟨t,h,q⟩:=hbody cdv A outer s H vs Q E hr hsp;exact⟨t,h.nox,q⟩
theorem Fun.binds {f:Addr} (F:Fun K x qual st f fd)
  (h:∀ (kV doc pm:Value) (an:Option Addr) (cdv ct:Value) (us:List Value),us.length=ps.length->bindArgs (W.fnOf x qual (yx st) (qW st) (jo st) .none kV doc pm an cdv ct) ⟨us,[]⟩=pure (ps.zip us)):Binds K fd ps []:=by
 obtain⟨oc,od,kV,doc,pm,an,cdv,ct,osl,rfl,lk,hcd⟩:=F.ex;exact .all (h kV doc pm an cdv ct)
theorem jg_ {f:Addr}{od:Option Addr}{kV ct:Value} (l:K.lookup f=some ⟨oc,od,.func (W.fnOf x qual (yx st) (qW st) (jo st) .none kV doc pm an cdv ct),osl⟩)
  (c:W.codeIn K cdv qual=true) (k:W.keepIn K (.ref f)=true):Fun K x qual st f (W.fnOf x qual (yx st) (qW st) (jo st) .none kV doc pm an cdv ct):=⟨⟨oc,od,kV,doc,pm,an,cdv,ct,osl,rfl,l,c⟩,k⟩
end
section
theorem pv (i:Nat) (hN:X.N[i]?=some x:=by rfl) (hv:Vis X.env.scope x:=by first | exact Or.inl rfl | exact Or.inr (Or.inl rfl) | exact Or.inr (Or.inr rfl)) (hd:(x==("__debug__":Str))=false:=by decide)
  (hcd:(x==("__classdict__":Str))=false:=by decide):PE X (.Name x pos) (Wb i):=jjf hN hv hd hcd
end
theorem jdo {A B:Prop} (h:B):if false=true then A else B:=by
 rw[if_neg Xw];exact h
theorem jdp {A B:Prop} (h:A):if true=true then A else B:=by
 rw[if_pos rfl];exact h
def Same (H H':Hp):Prop:=∀ b o,H b=some o->H' b=some o
theorem Same.refl (H:Hp):Same H H:=fun _ _ h=>h
theorem Same.trans {H2:Hp} (a:Same H H1) (b:Same H1 H2):Same H H2:=fun c o h=>b c o (a c o h)
theorem Same.free (e:Same H H') {l:Addr} (h:H' l=Option.none):H l=Option.none:=by
 cases q:H l with
 | none=>rfl
 | some o=>
  rw[e l o q] at h;cases h
theorem Same.seq (e:Same H H') (h:SqL K H a xs):SqL K H' a xs:=by
 rcases h with (h | ⟨o,h⟩) | h
 ·exact .inl (.inl (e _ _ h))
 ·exact .inl (.inr ⟨o,e _ _ h⟩)
 ·exact .inr h
end L2
namespace MB
open PySem
theorem jbY (x:Int):Builtin.bitNot (Builtin.bitNot x)=x:=by unfold Builtin.bitNot; omega
theorem and_nat (a b:Nat):Builtin.bitAnd (a:Int) (b:Int)=((a &&& b:Nat):Int):=by
 unfold Builtin.bitAnd;have h1:decide (0<=(a:Int))=true:=by simp
 have h2:decide (0<=(b:Int))=true:=by simp
 rw[h1,h2];simp
theorem or_nat (a b:Nat):Builtin.bitOr (a:Int) (b:Int)=((a ||| b:Nat):Int):=by
 unfold Builtin.bitOr Builtin.bitAnd;have h1:decide (0<=Builtin.bitNot (a:Int))=false:=by unfold Builtin.bitNot; simp; omega
 have h2:decide (0<=Builtin.bitNot (b:Int))=false:=by unfold Builtin.bitNot; simp; omega
 rw[h1,h2];simp only[jbY];simp
def setN (l:List Nat):Nat:=l.foldl (fun a t=>a ||| 2 ^ t) 0
theorem jdq (l:List Nat) (a i:Nat):(l.foldl (fun a t=>a ||| 2 ^ t) a).testBit i=(a.testBit i||decide (i∈l)):=by
 induction l generalizing a with
 | nil=>simp
 | cons t r ih=>
  rw[List.foldl_cons,ih,Nat.testBit_or,Nat.testBit_two_pow];by_cases h:t=i
  ·subst h; simp
  ·have h':¬ i=t:=fun e=>h e.symm;simp[h,h']
theorem setN_bit (l:List Nat) (i:Nat):(setN l).testBit i=decide (i∈l):=by
 unfold setN;rw[jdq];simp
theorem jbZ {b m:Nat} (hm:b<2 ^ m) (hmn:m<=n):(List.range m).filter (fun t=>b.testBit t)=(List.range n).filter (fun t=>b.testBit t):=by
 obtain⟨k,rfl⟩:=Nat.exists_eq_add_of_le hmn
 induction k with
 | zero=>rfl
 | succ k ih=>
  rw[show m+(k+1)=(m+k)+1 from rfl,List.range_succ,List.filter_append,<- ih (by omega)];have:b.testBit (m+k)=false:=Nat.testBit_lt_two_pow (Nat.lt_of_lt_of_le hm (Nat.pow_le_pow_right (by decide) (by omega)));simp[this]
theorem sum_bits (p:Nat->Bool):∀ n,(((List.range n).filter p).map fun i=>2 ^ i).sum<2 ^ n/\∀ t,t<n->((((List.range n).filter p).map fun i=>2 ^ i).sum).testBit t=p t
 | 0=>by simp
 | n+1=>by
  obtain⟨h1,h2⟩:=sum_bits p n;have e:(((List.range (n+1)).filter p).map fun i=>2 ^ i).sum=(((List.range n).filter p).map fun i=>2 ^ i).sum+(if p n=true then 2 ^ n else 0):=by
   rw[List.range_succ,List.filter_append,List.map_append,List.sum_append];cases hp:p n <;> simp[hp]
  rw[e];generalize (((List.range n).filter p).map fun i=>2 ^ i).sum=S at h1 h2;cases hp:p n with
  | false=>
   simp only[Bool.false_eq_true,if_false,Nat.add_zero];refine⟨by rw[Nat.pow_succ]; omega,fun t ht=>?_⟩;by_cases e2:t=n
   ·subst e2;rw[hp];exact Nat.testBit_lt_two_pow h1
   ·exact h2 t (by omega)
  | true=>
   simp only[if_true];refine⟨by rw[Nat.pow_succ]; omega,fun t ht=>?_⟩;rw[Nat.add_comm];by_cases e2:t=n
   ·subst e2;rw[hp,Nat.testBit_two_pow_add_eq,Nat.testBit_lt_two_pow h1];rfl
   ·rw[Nat.testBit_two_pow_add_gt (by omega)];exact h2 t (by omega)
theorem jhQ (b:Nat):b<2 ^ Builtin.Int.intBits (b:Int):=by
 have:=(PySem.intBits_le_iff (m:=Builtin.Int.intBits (b:Int)) (x:=(b:Int))).mp (Nat.le_refl _);simpa using this
theorem bits_le {b m:Nat} (h:b<2 ^ m):Builtin.Int.intBits (b:Int)<=m:=PySem.intBits_le_iff.mpr (by simpa using h)
theorem things_eq {b:Nat} (h:b<2 ^ n):(List.range (Builtin.Int.intBits (b:Int))).filter (fun t=>b.testBit t)=(List.range n).filter (fun t=>b.testBit t):=jbZ (jhQ b) (bits_le h)
end MB
namespace L2
open PySem PySem.Spec PyProof.Rows
theorem ane {a b:Nat} (h:a<b \/ b<a):@Ne Addr a b:=fun e=>by
 have e':(a:Nat)=b:=e;omega
def clo (env:Env):List (Str×NameKind)->List (Str×Addr)->List (Str×Addr)
 | [],acc=>acc
 | (n,k)::r,acc=>if k==.free then clo env r ((n,(env.cells.lookup n).getD 0)::acc) else clo env r acc
theorem WM (h:∀ x∈scope.names,x.2=.free->∃ c,env.cells.lookup x.1=some c):closureFor scope env=pure (clo env scope.names []):=by
 unfold closureFor;have key:∀ (l:List (Str×NameKind)) (acc:List (Str×Addr)),(∀ x∈l,x.2=.free->∃ c,env.cells.lookup x.1=some c) ->
   ∀ (f:Str×NameKind->List (Str×Addr)->Sem (ForInStep (List (Str×Addr)))),(∀ n k cs,f (n,k) cs=if (k==NameKind.free)=true then (do let a <- cellOf env n; pure (ForInStep.yield ((n,a)::cs))) else pure (ForInStep.yield cs)) ->
   forIn l acc f=(pure (clo env l acc):Sem (List (Str×Addr))):=by
  intro l
  induction l with
  | nil=>intro acc _ f _; rfl
  | cons x r ih=>
   intro acc hl f hf;obtain⟨n,k⟩:=x;rw[List.forIn_cons,hf];have ih':=fun acc'=>ih acc' (fun y hy=>hl y (Xf _ hy)) f hf;show _=pure (if (k==NameKind.free)=true then _ else _);by_cases hk:(k==NameKind.free)=true
   ·obtain⟨c,hc⟩:=hl (n,k) Xi (by simpa using hk);have e:cellOf env n=pure c:=by unfold cellOf; rw[hc]
    rw[if_pos hk,if_pos hk,e,pure_bind,pure_bind,hc];exact ih' _
   ·rw[if_neg hk,if_neg hk,pure_bind];exact ih' _
 refine Eq.trans (congrArg (fun z=>z >>= fun cs=>pure cs) (key scope.names [] h _ fun n k cs=>?_)) (pure_bind _ _);by_cases hk:(k==NameKind.free)=true
 ·simp[hk]
 ·simp[hk]
theorem WN:∀ (l:List (Str×NameKind)) (acc:List (Str×Addr)),(∀ x∈l,x.2=.free->∃ c,env.cells.lookup x.1=some c)->(∀ y d,acc.lookup y=some d->env.cells.lookup y=some d) ->
  ∀ y d,(clo env l acc).lookup y=some d->env.cells.lookup y=some d
 | [],_,_,h,y,d,e=>h y d e
 | (n,k)::r,acc,hl,h,y,d,e=>by
  unfold clo at e;have hr:∀ x∈r,x.2=.free->∃ c,env.cells.lookup x.1=some c:=fun x hx=>hl x (Xf _ hx);by_cases hk:(k==NameKind.free)=true
  ·rw[if_pos hk] at e;obtain⟨c,hc⟩:=hl (n,k) Xi (by simpa using hk);refine WN r _ hr (fun z b hz=>?_) y d e;rw[wE] at hz;cases hb:z==n with
   | true=>rw[hb] at hz; rw[wj.mp hb,hc] ; rw[hc] at hz; exact hz
   | false=>rw[hb] at hz; exact h z b hz
  ·rw[if_neg hk] at e;exact WN r acc hr h y d e
theorem WO:∀ (l:List (Str×NameKind)) (acc:List (Str×Addr)),(l.lookup x=some .free \/ ∃ c,acc.lookup x=some c)->∃ c,(clo env l acc).lookup x=some c
 | [],_,h=>h.elim (fun e=>by cases e) id
 | (n,k)::r,acc,h=>by
  unfold clo;by_cases hk:(k==NameKind.free)=true
  ·rw[if_pos hk];refine WO r _ ?_;cases hb:x==n with
   | true=>exact .inr ⟨_,by rw[wE,hb]⟩
   | false=>
    rcases h with h | ⟨c,h⟩
    ·rw[wE,hb] at h; exact .inl h
    ·exact .inr ⟨c,by rw[wE,hb]; exact h⟩
  ·rw[if_neg hk];refine WO r _ ?_;rcases h with h | h
   ·cases hb:x==n with
    | true=>
     rw[wE,hb] at h;cases h;exact absurd rfl hk
    | false=>rw[wE,hb] at h; exact .inl h
   ·exact .inr h
theorem xw:∀ (l:List (Str×NameKind)) (n:Nat) (acc:List (Str×Addr)),cellsFrom n l acc=cellsFrom n l []++acc
 | [],_,_=>rfl
 | (x,k)::r,n,acc=>by
  unfold cellsFrom;by_cases hk:(k==NameKind.cell)=true
  ·rw[if_pos hk,if_pos hk,xw r (n+1) ((x,n)::acc),xw r (n+1) [(x,n)],List.append_assoc];rfl
  ·rw[if_neg hk,if_neg hk,xw r n acc]
theorem zW {c:Addr}:∀ {l:List (Str×NameKind)}{n:Nat}{acc:List (Str×Addr)},(x,c)∈cellsFrom n l acc->(x,NameKind.cell)∈l \/ (x,c)∈acc
 | [],_,_,h=>.inr h
 | (y,k)::r,n,acc,h=>by
  unfold cellsFrom at h;by_cases hk:(k==NameKind.cell)=true
  ·rw[if_pos hk] at h;have hk':k=.cell:=by simpa using hk
   rcases zW h with z | z
   ·exact .inl (Xf _ z)
   ·rcases Xk.mp z with e | z
    ·cases e;subst hk';exact .inl Xi
    ·exact .inr z
  ·rw[if_neg hk] at h;rcases zW h with z | z
   ·exact .inl (Xf _ z)
   ·exact .inr z
theorem jdr {globals:Addr}{cl:List (Str×Addr)}{outer:Env}{Q:Env->Shared->Prop}
  (hQ:Q (newEnv scope s.heap.objs.size globals (cellsFrom (s.heap.objs.size+1) scope.names cl) qual none .none (some outer) builtinsNs)
   { s with heap:=pushCells (s.heap.push { cls:=.type "dict",data:=.dict #[] }) scope.names }) :
  wpAny M A (newFunctionEnv scope globals cl [] qual none .none (some outer)) Q E s:=by
 simp only[newFunctionEnv,Option.isSome_some,if_true];refine Xa (wpAny_alloc ?_);refine Xa (wpAny_layCells _ (fun name kind cells=>by cases hkc:kind==NameKind.cell <;> simp[hkc]) _ _ _ _ ?_);rw[show ({ s with heap:=s.heap.push { cls:=.type "dict",data:=.dict #[] } }:Shared).heap.objs.size=s.heap.objs.size+1 from wf ..]
 exact Xa (Xb (Xb hQ))
theorem ym {env:Env}{x:Str}:∀ {names:List (Str×NameKind)}{q:NameKind},
  (names.map fun (n,k)=>if (k==NameKind.free&&env.scope.kind==.function&&env.kindOf n==some .cell) then (n,NameKind.cell) else (n,k)).lookup x=some q ->
  names.lookup x=some q \/ (names.lookup x=some .free/\q=.cell)
 | [],_,h=>by cases h
 | (n,k)::r,q,h=>by
  have ih:=@ym env x r q;have h':((if (k==NameKind.free&&env.scope.kind==.function&&env.kindOf n==some .cell)=true then (n,NameKind.cell) else (n,k))::(r.map fun (n,k)=>if (k==NameKind.free&&env.scope.kind==.function&&env.kindOf n==some .cell) then (n,NameKind.cell) else (n,k))).lookup x=some q:=h;rw[wE];by_cases hc:(k==NameKind.free&&env.scope.kind==.function&&env.kindOf n==some .cell)=true
  ·rw[if_pos hc,wE] at h';have hkf:k=.free:=by
    cases k <;> first | rfl | (simp at hc)
   subst hkf;cases hb:x==n with
   | true=>
    rw[hb] at h';cases h';exact .inr ⟨rfl,rfl⟩
   | false=>
    rw[hb] at h';exact ih h'
  ·rw[if_neg hc,wE] at h';cases hb:x==n with
   | true=>
    rw[hb] at h';exact .inl h'
   | false=>
    rw[hb] at h';exact ih h'
theorem Y2 {R:Result->Shared->Prop}{elt target:Expr}{ifs:List Expr}{it acc:Value} (I:Nat->Shared->Prop)
  (turn:∀ n s,I n s->wpAny (model prog w) A (pyNext it) (fun r s₁=>match r with
   | none=>R (.ok .next) s₁
   | some v=>wpAny (model prog w) A (letOwnedTupleGo target it v) (fun _ s₁'=>wpAny (model prog w) A (assign target env v) (fun _ s₂=>
     wpAny (model prog w) A (forIn ifs true fun c r=>if r=true then do let ok <- isTrue c env (eval c env); pure (ForInStep.yield ok) else pure (ForInStep.yield r)) (fun ok s₃=>
      if ok=true then wpAny (model prog w) A (eval elt env) (fun x s₄=>
       wpAny (model prog w) A (call (.builtin "list.append") [acc,x]) (fun _ s₅=>∃ m,m<n/\I m s₅) (fun _ _=>False) s₄) (fun _ _=>False) s₃
      else ∃ m,m<n/\I m s₃) (fun _ _=>False) s₂) (fun _ _=>False) s₁') (fun _ _=>False) s₁) (fun _ _=>False) s)
  (n:Nat) (h:I n s) :
  codeAny (model prog w) A (.compLoop (.ListComp elt [⟨target,iter,ifs,0⟩] scope pos) 0 it acc env) R s:=by
 refine codeAny_loop rfl I (fun n s hI=>?_) n h;show wpAny _ A ((compTurn (.ListComp elt [⟨target,iter,ifs,0⟩] scope pos) 0 it acc env).onRaise (fun x=>do noteFrame x env; theTreesLotGoes x)) _ _ s;refine wpAny_noted ?_;rw[compTurn_list];refine Xa (wpAny_standAt (Xa (wg (turn n s hI) (fun r s₁ h₁=>?_) fun _ _ h'=>h'.elim)));cases r with
 | none=>exact Xb h₁
 | some v=>
  refine Xa (wg h₁ (fun _ s₁' h₁'=>?_) fun _ _ h'=>h'.elim);refine Xa (wg h₁' (fun _ s₂ h₂=>Xa (wg h₂ (fun ok s₃ h₃=>?_) fun _ _ h'=>h'.elim)) fun _ _ h'=>h'.elim);cases ok with
  | false=>exact Xb ⟨rfl,h₃⟩
  | true=>
   exact Xa (Xa (wg h₃ (fun x s₄ h₄=>Xa (wg h₄ (fun _ s₅ h₅=>Xb (Xb ⟨rfl,h₅⟩)) fun _ _ h'=>h'.elim)) fun _ _ h'=>h'.elim))
structure Blk where
 C:Addr
 s:Shared
 H:Hp
 ex:List Addr
def blk (X:Cx) (sc:Scope) (N:List Str) (b:Blk):Cx:=
 { X with N:=N,s₀:=b.s,H₀:=b.H,env:=compEnvC sc (cellsFrom (b.C+1) sc.names (clo X.env sc.names [])) b.C X.env,outer:=X.stack,stack:=X.stack,ex:=b.ex,fn:=fun x=>sc.names.lookup x==some .cell,pn:=[],xe:=fun _ _=>False }
def Y3 (own:Nat) (ix:List Nat) (σ:St):St:=List.replicate own none++ix.map fun i=>(σ[i]?).join
structure BlkOk (X:Cx) (sc:Scope) (own:List Str) (ix:List Nat) (N:List Str):Prop where
 kind:sc.kind=.function
 nm:∀ x∈sc.names,sc.names.lookup x.1=some x.2
 fr:∀ x∈sc.names,x.2=.free->X.env.kindOf x.1=some .cell \/ X.env.kindOf x.1=some .free
 eq:N=own++ix.map fun i=>(X.N[i]?).getD Str.empty
 lt:∀ i∈ix,i<X.N.length
 isf:∀ i∈ix,sc.names.lookup ((X.N[i]?).getD Str.empty)=some .free
theorem jjr (B:BlkOk X sc own ix N) (I:Inv X pins σ H s) (hf:∀ b∈fp,jc4 X pins H b)
  (hlt:∀ b:Nat,b∈fp->b<s.heap.objs.size) :
  Inv (blk X sc N ⟨s.heap.objs.size+1,s,H,fp⟩) [] (Y3 own.length ix σ) (upd H s.heap.objs.size (.lst []))
   { s with heap:=pushCells ((s.heap.push { cls:=.type "list",data:=.seq ([]:List Value).toArray }).push { cls:=.type "dict",data:=.dict #[] }) sc.names }:=by
 have hfr:∀ x∈sc.names,x.2=.free->∃ c,X.env.cells.lookup x.1=some c:=fun x hx e=>I.ok.has x.1 (B.fr x hx e);have h0:H s.heap.objs.size=none:=I.fresh;have k1:∀ b o,s.heap.get? b=some o->(pushCells ((s.heap.push { cls:=.type "list",data:=.seq ([]:List Value).toArray }).push { cls:=.type "dict",data:=.dict #[] }) sc.names).get? b=some o:=
  fun b o e=>pushCells_keeps _ _ b o (Xc _ (Xc _ e))
 have sz1:(s.heap.push { cls:=.type "list",data:=.seq ([]:List Value).toArray }).objs.size=s.heap.objs.size+1:=wf ..;have sz2:((s.heap.push { cls:=.type "list",data:=.seq ([]:List Value).toArray }).push { cls:=.type "dict",data:=.dict #[] }).objs.size=s.heap.objs.size+2:=by rw[wf,sz1]
 have hD:(pushCells ((s.heap.push { cls:=.type "list",data:=.seq ([]:List Value).toArray }).push { cls:=.type "dict",data:=.dict #[] }) sc.names).get? s.heap.objs.size=some { cls:=.type "list",data:=.seq ([]:List Value).toArray }:=
  pushCells_keeps _ _ _ _ (Xc _ (Xn _ rfl))
 have okc:=cellsFrom_ok sc.names ((s.heap.push { cls:=.type "list",data:=.seq ([]:List Value).toArray }).push { cls:=.type "dict",data:=.dict #[] }) (s.heap.objs.size+2) [] ⟨fun _ _ hm=>(nomatch hm),List.Pairwise.nil⟩ (by rw[sz2]; exact Xh _);rw[sz2] at okc;have nsC:(pushCells ((s.heap.push { cls:=.type "list",data:=.seq ([]:List Value).toArray }).push { cls:=.type "dict",data:=.dict #[] }) sc.names).Ns (s.heap.objs.size+1) (fun _=>none):=by
  have q:=(Heap.Ns.new (s.heap.push { cls:=.type "list",data:=.seq ([]:List Value).toArray }) (.type "dict")).keeps (pushCells_keeps sc.names _);rw[sz1] at q;exact q
 have cells:∀ x c,(cellsFrom (s.heap.objs.size+1+1) sc.names (clo X.env sc.names [])).lookup x=some c ->
   ((x,c)∈cellsFrom (s.heap.objs.size+2) sc.names []) \/ X.env.cells.lookup x=some c:=fun x c e=>by
  rw[xw,List.lookup_append] at e;cases q:(cellsFrom (s.heap.objs.size+1+1) sc.names []).lookup x with
  | some d=>
   rw[q] at e;have e':d=c:=Option.some.inj e;subst e';exact .inl (wC q)
  | none=>
   rw[q] at e;exact .inr (WN sc.names [] hfr (fun _ _ z=>nomatch z) x c e)
 have oldc:∀ (x:Str) (c:Nat),X.env.cells.lookup x=some c->c<s.heap.objs.size:=fun x c e=>(I.cell x c e).choose_spec.lt;have newc:∀ (x:Str) (c:Nat),(x,c)∈cellsFrom (s.heap.objs.size+2) sc.names []->s.heap.objs.size+2<=c:=fun x c e=>(okc.empty x c e).2;have ok:(blk X sc N ⟨s.heap.objs.size+1,s,H,fp⟩).Ok:=by
  refine⟨I.ok.mod,B.kind,I.ok.glob,I.ok.blt,wy _,fun x y c e1 e2=>?_,fun x hx=>?_,fun x c h1 e=>?_,I.ok.hd,I.ok.frames,.inl rfl,fun b hb=>⟨?_,fun x c e=>?_⟩,I.bs,X6 I.ok.bsz I.sz,fun b o e hb=>?_,fun b hb z=>?_,I.stack,I.stkFree⟩
  ·rcases cells x c e1 with a1 | a1
   ·rcases cells y c e2 with a2 | a2
    ·exact name_of_addr okc.apart a1 a2
    ·have:=newc x c a1; have:=oldc y c a2; omega
   ·rcases cells y c e2 with a2 | a2
    ·have:=newc y c a2; have:=oldc x c a1; omega
    ·exact I.ok.inj x y c a1 a2
  ·show ∃ c,(cellsFrom (s.heap.objs.size+1+1) sc.names (clo X.env sc.names [])).lookup x=some c;have hx':(relabel sc X.env).names.lookup x=some .cell \/ (relabel sc X.env).names.lookup x=some .free:=hx;have hk:sc.names.lookup x=some .cell \/ sc.names.lookup x=some .free:=by
    rcases hx' with z | z
    ·rcases ym z with q | q
     ·exact .inl q
     ·exact .inr q.1
    ·rcases ym z with q | q
     ·exact .inr q
     ·cases q.2
   refine Option.isSome_iff_exists.mp (W.cellsFrom_some sc.names _ _ ?_);rcases hk with z | z
   ·exact .inl z
   ·obtain⟨c,q⟩:=WO (env:=X.env) sc.names [] (.inl z);exact .inr (by rw[q]; rfl)
  ·have h1':sc.names.lookup x=some .cell:=by
    have:(sc.names.lookup x==some NameKind.cell)=true:=h1;simpa using this
   have e':(cellsFrom (s.heap.objs.size+1+1) sc.names (clo X.env sc.names [])).lookup x=some c:=e;rw[xw,List.lookup_append] at e';obtain⟨d,q⟩:=Option.isSome_iff_exists.mp (W.cellsFrom_some sc.names (s.heap.objs.size+1+1) [] (.inl h1'));rw[q] at e';have e2:d=c:=Option.some.inj e';subst e2;have:=newc x d (wC q);exact X6 (Nat.le_add_right _ 2) this
  ·exact ane (.inl (wK (hlt b hb)))
  ·rcases cells x c e with a | a
   ·exact ane (.inr (Xt (hlt b hb) (X6 (Nat.le_add_right _ 2) (newc x c a))))
   ·exact(hf b hb).2.2.2.2.1 x c a
  ·have z:=(hf b hb).2.2.2.1;rcases z with z | z
   ·exact I.ok.noex b o e z
   ·exact absurd (Xt (Xt (Xo e) I.ok.bsz) z) (Nat.lt_irrefl _)
  ·have z':b∈frs X.stack:=z;rcases Xk.mp (I.stkSub b z') with q | q
   ·exact(hf b hb).2.1 q
   ·exact(hf b hb).2.2.1 q
 have un1:Un (frs X.stack) fp H (upd H s.heap.objs.size (.lst [])) s.heap (pushCells ((s.heap.push { cls:=.type "list",data:=.seq ([]:List Value).toArray }).push { cls:=.type "dict",data:=.dict #[] }) sc.names):=Un.laid k1 (Xh _) h0;refine⟨ok,rfl,I.bare,un1,⟨_,nsC,fun i x v e1 e2 e3=>?_⟩,fun x c e=>?_,?_,fun x c e=>?_,fun p hp=>absurd (show p∈([]:List (Addr×Obj)) from hp) (by simp),?_,?_⟩
 ·-- the names
  have e1':N[i]?=some x:=e1;have e2':(Y3 own.length ix σ)[i]?=some (some v):=e2;unfold Y3 at e2';by_cases hi:i<own.length
  ·rw[List.getElem?_append_left (by simpa using hi),List.getElem?_replicate] at e2';split at e2' <;> cases e2'
  ·rw[List.getElem?_append_right (by simpa using hi),List.length_replicate,Xy] at e2';rw[B.eq,List.getElem?_append_right (by omega),Xy] at e1';cases q:ix[i-own.length]? with
   | none=>rw[q] at e2'; cases e2'
   | some j=>
    rw[q] at e1' e2';have hj:j∈ix:=XG q;have hjl:=B.lt j hj;have e1'':(X.N[j]?).getD Str.empty=x:=Option.some.inj e1';have ej:X.N[j]?=some x:=by
     cases q2:X.N[j]? with
     | none=>exact absurd (List.getElem?_eq_none_iff.mp q2) (by omega)
     | some y=>rw[q2] at e1''; rw[<- e1'']; rfl
    have hfree:sc.names.lookup x=some .free:=by rw[<- e1'']; exact B.isf j hj
    have e2'':(σ[j]?).join=some v:=Option.some.inj e2';have es:σ[j]?=some (some v):=by
     cases q3:σ[j]? with
     | none=>rw[q3] at e2''; cases e2''
     | some o=>rw[q3] at e2''; exact congrArg some e2''
    have hk:=B.fr (x,.free) (wC hfree) rfl;obtain⟨m,hn,hl⟩:=I.loc;have vis:Vis X.env.scope x:=by
     rcases hk with z | z
     ·exact .inr (.inl z)
     ·exact .inr (.inr z)
    obtain⟨u,r,l⟩:=hl j x v ej es vis;refine⟨u,r,?_⟩;have lc:∃ c,X.env.cells.lookup x=some c/\s.heap.IsCell c (some u):=by
     rcases l with⟨z,_⟩ | ⟨_,c,e,z⟩
     ·have z':X.env.kindOf x=some .local:=z;rcases hk with y | y <;> (rw[z'] at y; cases y)
     ·exact⟨c,e,z⟩
    obtain⟨c,ec,hc⟩:=lc;obtain⟨d,ed⟩:=WO (env:=X.env) sc.names [] (.inl hfree);have edc:d=c:=by
     have:=WN sc.names [] hfr (fun _ _ z=>nomatch z) x d ed;rw[ec] at this;exact(Option.some.inj this).symm
    subst edc;have lk:(cellsFrom (s.heap.objs.size+1+1) sc.names (clo X.env sc.names [])).lookup x=some d:=by
     rw[xw,List.lookup_append];cases q4:(cellsFrom (s.heap.objs.size+1+1) sc.names []).lookup x with
     | none=>exact ed
     | some d'=>
      rcases zW (wC q4) with z | z
      ·have:=B.nm _ z;rw[hfree] at this;cases this
      ·cases z
    refine .inr ⟨?_,d,lk,hc.keeps k1⟩;have vis2:Vis (relabel sc X.env) x:=e3;rcases vis2 with z | z | z
    ·have z':(relabel sc X.env).names.lookup x=some .local:=z;rcases ym z' with q5 | q5
     ·rw[hfree] at q5; cases q5
     ·cases q5.2
    ·exact .inl z
    ·exact .inr z
 ·rcases cells x c e with a | a
  ·exact⟨none,(okc.empty x c a).1⟩
  ·obtain⟨v,z⟩:=I.cell x c a;exact⟨v,z.keeps k1⟩
 ·show upd H s.heap.objs.size (.lst []) (s.heap.objs.size+1)=none;rw[jM (ane (.inr (Nat.lt_succ_self _)))];exact I.hok.fresh (wy _)
 ·rcases cells x c e with a | a
  ·have h2:=newc x c a;rw[jM (ane (.inr (Xt (Nat.lt_add_of_pos_right (by decide)) h2)))];exact I.hok.fresh (X6 (Nat.le_add_right _ 2) h2)
  ·have h2:=oldc x c a;rw[jM (ane (.inl h2))];exact I.freeC x c a
 ·exact I.hok.laid k1 (Xh _) ⟨wH _,[],0,.nil,hD⟩
 ·show (Y3 own.length ix σ).length=N.length;rw[B.eq];unfold Y3;simp
def PIf (Y:Cx) (ifs:List Expr) (t:TT):Prop:=∀ (pins:List (Addr×Obj)) (s:Shared) (σ:St) (H:Hp) (Q:Bool->Hp->Prop),Inv Y pins σ H s->t σ H Q ->
 wpAny (model Y.prog Y.w) Y.A (forIn ifs true fun c r=>if r=true then do let ok <- isTrue c Y.env (eval c Y.env); pure (ForInStep.yield ok) else pure (ForInStep.yield r)) (TP Y pins σ Q) Y.xe s
def jlx:TT:=fun _ H Q=>Q true H
theorem JS {Y:Cx}:PIf Y [] jlx:=fun _ _ σ H _ I h=>wpAny_tests_nil ⟨H,I,h⟩
theorem US {Y:Cx}{c:Expr}{t:TT} (h:PT Y c t):PIf Y [c] t:=fun pins s σ H Q I q=>wpAny_tests_one (h pins s σ H Q I q)
def jha (D:Addr) (J:It) (g:TG) (tc:TT) (te:TE) (σ0:St) (H1:Hp) (Q:VK):Prop:=
 ∃ W:Nat->Nat->List V->St->Hp->Prop,(∃ m,W 0 m [] σ0 (upd H1 D (.lst [])))/\∀ i m ys σ H,W i m ys σ H ->
  (J.stop i H/\Q (.ref D) H) \/ (J.go i H/\∃ N:List V->St->Hp->Prop,(∀ ys' σ' H',N ys' σ' H'->∃ m',m'<m/\W (i+1) m' ys' σ' H')/\∀ x H',J.yld i H x H'->g x σ H' fun σ2 H2=>tc σ2 H2 fun b H3=>
   if b=true then te σ2 H3 fun y H4=>H4 D=some (.lst ys)/\ys.length<sizeLine/\N (ys++[y]) σ2 (upd H4 D (.lst (ys++[y]))) else N ys σ2 H3)
section
variable {elt:Expr}{ifs:List Expr}{g:Blk->TG}{tc:Blk->TT}{te:Blk->TE} 
theorem jds {Q:VK}{RR:Value->Addr->Result->Shared->Prop}{tn:Nat->Heap->Prop} (B:BlkOk X sc own ix N) (hc:X.calm=true)
  (I:Inv X pins σ H s) (T:Turn X.prog X.w X.K tg J fp it tn) (t0:tn 0 s.heap) (hf:∀ b∈fp,jc4 X pins H b)
  (hg:∀ b:Blk,PG (blk X sc N b) tg (g b)) (hi:∀ b:Blk,PIf (blk X sc N b) ifs (tc b)) (he:∀ b:Blk,PE (blk X sc N b) elt (te b))
  (hr:∀ (b:Blk) (D:Addr),H D=none->jha D J (g b) (tc b) (te b) (Y3 own.length ix σ) H Q)
  (hRR:∀ D C s' H' m,Inv X pins σ H' s'->jc4 X pins H' C->s'.heap.Ns C m->Q (.ref D) H'->RR (.ref D) C (.ok .next) s') :
  wpAny (model X.prog X.w) X.A (newList []) (fun acc s₃=>wpAny (model X.prog X.w) X.A (newFunctionEnv sc X.env.globals (clo X.env sc.names []) [] X.env.qual none .none (some X.env)) (fun cenv s₄=>
   codeAny (model X.prog X.w) X.A (.compStart (.ListComp elt [⟨tg,iter,ifs,0⟩] sc pos) 0 (.ref it) acc { cenv with scope:=relabel sc X.env }) (RR acc cenv.locals) s₄) E s₃) E s:=by
 refine wq (jdr ?_);have sz1:(s.heap.push { cls:=.type "list",data:=.seq ([]:List Value).toArray }).objs.size=s.heap.objs.size+1:=wf ..;have hlt:∀ b:Nat,b∈fp->b<s.heap.objs.size:=fun b hb=>by
  obtain⟨o,e,_⟩:=T.obj 0 _ t0 b hb;exact Xo e
 have IY:=jjr B I hf hlt;have k1:∀ b o,s.heap.get? b=some o->(pushCells ((s.heap.push { cls:=.type "list",data:=.seq ([]:List Value).toArray }).push { cls:=.type "dict",data:=.dict #[] }) sc.names).get? b=some o:=
  fun b o e=>pushCells_keeps _ _ b o (Xc _ (Xc _ e))
 dsimp only;rw[sz1];generalize hY:blk X sc N ⟨s.heap.objs.size+1,s,H,fp⟩=Y at IY;have hg':PG Y tg (g ⟨s.heap.objs.size+1,s,H,fp⟩):=hY ▸ hg _;have hi':PIf Y ifs (tc ⟨s.heap.objs.size+1,s,H,fp⟩):=hY ▸ hi _;have he':PE Y elt (te ⟨s.heap.objs.size+1,s,H,fp⟩):=hY ▸ he _;obtain⟨W,⟨m0,w0⟩,turn⟩:=hr ⟨s.heap.objs.size+1,s,H,fp⟩ s.heap.objs.size I.fresh;have eP:Y.prog=X.prog:=by rw[<- hY]; rfl
 have eW:Y.w=X.w:=by rw[<- hY]; rfl
 have eK:Y.K=X.K:=by rw[<- hY]; rfl
 have eA:Y.A=X.A:=by rw[<- hY]; rfl
 have eX:Y.xe=fun _ _=>False:=by rw[<- hY]; rfl
 have eC:Y.calm=true:=by rw[<- hY]; exact hc
 have eL:Y.env.locals=s.heap.objs.size+1:=by rw[<- hY]; rfl
 have eF:Y.fs=frs X.stack:=by rw[<- hY]; rfl
 have eE:Y.ex=fp:=by rw[<- hY]; rfl
 have eN:Y.pn=[]:=by rw[<- hY]; rfl
 have eS:Y.s₀=s:=by rw[<- hY]; rfl
 have eH:Y.H₀=H:=by rw[<- hY]; rfl
 have eEnv:compEnvC sc (cellsFrom (s.heap.objs.size+1+1) sc.names (clo X.env sc.names [])) (s.heap.objs.size+1) X.env=Y.env:=by rw[<- hY]; rfl
 have fpY:∀ {H':Hp},(∀ b∈fp,H' b=none)->∀ b∈fp,jc4 Y [] H' b:=fun hn b hb=>by
  refine⟨hn b hb,?_,?_,.inl (by rw[eE]; exact hb),fun x c e=>?_,fun p hp=>?_⟩
  ·rw[eL];exact ane (.inl (wK (hlt b hb)))
  ·rw[eF];intro z;rcases Xk.mp (I.stkSub b z) with q | q
   ·exact(hf b hb).2.1 q
   ·exact(hf b hb).2.2.1 q
  ·exact(IY.ok.exf b (by rw[eE]; exact hb)).2 x c e
  ·rw[eN] at hp;exact absurd (show p∈([]:List (Addr×Obj)) from hp) (by simp)
 have fpC:∀ {σ':St}{H':Hp}{s':Shared},Inv Y [] σ' H' s'->jc4 X pins H' (s.heap.objs.size+1):=fun {σ' H' s'} J'=>by
  refine⟨by have:=J'.free; rw[eL] at this; exact this,?_,I.nofs (wy _),.inr (X6 I.sz (wy _)),fun x c e z=>?_,fun p hp z=>?_⟩
  ·exact ane (.inr (wK I.lt))
  ·obtain⟨v,q⟩:=I.cell x c e;exact ane (.inl (wK q.lt)) z
  ·exact ane (.inl (wK (Xo (I.pin p hp).1))) z
 have back:∀ {σ':St}{H':Hp}{s':Shared},Inv Y [] σ' H' s'->Inv X pins σ H' s':=fun {σ' H' s'} J'=>by
  refine I.call' (ch:=fp) ?_ ?_ ?_ J'.bare fun b hb=>?_
  ·have:=J'.os;rw[eS] at this;exact this
  ·have:=J'.base;rw[eS,eH,eF,eE] at this;exact this
  ·have:=J'.hok;rw[eP,eW] at this;exact this
  ·obtain⟨f0,f1,f2,f3,f4,f5⟩:=hf b hb;exact⟨f3,f1,f4,f5⟩
 have tests:=hi';have loop:codeAny (model X.prog X.w) X.A (.compLoop (.ListComp elt [⟨tg,iter,ifs,0⟩] sc pos) 0 (.ref it) (.ref s.heap.objs.size) Y.env) (RR (.ref s.heap.objs.size) (s.heap.objs.size+1))
   { s with heap:=pushCells ((s.heap.push { cls:=.type "list",data:=.seq ([]:List Value).toArray }).push { cls:=.type "dict",data:=.dict #[] }) sc.names }:=by
  refine Y2 (fun n s'=>∃ i ys σ' H',Inv Y [] σ' H' s'/\tn i s'.heap/\(∀ b∈fp,H' b=none)/\W i n ys σ' H') ?_ m0
   ⟨0,[],_,_,IY,T.keep _ _ _ t0 fun b _ o e=>k1 b o e,fun b hb=>?_,w0⟩
  ·rintro n s3 ⟨i,ys,σ3,H3,I3,st3,fr3,w3⟩;rcases turn i n ys σ3 H3 w3 with⟨stop,qn⟩ | ⟨go,NN,hN,step⟩
   ·have td:=T.done Y eP eW eK eC i [] s3 σ3 H3 (fun _ _=>False) I3 (fpY fr3) st3 stop;rw[eA] at td;refine thn td fun r s4 ⟨hr',I4⟩=>?_;subst hr';obtain⟨m,hn,_⟩:=I4.loc;rw[eL] at hn;exact hRR _ _ s4 H3 m (back I4) (fpC I4) hn qn
   ·have ti:=T.item Y eP eW eK eC i [] s3 σ3 H3 (fun _ _=>False) I3 (fpY fr3) st3 go;rw[eA] at ti;refine thn ti fun r s4 ⟨u,hr',h4⟩=>?_;subst hr';refine thn h4 fun _ s5 ⟨x,H5,I5,r5,y5,st5,fr5⟩=>?_;have I5':=I5.pinned (fpY fr5) (T.obj _ _ st5);have hgx:=hg' _ s5 σ3 H5 x u _ I5' r5 (step x H5 y5);rw[eP,eW,eA,eX] at hgx;refine thn hgx fun _ s6 ⟨σ6,H6,I6,q6⟩=>?_;have hix:=hi' _ s6 σ6 H6 _ I6 q6;rw[eP,eW,eA,eX] at hix;refine thn hix fun ok s7 ⟨H7,I7,q7⟩=>?_;have again:∀ {σ8:St}{H8:Hp}{s8:Shared}{ys':List V},Inv Y ([]++YR fp s5.heap) σ8 H8 s8->NN ys' σ8 H8->∃ m,m<n/\∃ i ys σ' H',Inv Y [] σ' H' s8/\tn i s8.heap/\(∀ b∈fp,H' b=none)/\W i m ys σ' H':=fun {σ8 H8 s8 ys'} I8 n8=>by
     obtain⟨m',hm,w8⟩:=hN ys' σ8 H8 n8;refine⟨m',hm,i+1,ys',σ8,H8,I8.unpinned,T.keep _ _ _ st5 fun b hb o e=>(I8.pin (b,o) (XM _ (XM _ (Jz hb e)))).1,fun b hb=>?_,w8⟩;obtain⟨o,e,d⟩:=T.obj _ _ st5 b hb;exact(I8.pin (b,o) (XM _ (XM _ (Jz hb e)))).2.1
    cases ok with
    | false=>
     rw[if_neg Xw] at q7 ⊢;exact again I7 q7
    | true=>
     rw[if_pos rfl] at q7 ⊢;have hex:=he' _ s7 σ6 H7 _ I7 q7;rw[eP,eW,eA,eX] at hex;refine thn hex fun y s8 ⟨yv,H8,I8,r8,hD8,hz8,n8⟩=>?_;have ap:=qG (X:=Y) _ s8 σ6 H8 (.ref s.heap.objs.size) [yv] (.ref s.heap.objs.size) [y] (fun v H9=>H9=upd H8 s.heap.objs.size (.lst (ys++[yv]))) I8 rfl (.cons r8 .nil) ⟨_,ys,yv,rfl,rfl,hD8,hz8,rfl⟩;rw[eP,eW,eA,eX] at ap;refine thn ap fun _ s9 ⟨_,H9,I9,_,e9⟩=>?_;subst e9;exact again I9 n8
  ·rw[jM (ane (.inl (hlt b hb)))];exact(hf b hb).1
 have st:tn 0 (pushCells ((s.heap.push { cls:=.type "list",data:=.seq ([]:List Value).toArray }).push { cls:=.type "dict",data:=.dict #[] }) sc.names):=T.keep _ _ _ t0 fun b _ o e=>k1 b o e;have fin:=codeAny_compStart_list (elt:=elt) (target:=tg) (iter:=iter) (ifs:=ifs) (rest:=[]) (scope:=sc) (pos:=pos) loop (T.self _ 0 _ _ _ st loop);rw[<- eEnv] at fin;exact fin
def UT (wi:TI) (n:Nat) (ix:List Nat) (g:Blk->TG) (tc:Blk->TT) (te:Blk->TE):TE:=fun σ H Q=>wi σ H fun J H1=>∀ (b:Blk) (D:Addr),H1 D=none->jha D J (g b) (tc b) (te b) (Y3 n ix σ) H1 Q
theorem yy (B:BlkOk X sc own ix N) (hc:X.calm=true) (hiter:PI X tg iter wi) (hg:∀ b:Blk,PG (blk X sc N b) tg (g b)) (hi:∀ b:Blk,PIf (blk X sc N b) ifs (tc b)) (he:∀ b:Blk,PE (blk X sc N b) elt (te b))
  (hs:∀ x,foldedSetIterable iter X.env x=pure x:=by intro _; rfl):PE X (.ListComp elt [⟨tg,iter,ifs,0⟩] sc pos) (UT wi own.length ix g tc te):=by
 intro pins s σ H Q I h;have hfr:∀ x∈sc.names,x.2=.free->∃ c,X.env.cells.lookup x.1=some c:=fun x hx e=>I.ok.has x.1 (B.fr x hx e);rw[eval_ListComp];refine wpAny_comprehension_free (use:=none) (g:=⟨tg,iter,ifs,0⟩) (gs:=[]) rfl hs (WM hfr) B.kind (fun x hx e=>by rw[B.nm x hx,e]) ?_;refine thn (hiter pins s σ H _ I h) fun v s1 h1=>thn h1 fun itv s2 h2=>?_;obtain⟨it,fp,tn,J,H2,e,I2,T,st2,f2,q⟩:=h2;subst e;refine jds (Q:=Q) B hc I2 T st2 f2 hg hi he q fun D C s' H' m I' fC hn qq=>?_;exact⟨m,hn,fun h' hs'=>⟨.ref D,H',(I'.turned (t':=s'.toks) (fun b o hb e=>(hs'.2 b hb).trans e) fC.1 fC.2.1 fC.2.2.2.1 fC.2.2.2.2.1 fC.2.2.2.2.2),rfl,qq⟩⟩
end
inductive EqR (K:W.Frag) (H:Hp):Nat->V->V->Bool->Prop where
 | flat {n:Nat}{x y:V}:WK x=true->WK y=true->EqR K H n x y (eqV x y)
 | lst {n:Nat}{a b:Addr}{xs ys:List V}{e:Nat->Bool}:SqL K H a xs->SqL K H b ys->xs.length=ys.length->(∀ (j:Nat) x y,xs[j]?=some x->ys[j]?=some y->EqR K H n x y (e j)) ->
   EqR K H (n+1) (.ref a) (.ref b) ((List.range xs.length).all e)
 | lstL {n:Nat}{a b:Addr}{xs ys:List V}:SqL K H a xs->SqL K H b ys->xs.length≠ys.length->EqR K H (n+1) (.ref a) (.ref b) false
 | tup {n:Nat}{a b:Addr}{xs ys:List V}{e:Nat->Bool}:SqT K H a xs->SqT K H b ys->(∀ (j:Nat) x y,xs[j]?=some x->ys[j]?=some y->EqR K H n x y (e j)) ->
   EqR K H (n+1) (.ref a) (.ref b) ((List.range (min xs.length ys.length)).all e&&xs.length==ys.length)
theorem jfJ:∀ {x:V},WK x=true->eqV x x=true
 | .non,_=>rfl
 | .bl b,_=>by simp[eqV]
 | .int b,_=>by simp[eqV]
 | .str b,_=>by simp[eqV]
 | .byt _,h=>by cases h
 | .flt _,h=>by cases h
 | .ref _,h=>by cases h
 | .ty _,h=>by cases h
theorem EqR.refl_true (I:Inv X pins σ H s):∀ {n:Nat}{x y:V}{b:Bool},EqR X.K H n x y b->x=y->b=true:=by
 intro n x y b h
 induction h with
 | flat f1 f2=>intro e; subst e; exact jfJ f1
 | lst h1 h2 hl h3 ih=>
  intro e;cases e;have:=I.list_inj h1 h2;subst this;rw[wz];intro j hj;have hj':=Xu.mp hj;exact ih j _ _ (Xe hj') (Xe hj') rfl
 | lstL h1 h2 hl=>
  intro e;cases e;exact absurd (by rw[I.list_inj h1 h2]) hl
 | tup h1 h2 h3 ih=>
  intro e;cases e;have:=I.tuple_inj h1 h2;subst this;rw[XB];refine⟨?_,by simp⟩;rw[wz];intro j hj;have hj':=Xu.mp hj;rw[Nat.min_self] at hj';exact ih j _ _ (Xe hj') (Xe hj') rfl
theorem UU (A:Around):A.in1.units=A.units+1:=rfl
theorem EqR.at (I:Inv X pins σ H s):∀ {n:Nat}{x y:V}{b:Bool},EqR X.K H n x y b->∀ {u v:Value}{A:Around},RelV x u->RelV y v->A.units+n<cLine ->
  SeqAt.EqAt A s u v b/\(WK x=false->SeqAt.RcAt A s u v b/\SeqAt.RcNeAt A s u v (!b)):=by
 intro n x y b h
 induction h with
 | flat f1 f2=>intro u v A r1 r2 hu; exact ⟨jjp r1 r2 f1 f2,fun z=>by rw[f1] at z; cases z⟩
 | @lst n a c xs ys e h1 h2 hl h3 ih=>
  intro u v A r1 r2 hu;cases r1;cases r2;obtain⟨its,q1,p1,_⟩:=I.list h1;obtain⟨its',q2,p2,_⟩:=I.list h2;have l1:=q1.length;have l2:=q2.length;have key:∀ j (g1:j<its.toArray.size) (g2:j<its'.toArray.size),SeqAt.EqAt A.in1 s its.toArray[j] its'.toArray[j] (e j):=fun j g1 g2=>by
   have g1':j<its.length:=by simpa using g1
   have g2':j<its'.length:=by simpa using g2
   obtain⟨x,hx,rx⟩:∃ x,xs[j]?=some x/\RelV x its[j]:=by
    obtain⟨u',hu',ru'⟩:=q1.get (Xe (by omega:j<xs.length));rw[Xe g1'] at hu';cases hu';exact⟨_,Xe (by omega),ru'⟩
   obtain⟨y,hy,ry⟩:∃ y,ys[j]?=some y/\RelV y its'[j]:=by
    obtain⟨u',hu',ru'⟩:=q2.get (Xe (by omega:j<ys.length));rw[Xe g2'] at hu';cases hu';exact⟨_,Xe (by omega),ru'⟩
   exact(ih j x y hx hy rx ry (by rw[UU]; omega)).1
  have hz:its.toArray.size=its'.toArray.size:=by simp; omega
  have hu':A.units<cLine:=by omega
  have e1:(List.range its.toArray.size).all e=(List.range xs.length).all e:=by rw[Xq,<- l1]
  have rc:SeqAt.RcAt A s (.ref a) (.ref c) ((List.range xs.length).all e):=by rw[<- e1]; exact SeqAt.RcAt.lists p1.isList p2.isList hz hu' key
  have rn:SeqAt.RcNeAt A s (.ref a) (.ref c) (!(List.range xs.length).all e):=by rw[<- e1]; exact SeqAt.RcNeAt.lists p1.isList p2.isList hz hu' key
  refine⟨?_,fun _=>⟨rc,rn⟩⟩;by_cases hac:a=c
  ·subst hac;have:(List.range xs.length).all e=true:=EqR.refl_true I (EqR.lst h1 h2 hl h3) rfl;rw[this];exact SeqAt.EqAt.same _
  ·exact SeqAt.EqAt.of_refs hac rc
 | @lstL n a c xs ys h1 h2 hl=>
  intro u v A r1 r2 hu;cases r1;cases r2;obtain⟨its,q1,p1,_⟩:=I.list h1;obtain⟨its',q2,p2,_⟩:=I.list h2;have l1:=q1.length;have l2:=q2.length;have hz:(its.toArray.size != its'.toArray.size)=true:=by simp; omega
  have hu':A.units<cLine:=by omega
  have rc:SeqAt.RcAt A s (.ref a) (.ref c) false:=SeqAt.RcAt.lists_lengths p1.isList p2.isList hz hu';refine⟨SeqAt.EqAt.of_refs (fun z=>?_) rc,fun _=>⟨rc,SeqAt.RcNeAt.lists_lengths p1.isList p2.isList hz hu'⟩⟩;subst z;exact hl (by rw[I.list_inj h1 h2])
 | @tup n a c xs ys e h1 h2 h3 ih=>
  intro u v A r1 r2 hu;cases r1;cases r2;obtain⟨its,q1,p1,_⟩:=I.tuple h1;obtain⟨its',q2,p2,_⟩:=I.tuple h2;have l1:=q1.length;have l2:=q2.length;have key:∀ j (g1:j<its.toArray.size) (g2:j<its'.toArray.size),SeqAt.EqAt A.in1 s its.toArray[j] its'.toArray[j] (e j):=fun j g1 g2=>by
   have g1':j<its.length:=by simpa using g1
   have g2':j<its'.length:=by simpa using g2
   obtain⟨x,hx,rx⟩:∃ x,xs[j]?=some x/\RelV x its[j]:=by
    obtain⟨u',hu',ru'⟩:=q1.get (Xe (by omega:j<xs.length));rw[Xe g1'] at hu';cases hu';exact⟨_,Xe (by omega),ru'⟩
   obtain⟨y,hy,ry⟩:∃ y,ys[j]?=some y/\RelV y its'[j]:=by
    obtain⟨u',hu',ru'⟩:=q2.get (Xe (by omega:j<ys.length));rw[Xe g2'] at hu';cases hu';exact⟨_,Xe (by omega),ru'⟩
   exact(ih j x y hx hy rx ry (by rw[UU]; omega)).1
  have hu':A.units<cLine:=by omega
  have e1:((List.range (min its.toArray.size its'.toArray.size)).all e&&its.toArray.size==its'.toArray.size)=((List.range (min xs.length ys.length)).all e&&xs.length==ys.length):=by rw[Xq,Xq,<- l1,<- l2]
  have rc:SeqAt.RcAt A s (.ref a) (.ref c) ((List.range (min xs.length ys.length)).all e&&xs.length==ys.length):=by rw[<- e1]; exact SeqAt.RcAt.tuples p1 p2 hu' key
  have rn:SeqAt.RcNeAt A s (.ref a) (.ref c) (!((List.range (min xs.length ys.length)).all e&&xs.length==ys.length)):=by rw[<- e1]; exact SeqAt.RcNeAt.tuples p1 p2 hu' key
  refine⟨?_,fun _=>⟨rc,rn⟩⟩;by_cases hac:a=c
  ·subst hac;have:((List.range (min xs.length ys.length)).all e&&xs.length==ys.length)=true:=EqR.refl_true I (EqR.tup h1 h2 h3) rfl;rw[this];exact SeqAt.EqAt.same _
  ·exact SeqAt.EqAt.of_refs hac rc
noncomputable def bq {α:Type} (a b:α):Bool:=@decide (a=b) (Classical.propDecidable (a=b))
theorem bq_iff {a b:α}:bq a b=true ↔ a=b:=by unfold bq; simp
theorem jbe {a b:α} (h:¬ a=b):bq a b=false:=by
 cases e:bq a b with
 | false=>rfl
 | true=>exact absurd (bq_iff.mp e) h
theorem Y4 [DecidableEq α] {a b:α}:bq a b=decide (a=b):=by
 rw[XR,bq_iff,Xs]
structure Cod (α:Type) where
 dp:Nat
 rep:W.Frag->Hp->α->V->Prop
 mono:∀ {K H H' a x},Same H H'->rep K H a x->rep K H' a x
 eqr:∀ {K H a b x y},rep K H a x->rep K H b y->EqR K H dp x y (bq a b)
theorem Same.tupq (e:Same H H') (h:SqT K H a xs):SqT K H' a xs:=by
 rcases h with (h | ⟨o,h⟩) | h
 ·exact .inl (.inl (e _ _ h))
 ·exact .inl (.inr ⟨o,e _ _ h⟩)
 ·exact .inr h
def cInt:Cod Int where
 dp:=0
 rep:=fun _ _ i x=>x=.int i
 mono:=fun _ h=>h
 eqr:=fun {K H a b x y} h1 h2=>by
  subst h1; subst h2;have:bq a b=eqV (.int a) (.int b):=by rw[Y4,eqV,Bool.beq_eq_decide_eq]
  rw[this];exact EqR.flat rfl rfl
def cBl:Cod Bool where
 dp:=0
 rep:=fun _ _ i x=>x=.bl i
 mono:=fun _ h=>h
 eqr:=fun {K H a b x y} h1 h2=>by
  subst h1; subst h2;have:bq a b=eqV (.bl a) (.bl b):=by rw[Y4,eqV,Bool.beq_eq_decide_eq]
  rw[this];exact EqR.flat rfl rfl
theorem Paired.getP {F:α->β->Prop}:∀ {l:List α}{m:List β}{j:Nat}{x:α}{y:β},Paired F l m->l[j]?=some x->m[j]?=some y->F x y
 | _,_,_,_,_,.nil,h,_=>by simp at h
 | _,_,0,_,_,.cons r _,h,h'=>by simp at h h'; subst h; subst h'; exact r
 | _,_,j+1,_,_,.cons _ t,h,h'=>Paired.getP (j:=j) t (by simpa using h) (by simpa using h')
theorem jhb (l m:List α) (hl:l.length=m.length):(List.range l.length).all (fun j=>bq (l[j]?) (m[j]?))=bq l m:=by
 rw[XR,wz,bq_iff];simp only[bq_iff,Xu];constructor
 ·intro h;refine List.ext_getElem? fun j=>?_;by_cases hj:j<l.length
  ·exact h j hj
  ·rw[List.getElem?_eq_none (by omega),List.getElem?_eq_none (by omega)]
 ·intro h j _;rw[h]
theorem Y5 (c:Cod α) {m:List α} (p:Paired (c.rep K H) l xs) (q:Paired (c.rep K H) m ys) (j:Nat) (x y:V) (hx:xs[j]?=some x) (hy:ys[j]?=some y) :
  EqR K H c.dp x y (bq (l[j]?) (m[j]?)):=by
 have h1:j<l.length:=by rw[p.length]; exact (List.getElem?_eq_some_iff.mp hx).1
 have h2:j<m.length:=by rw[q.length]; exact (List.getElem?_eq_some_iff.mp hy).1
 have e1:l[j]?=some l[j]:=Xe h1;have e2:m[j]?=some m[j]:=Xe h2;have r:=c.eqr (Paired.getP p e1 hx) (Paired.getP q e2 hy);have:bq (l[j]?) (m[j]?)=bq l[j] m[j]:=by
  rw[XR,bq_iff,bq_iff,e1,e2,Option.some.injEq]
 rw[this];exact r
def jlO (c:Cod α):Cod (List α) where
 dp:=c.dp+1
 rep:=fun K H l x=>∃ a xs,x=.ref a/\SqL K H a xs/\Paired (c.rep K H) l xs
 mono:=fun e ⟨a,xs,e1,h,p⟩=>⟨a,xs,e1,e.seq h,Paired.mapP p fun _ _=>c.mono e⟩
 eqr:=fun {K H l m x y} ⟨a,xs,e1,h1,p1⟩ ⟨b,ys,e2,h2,p2⟩=>by
  subst e1; subst e2;have g1:=p1.length;have g2:=p2.length;by_cases hl:l.length=m.length
  ·have r:=EqR.lst (n:=c.dp) h1 h2 (by omega) (Y5 c p1 p2);rw[<- g1,jhb l m hl] at r;exact r
  ·rw[jbe (fun e=>hl (by rw[e]))];exact EqR.lstL h1 h2 (by omega)
def jlP (c:Cod α):Cod (List α) where
 dp:=c.dp+1
 rep:=fun K H l x=>∃ a xs,x=.ref a/\SqT K H a xs/\Paired (c.rep K H) l xs
 mono:=fun e ⟨a,xs,e1,h,p⟩=>⟨a,xs,e1,e.tupq h,Paired.mapP p fun _ _=>c.mono e⟩
 eqr:=fun {K H l m x y} ⟨a,xs,e1,h1,p1⟩ ⟨b,ys,e2,h2,p2⟩=>by
  subst e1; subst e2;have r:=EqR.tup (n:=c.dp) h1 h2 (Y5 c p1 p2);rw[<- p1.length,<- p2.length] at r;by_cases hl:l.length=m.length
  ·have e:((List.range (min l.length m.length)).all (fun j=>bq (l[j]?) (m[j]?))&&l.length==m.length)=bq l m:=by
    rw[<- hl,Nat.min_self,jhb l m hl];simp
   rw[<- e];exact r
  ·have e:((List.range (min l.length m.length)).all (fun j=>bq (l[j]?) (m[j]?))&&l.length==m.length)=false:=by
    have:(l.length==m.length)=false:=by simpa using hl
    rw[this,Bool.and_false]
   rw[jbe (fun e=>hl (by rw[e])),<- e];exact r
def jkI (K:W.Frag) (neg:Bool):R2:=fun x y H Q=>∃ n b,EqR K H n x y b/\n<=100/\WK x=false/\Q (.bl (if neg then !b else b)) H
section
theorem jhc (hu:X.A.units+200<cLine):OpR X (compareOp .Eq) (jkI X.K false):=by
 intro pins s σ H x y v u Q I rx ry h;obtain⟨n,b,e,hn,hf,q⟩:=h;obtain⟨_,h2⟩:=EqR.at I e (A:=X.A) rx ry (by omega);exact(h2 hf).1 X.prog X.w X.xe _ ⟨.bl b,H,I,rfl,q⟩
theorem jdt (hu:X.A.units+200<cLine):OpR X (compareOp .NotEq) (jkI X.K true):=by
 intro pins s σ H x y v u Q I rx ry h;obtain⟨n,b,e,hn,hf,q⟩:=h;obtain⟨_,h2⟩:=EqR.at I e (A:=X.A) rx ry (by omega);exact(h2 hf).2 X.prog X.w X.xe _ ⟨.bl (!b),H,I,rfl,q⟩
theorem Cod.inj (c:Cod α) (I:Inv X pins σ H s) {a b:α}{x:V} (h1:c.rep X.K H a x) (h2:c.rep X.K H b x):a=b:=
 bq_iff.mp (EqR.refl_true I (c.eqr h1 h2) rfl)
theorem WP {F:α->V->Prop}:∀ {l:List α}{xs:List V}{us:List Value},Paired F l xs->Vals xs us->∀ u∈us,∃ a∈l,∃ x,F a x/\RelV x u
 | _,_,_,.nil,.nil,u,hu=>by cases hu
 | _,_,_,.cons r t,.cons r' t',u,hu=>by
  rcases Xk.mp hu with rfl | hu
  ·exact⟨_,Xi,_,r,r'⟩
  ·obtain⟨a,ha,x,h⟩:=WP t t' u hu;exact⟨a,Xf _ ha,x,h⟩
theorem jbf {F:α->V->Prop}:∀ {l:List α}{xs:List V}{us:List Value},Paired F l xs->Vals xs us->∀ a∈l,∃ u∈us,∃ x,F a x/\RelV x u
 | _,_,_,.nil,.nil,u,hu=>by cases hu
 | _,_,_,.cons r t,.cons r' t',a,ha=>by
  rcases Xk.mp ha with rfl | ha
  ·exact⟨_,Xi,_,r,r'⟩
  ·obtain⟨u,hu,x,h⟩:=jbf t t' a ha;exact⟨u,Xf _ hu,x,h⟩
def jjs (K:W.Frag) (neg:Bool):R2:=fun x y H Q=>∃ (α:Type) (c:Cod α) (a:α) (l:List α) (p:Addr) (xs:List V) (k:Bool),c.dp<=100/\c.rep K H a x/\y=.ref p/\(SqL K H p xs \/ SqT K H p xs)/\Paired (c.rep K H) l xs /\
 (k=true ↔ a∈l)/\Q (.bl (if neg then !k else k)) H
open Classical in
theorem WQ {c:Cod α}{x:V}{a:α}{k:Bool} (hu:X.A.units+200<cLine) (I:Inv X pins σ H s) (hn:c.dp<=100) (ra:c.rep X.K H a x) (rx:RelV x v)
  (p:Paired (c.rep X.K H) l xs) (r:Vals xs us) (hk:k=true ↔ a∈l) :
  (∀ y,y∈us.toArray->SeqAt.EqAt X.A.in1 s y v (decide (∃ z,RelV z y/\c.rep X.K H a z)))/\(us.toArray.any fun y=>decide (∃ z,RelV z y/\c.rep X.K H a z))=k:=by
 constructor
 ·intro y hy;obtain⟨b,hb,z,hz,rz⟩:=WP p r y (by simpa using hy);have q:=(EqR.at I (c.eqr hz ra) (A:=X.A.in1) rz rx (by rw[UU]; omega)).1;have e:bq b a=decide (∃ z,RelV z y/\c.rep X.K H a z):=by
   rw[XR,bq_iff,Xs];constructor
   ·intro e; subst e; exact ⟨z,rz,hz⟩
   ·rintro⟨z',rz',hz'⟩;have:z'=z:=rz'.inj rz;subst this;exact c.inj I hz hz'
  rw[<- e];exact q
 ·rw[XR,hk,Array.any_eq_true'];simp only[Xs];constructor
  ·rintro⟨y,hy,z,rz,hz⟩;obtain⟨b,hb,z',hz',rz'⟩:=WP p r y (by simpa using hy);have:z'=z:=rz'.inj rz;subst this;rw[c.inj I hz hz'];exact hb
  ·intro ha;obtain⟨u,hu',z,hz,rz⟩:=jbf p r a ha;exact⟨u,by simpa using hu',z,rz,hz⟩
open Classical in
theorem jhd (hu:X.A.units+200<cLine):OpR X (compareOp .In) (jjs X.K false):=by
 intro pins s σ H x y v u Q I rx ry h;obtain⟨α,c,a,l,p,xs,k,hn,ra,e,hq,pr,hk,q⟩:=h;subst e;cases ry;rcases hq with hq | hq
 ·obtain⟨its,r,pl,hz⟩:=I.list hq;obtain⟨h1,h2⟩:=WQ hu I hn ra rx pr r hk;exact SeqAt.in_listAt _ pl.isList h1 ⟨.bl k,H,I,by rw[h2]; rfl,q⟩
 ·obtain⟨its,r,pl,hz⟩:=I.tuple hq;obtain⟨h1,h2⟩:=WQ hu I hn ra rx pr r hk;exact SeqAt.in_tupleAt _ pl h1 ⟨.bl k,H,I,by rw[h2]; rfl,q⟩
open Classical in
theorem jdu (hu:X.A.units+200<cLine):OpR X (compareOp .NotIn) (jjs X.K true):=by
 intro pins s σ H x y v u Q I rx ry h;obtain⟨α,c,a,l,p,xs,k,hn,ra,e,hq,pr,hk,q⟩:=h;subst e;cases ry;rcases hq with hq | hq
 ·obtain⟨its,r,pl,hz⟩:=I.list hq;obtain⟨h1,h2⟩:=WQ hu I hn ra rx pr r hk;exact SeqAt.notIn_listAt _ pl.isList h1 ⟨.bl (!k),H,I,by rw[h2]; rfl,q⟩
 ·obtain⟨its,r,pl,hz⟩:=I.tuple hq;obtain⟨h1,h2⟩:=WQ hu I hn ra rx pr r hk;exact SeqAt.notIn_tupleAt _ pl h1 ⟨.bl (!k),H,I,by rw[h2]; rfl,q⟩
theorem jdv {d:α} (h:i<l.length):l.getD i d=l[i]:=by
 rw[X9,Xe h];rfl
theorem WR (bs:List Bool):(List.range bs.length).all (fun i=>bs.getD i false)=bs.all id:=by
 rw[XR,wz,wz];constructor
 ·intro h b hb;obtain⟨j,hj,e⟩:=List.mem_iff_getElem.mp hb;have:=h j (Xu.mpr hj);rw[jdv hj,e] at this;exact this
 ·intro h j hj;have hj':=Xu.mp hj;rw[jdv hj'];exact h _ (List.getElem_mem hj')
theorem WS (bs:List Bool):(List.range bs.length).any (fun i=>bs.getD i false)=bs.any id:=by
 rw[XR,List.any_eq_true,List.any_eq_true];constructor
 ·rintro⟨j,hj,h⟩;have hj':=Xu.mp hj;rw[jdv hj'] at h;exact⟨_,List.getElem_mem hj',h⟩
 ·rintro⟨b,hb,h⟩;obtain⟨j,hj,e⟩:=List.mem_iff_getElem.mp hb;exact⟨j,Xu.mpr hj,by rw[jdv hj,e]; exact h⟩
theorem UV {P:Program}{bs:List Bool} (r:Vals (bs.map V.bl) us):TruthOf P w A (fun i v=>us.toArray[i]?=some v) (fun i=>bs.getD i false):=by
 intro i v s Q E hv hq;have hi:i<us.length:=by
  have:=(Array.getElem?_eq_some_iff.mp hv).1;simpa using this
 have hl:=r.length;rw[Xr] at hl;have hb:i<bs.length:=by omega
 obtain⟨u,hu,ru⟩:=r.get (i:=i) (x:=.bl bs[i]) (by rw[Xy,Xe hb]; rfl);have:u=v:=by
  have hv':us[i]?=some v:=by simpa using hv
  rw[hu] at hv';exact Option.some.inj hv'
 subst this;cases ru;refine wm ?_;have e:bs.getD i false=bs[i]:=jdv hb;rw[<- e];exact hq
theorem UB (hc:X.calm=true):GN X (.builtin "all") (fun xs H Q=>∃ (p:Addr) (bs:List Bool),xs=[.ref p]/\SqL X.K H p (bs.map V.bl)/\Q (.bl (bs.all id)) H):=by
 intro pins s σ H xs us Q I r h;obtain⟨p,bs,e,hq,q⟩:=h;subst e;obtain⟨u,rfl,rx⟩:=r.one;cases rx;obtain⟨its,rv,pl,hz⟩:=I.list hq;have hl:=rv.length;rw[Xr] at hl;have hp:p<s.heap.objs.size:=by
  obtain⟨o,e,_⟩:=pl.isList;exact Xo e
 refine call_all_walk (wpAny_pyIter_list pl.isList ?_);refine⟨_,_,_,_,_,_,_,rfl,Walks.list (A:=X.A.in1) (I.ok.hd hc) s.heap.objs.size p (XA hp) its.toArray,⟨⟨_,Xn _ rfl,rfl,rfl⟩,pl.isList.at fun o e=>Xc _ e⟩,UV rv,fun h' tk hk=>?_⟩;refine⟨.bl (bs.all id),H,I.kept (t':=tk) fun b o e=>hk b o ?_ (Xc _ e),?_,q⟩
 ·intro z;rcases Xk.mp z with z | z
  ·exact absurd (z ▸ Xo e) (Nat.lt_irrefl _)
  ·cases z
 ·show Value.bool _=Value.bool _;rw[Xq,<- hl,WR]
theorem jfK (hc:X.calm=true):GN X (.builtin "any") (fun xs H Q=>∃ (p:Addr) (bs:List Bool),xs=[.ref p]/\SqL X.K H p (bs.map V.bl)/\Q (.bl (bs.any id)) H):=by
 intro pins s σ H xs us Q I r h;obtain⟨p,bs,e,hq,q⟩:=h;subst e;obtain⟨u,rfl,rx⟩:=r.one;cases rx;obtain⟨its,rv,pl,hz⟩:=I.list hq;have hl:=rv.length;rw[Xr] at hl;have hp:p<s.heap.objs.size:=by
  obtain⟨o,e,_⟩:=pl.isList;exact Xo e
 refine call_any_walk (wpAny_pyIter_list pl.isList ?_);refine⟨_,_,_,_,_,_,_,rfl,Walks.list (A:=X.A.in1) (I.ok.hd hc) s.heap.objs.size p (XA hp) its.toArray,⟨⟨_,Xn _ rfl,rfl,rfl⟩,pl.isList.at fun o e=>Xc _ e⟩,UV rv,fun h' tk hk=>?_⟩;refine⟨.bl (bs.any id),H,I.kept (t':=tk) fun b o e=>hk b o ?_ (Xc _ e),?_,q⟩
 ·intro z;rcases Xk.mp z with z | z
  ·exact absurd (z ▸ Xo e) (Nat.lt_irrefl _)
  ·cases z
 ·show Value.bool _=Value.bool _;rw[Xq,<- hl,WS]
theorem Qg:GN X (.builtin "isinstance") (fun xs H Q=>∃ x c cv t b,xs=[x,c]/\(∀ u,RelV c u->u=cv)/\TyOf X.K H x t/\W.kitOne X.K t cv=some b/\Q (.bl b) H):=by
 intro pins s σ H xs us Q I r h;obtain⟨x,c,cv,t,b,e,hc,ty,hk,q⟩:=h;subst e;obtain⟨u,v,rfl,rx,rc⟩:=r.two;have:=hc v rc;subst this;exact jdc I rx ty hk fun tk=>⟨.bl b,H,I.tok tk,rfl,q⟩
theorem jdw:MtR X "int.bit_length" (fun x vs H Q=>∃ i,x=.int i/\vs=[]/\Q (.int (Builtin.Int.intBits i)) H):=by
 intro pins s σ H x xs v us Q I rx rv h;obtain⟨i,e1,e2,q⟩:=h;subst e1; subst e2;obtain⟨t,rfl⟩:=rx;have:=rv.zero;subst this;exact call_gives F.slot_int_bit_length (typeIs_int s i t) F.entry_int_bit_length (F.args_int_bit_length_1 _) (AutoIntG2.int_bit_length_int_0 i t) ⟨.int _,H,I.tok _,⟨_,rfl⟩,q⟩
def jb0 (i j:Int):Prop:=0<j/\j<2 ^ 1000
theorem xx:OpR X (binaryOp .FloorDiv) (rI jb0 fun i j=>.int (i / j)):=opI fun i j t u s Q E hc q=>by
 refine floordiv_int (by have:=hc.1; omega) ?_ (.inl (PyProof.noPylong_of_log2 ?_))
 ·rw[Int.fdiv_eq_ediv_of_nonneg _ (by have:=hc.1; omega)];exact q
 ·have h1:=hc.1;have h2:=hc.2;have:j.natAbs<2 ^ 1000:=by omega
  have h3:j.natAbs≠0:=by omega
  have:=(Nat.log2_lt h3).mpr this;omega
end
def jly (X:Cx) (sc:Scope) (ix:List Nat):Bool:=
 (sc.kind==.function)&&sc.names.all (fun x=>sc.names.lookup x.1==some x.2)&&sc.names.all (fun x=>x.2 != .free||(X.env.kindOf x.1==some .cell||X.env.kindOf x.1==some .free)) &&
  ix.all (fun i=>decide (i<X.N.length))&&ix.all (fun i=>sc.names.lookup ((X.N[i]?).getD Str.empty)==some .free)
theorem GD (h:jly X sc ix=true):BlkOk X sc own ix (own++ix.map fun i=>(X.N[i]?).getD Str.empty):=by
 unfold jly at h;simp only[XB,wz,wj,Xs,Bool.or_eq_true,bne_iff_ne] at h;obtain⟨⟨⟨⟨h1,h2⟩,h3⟩,h4⟩,h5⟩:=h;exact⟨h1,h2,fun x hx e=>(h3 x hx).resolve_left (fun z=>z e),rfl,h4,h5⟩
structure Def (P:Program) (w:World) (K:W.Frag) (mg:Str->Option Value) (base:Heap) (x:Str) (k:Nat) (ps:List Str) (sp:Sp):Prop where
 ex:∃ f fd,FnOk P w K mg base CX0 k f fd ps sp/\mg x=some (.ref f)/\W.keepIn K (.ref f)=true/\Binds K fd ps []
structure Mth (P:Program) (w:World) (K:W.Frag) (mg:Str->Option Value) (base:Heap) (C:Addr) (m:Str) (k:Nat) (ps:List Str) (sp:Sp):Prop where
 ex:∃ f fd,FnOk P w K mg base CX0 k f fd ps sp/\Meth K C m f/\Binds K fd ps []
 cl:Cls K C
structure Kls (P:Program) (w:World) (K:W.Frag) (mg:Str->Option Value) (base:Heap) (x:Str) (C:Addr) (k:Nat) (ps:List Str) (sp:Sp):Prop where
 ex:∃ f fd,Mk K C f/\FnOk P w K mg base CX0 k f fd ps sp/\mg x=some (.ref C)/\Binds K fd ps []
section
variable {k:Nat}{m:Str}{o:Expr}{t:TA}
theorem jjt (D:Def X.prog X.w X.K X.mg X.base x k ps sp) (hr:Room k X.A) (hg:Gl X x) (ha:PA X (e::es) t) (hdb:(x==("__debug__":Str))=false:=by decide) (he:starEach (e::es) X.env=(false,eval e X.env)::starEach es X.env:=by rfl)
  (hpl:(backTo pos (starEach es X.env)).any (·.1)=false:=by rfl):PE X (.Call (.Name x p) (e::es) [] pos) (JR sp [] E0 t):=by
 obtain⟨f,fd,F,hm,hk,hb⟩:=D.ex;exact jhL F hr hg hm hk hb .nil jfI ha hdb he hpl
theorem ze (D:Mth X.prog X.w X.K X.mg X.base C m k ps sp) (hr:Room k X.A) (ho:PE X o ta) (ha:PA X (e::es) t)
  (hst:starEach (e::es) X.env=(false,eval e X.env)::starEach es X.env:=by rfl) (hpl:(backTo pos (starEach es X.env)).any (·.1)=false:=by rfl)
  (ht:eval (.Call (.Attribute o m apos) (e::es) [] pos) X.env=(do
   let ov <- eval o X.env
   standAt apos.atName
   let (f,first) <- holding [ov] (getMethod ov m pl)
   callWith pos f first (backTo pos (starEach (e::es) X.env)) (backToKw pos (keywordEach [] X.env))):=by rfl) :
  PE X (.Call (.Attribute o m apos) (e::es) [] pos) (VS C m sp [] E0 ta t):=by
 obtain⟨f,fd,F,hm,hb⟩:=D.ex;exact jhM (pl:=pl) ho D.cl hm F hr hb .nil jfI ha hst hpl ht
theorem Z_ (D:Mth X.prog X.w X.K X.mg X.base C m k ps sp) (hr:Room k X.A) (ho:PE X o ta)
  (ht:eval (.Call (.Attribute o m apos) [] [] pos) X.env=(do
   let ov <- eval o X.env
   standAt apos.atName
   let (f,first) <- holding [ov] (getMethod ov m pl)
   callWith pos f first (backTo pos (starEach [] X.env)) (backToKw pos (keywordEach [] X.env))):=by rfl) :
  PE X (.Call (.Attribute o m apos) [] [] pos) (VS C m sp [] E0 ta xb):=by
 obtain⟨f,fd,F,hm,hb⟩:=D.ex;exact jfz (pl:=pl) ho D.cl hm F hr hb .nil jfI ht
theorem Y6 (D:Kls X.prog X.w X.K X.mg X.base x C k ps sp) (hr:Room (k+1) X.A) (hg:Gl X x) (ha:PA X (e::es) t) (hdb:(x==("__debug__":Str))=false:=by decide) (he:starEach (e::es) X.env=(false,eval e X.env)::starEach es X.env:=by rfl)
  (hpl:(backTo pos (starEach es X.env)).any (·.1)=false:=by rfl):PE X (.Call (.Name x p) (e::es) [] pos) (jfy C sp [] E0 t):=by
 obtain⟨f,fd,M,F,hm,hb⟩:=D.ex;exact jhN M F hr hg hm hb .nil jfI ha hdb he hpl
end
def Ite (K:W.Frag) (a:Addr):It:=
 ⟨fun i H=>∃ xs x,SqL K H a xs/\xs[i]?=some x,fun i H v H'=>∃ p x,H p=none/\v=.ref p/\H'=upd H p (.tup [.int i,x])/\∀ xs,SqL K H a xs->xs[i]?=some x,fun i H=>∃ xs,SqL K H a xs/\xs.length<=i⟩
theorem jdx {P:Program}{x1:Nat} (a it e:Addr) (hne:e≠it) :
  Turn P w K (.Tuple elts x1 pos) (Ite K a) [e,it] e (fun i h=>(∃ old,IsEnum h e it (i:Nat) old)/\h.IsListIter it a i) where
 mem:=by simp
 obj:=fun i h st b hb=>by
  obtain⟨⟨old,e1⟩,e2⟩:=st;rcases Xk.mp hb with rfl | hb
  ·exact⟨_,e1,fun v z=>by
    have z':Data.fields _=Data.cell v:=z;cases z'⟩
  ·have e:b=it:=by simpa using hb
   subst e;obtain⟨o,e,c,d⟩:=e2;exact⟨o,e,fun v z=>by rw[d] at z; cases z⟩
 keep:=fun i h h' st k=>⟨let ⟨old,e1⟩:=st.1; ⟨old,k e (by simp) _ e1⟩,st.2.at fun o e'=>k it (by simp) o e'⟩
 item:=by
  intro X hP hw hK hc i pins s σ H E I hf st hg;subst hP hw hK;obtain⟨xs,x,hq,hx⟩:=hg;obtain⟨its,rv,p,hz⟩:=I.list hq;obtain⟨u,hu,ru⟩:=rv.get hx;obtain⟨⟨old,e1⟩,e2⟩:=st;obtain⟨f0,f1,f2,f3,f4,f5⟩:=hf e (by simp);obtain⟨g0,g1,g2,g3,g4,g5⟩:=hf it (by simp);refine wpAny_pyNext_enum_item e1 e2 p.isList (x:=u) (by simpa using hu) hne fun h' eo el et hsz kp=>?_;refine⟨_,rfl,wpAny_letOwnedTupleGo_enum eo fun h'' ee sb=>?_⟩;have ltE:e<s.heap.objs.size:=Xo e1;have ltI:it<s.heap.objs.size:=by obtain⟨o,q,_⟩:=e2; exact Xo q
  have k2:∀ b o,b≠e->b≠it->s.heap.get? b=some o->h''.get? b=some o:=fun b o h1 h2 q=>(sb.2 b h1).trans (kp b o h1 h2 q);have et2:h''.get? s.heap.objs.size=some { cls:=.type "tuple",data:=.seq #[.int i s.toks,u] }:=(sb.2 _ (wQ ltE)).trans et;have hfr:H s.heap.objs.size=none:=I.fresh;have it2:h''.IsListIter it a (i+1):=el.at fun o q=>(sb.2 it (Ne.symm hne)).trans q;have hok:HOk X.prog X.w (upd H s.heap.objs.size (.tup [.int i,x])) h'':=by
   have st0:HOk X.prog X.w H h'':=fun b o q=>(I.hok b o q).stay (fun c v hcv z=>k2 c v (fun y=>by
     rcases hcv with w' | w'
     ·rw[<- w',y] at q; rw[f0] at q; cases q
     ·rw[y] at w'; rw[f0] at w'; cases w') (fun y=>by
     rcases hcv with w' | w'
     ·rw[<- w',y] at q; rw[g0] at q; cases q
     ·rw[y] at w'; rw[g0] at w'; cases w') z) (fun _ z=>z) fun _ _ z=>z
   intro b o q;by_cases hb:b=s.heap.objs.size
   ·subst hb;rw[jV] at q;cases q;exact⟨by show 2<=sizeLine; decide,[.int i s.toks,u],.cons ⟨_,rfl⟩ (.cons ru .nil),⟨_,et2,⟨rfl,rfl⟩,_,rfl⟩⟩
   ·rw[jM hb] at q;exact(st0 b o q).stay (fun c v _ z=>z) (fun c z=>by rw[jM (kK z hfr)]; exact z) fun c xs z=>by rw[jM (kK z hfr)]; exact z
  have I1:Inv X pins σ (upd H s.heap.objs.size (.tup [.int i,x])) { s with heap:=h'',toks:=s.toks+1 }:=by
   refine I.step (g':=s.gens) (d':=s.drawn) (ch:=[e,it]) (fun b hb=>?_) (fun b o h1 _ h3 q _=>k2 b o (fun z=>h3 (by simp[z])) (fun z=>h3 (by simp[z])) q)
    (fun b o h1 _ h3 q _=>⟨o.slots,k2 b o (fun z=>h3 (by simp[z])) (fun z=>h3 (by simp[z])) q⟩) (fun b o h3 q n=>?_) (fun b o h3 q=>⟨o,k2 b o (fun z=>h3 (by simp[z])) (fun z=>h3 (by simp[z])) q⟩)
    (fun b ys q=>by rw[jM (kK q hfr)]; exact q) (fun b o' u' q=>by rw[jM (kK q hfr)]; exact q) (fun b pss q=>⟨#[],by rw[jM (kK q hfr),q]; simp⟩) (fun m hm=>?_) hok I.bare
   ·rcases Xk.mp hb with rfl | hb
    ·exact⟨f3,f1,f4,f5⟩
    ·have z:b=it:=by simpa using hb
     subst z;exact⟨g3,g1,g4,g5⟩
   ·rw[jM (XA (Xo q))];exact n
   ·obtain⟨o,es,ep,ho,r⟩:=hm;exact⟨o,es,ep,k2 _ o (Ne.symm f1) (Ne.symm g1) ho,r⟩
  refine⟨.ref s.heap.objs.size,_,I1,rfl,⟨s.heap.objs.size,x,hfr,rfl,rfl,fun ys hy=>by rw[I.list_inj hy hq]; exact hx⟩,⟨⟨u,by simpa using ee⟩,it2⟩,fun b hb=>?_⟩;rcases Xk.mp hb with rfl | hb
  ·rw[jM (XA ltE)]; exact f0
  ·have z:b=it:=by simpa using hb
   subst z;rw[jM (XA ltI)]; exact g0
 done:=by
  intro X hP hw hK hc i pins s σ H E I hf st hg;subst hP hw hK;obtain⟨xs,hq,hx⟩:=hg;obtain⟨its,rv,p,hz⟩:=I.list hq;obtain⟨⟨old,e1⟩,e2⟩:=st;obtain⟨g0,g1,g2,g3,g4,g5⟩:=hf it (by simp);have hl:=rv.length;exact wpAny_pyNext_enum_end (I.ok.hd hc) e1 e2 p.isList (by simp; omega) fun h' eb=>⟨rfl,I.turned (t':=s.toks) (fun b o hb q=>eb b o hb q) g0 g1 g3 g4 g5⟩
 self:=fun _ _ _ _ _ st h=>by
  obtain⟨⟨old,e1⟩,_⟩:=st;exact wpAny_pyIter_enum e1 h
def jfL (K:W.Frag) (ta:TA):TI:=fun σ H R=>ta σ H fun vs H1=>∃ a,vs=[.ref a]/\(∃ xs,SqL K H1 a xs)/\R (Ite K a) H1
theorem jhR {a:Expr}{ta:TA}{x1:Nat} (hg:Gl X "enumerate") (hm:X.mg "enumerate"=none) (ha:PA X [a] ta) (hs:starEach [a] X.env=[(false,eval a X.env)]:=by rfl) :
  PI X (.Tuple elts x1 tpos) (.Call (.Name "enumerate" p) [a] [] pos) (jfL X.K ta):=by
 intro pins s σ H R I h;refine Call_ (Q9 I hg hm (u:=.type "enumerate") (by kernel_rfl) (wP (thn (ha pos pins s σ H _ I h) fun us s1 ⟨vs,H1,I1,r1,q1⟩=>?_) hs rfl));obtain⟨l,e,⟨xs,hq⟩,q⟩:=q1;subst e;obtain⟨u,rfl,ru⟩:=r1.one;cases ru;obtain⟨its,rv,pl,hz⟩:=I1.list hq;refine call_enumerate_list pl.isList fun h' he hi hsz kp=>?_;refine wpAny_pyIter_enum he ?_;have I2:Inv X pins σ H1 { s1 with heap:=h' }:=I1.kept (t':=s1.toks) kp
 refine⟨s1.heap.objs.size+1,[s1.heap.objs.size+1,s1.heap.objs.size],_,_,H1,rfl,I2,jdx l s1.heap.objs.size (s1.heap.objs.size+1) (ane (.inr (Nat.lt_succ_self _))),⟨⟨_,he⟩,hi⟩,fun b hb=>?_,q⟩;have hb':s1.heap.objs.size<=b:=by
  rcases Xk.mp hb with z | z
  ·exact z ▸ wy _
  ·have z':b=s1.heap.objs.size:=by simpa using z
   exact z' ▸ Xh _
 exact I1.fpOk hb' (I1.hok.fresh hb')
def jaa (r r' r'':R2) (ta tb tc td:TE):TE:=fun σ H Q=>ta σ H fun x H1=>tb σ H1 fun y H2=>r x y H2 fun z H3=>∃ k,z=.bl k /\
 (if k=true then tc σ H3 fun w' H4=>r' y w' H4 fun z' H5=>∃ k',z'=.bl k'/\(if k'=true then td σ H5 fun v' H6=>r'' w' v' H6 Q else Q (.bl false) H5) else Q (.bl false) H3)
section
variable {a b c d:Expr} 
theorem jdy {op op' op'':CmpOp}{r r' r'':R2} (ho:OpR X (compareOp op) r) (ho':OpR X (compareOp op') r') (ho'':OpR X (compareOp op'') r'') (ha:PE X a ta) (hb:PE X b tb) (hc:PE X c tc) (hd:PE X d td)
  (hm:lastMarks [op,op',op''] [b,c,d]=false:=by with_unfolding_all rfl):PT X (.Compare a [op,op',op''] [b,c,d] pos) (jfv (jaa r r' r'' ta tb tc td)):=by
 intro pins s σ H Q I h;refine isTrue_chain (thn (ha pins s σ H _ I h) fun v s1 ⟨x,H1,I1,r1,q1⟩=>test_link (thn (hb pins s1 σ H1 _ I1 q1) fun u s2 ⟨y,H2,I2,r2,q2⟩=>
  thn (ho pins s2 σ H2 x y v u _ I2 r1 r2 q2) fun d s3 ⟨z,H3,I3,r3,k,e,q3⟩=>?_)) hm
 subst e;cases r3;refine wm ?_;cases k with
 | false=>
  obtain⟨k',e',q'⟩:=q3;cases e';exact ite_ff ⟨H3,I3,q'⟩
 | true=>
  refine ite_tt (test_link (thn (hc pins s3 σ H3 _ I3 q3) fun w' s4 ⟨z',H4,I4,r4,q4⟩=>thn (ho' pins s4 σ H4 y z' u w' _ I4 r2 r4 q4) fun d' s5 ⟨z2,H5,I5,r5,k2,e2,q5⟩=>?_));subst e2;cases r5;refine wm ?_;cases k2 with
  | false=>
   obtain⟨k',e',q'⟩:=q5;cases e';exact ite_ff ⟨H5,I5,q'⟩
  | true=>
   refine ite_tt (test_last (thn (hd pins s5 σ H5 _ I5 q5) fun w2 s6 ⟨z3,H6,I6,r6,q6⟩=>thn (ho'' pins s6 σ H6 z' z3 w' w2 _ I6 r4 r6 q6) fun d2 s7 ⟨z4,H7,I7,r7,k3,e3,q7⟩=>?_));subst e3;cases r7;exact wm ⟨H7,I7,q7⟩
end
structure Bi (mg:Str->Option Value):Prop where
 len_:mg "len"=none
 range_:mg "range"=none
 isinstance_:mg "isinstance"=none
 any_:mg "any"=none
 all_:mg "all"=none
 sum_:mg "sum"=none
 list_:mg "list"=none
 tuple_:mg "tuple"=none
 int_:mg "int"=none
 bool_:mg "bool"=none
 str_:mg "str"=none
 enumerate_:mg "enumerate"=none
 reversed_:mg "reversed"=none
 sorted_:mg "sorted"=none
 set_:mg "set"=none
 max_:mg "max"=none
 min_:mg "min"=none
 abs_:mg "abs"=none
 zip_:mg "zip"=none
theorem paired_ints:∀ l:List Int,Paired (cInt.rep K H) l (l.map V.int)
 | []=>.nil
 | _::r=>.cons rfl (paired_ints r)
def jju (t:TS):TS:=fun D σ H=>∃ J:St->Hp->Prop,t { D with nx:=J } σ H/\∀ σ' H',J σ' H'->D.nx σ' H'
theorem zG {t:TS} (h:PS X st t):PS X st (jju t):=by
 intro pins s σ H D I q;obtain⟨J,q,hJ⟩:=q;refine thn (h pins s σ H { D with nx:=J } I q) fun f s1 r=>?_
 cases f with
 | next=>obtain⟨σ',H',I',j⟩:=r; exact ⟨σ',H',I',hJ σ' H' j⟩
 | ret v=>exact r
 | brk=>exact r
 | cont=>exact r
end L2
namespace L2
open PySem
theorem UW {k:Nat} (hr:Room k A):A.units+200<cLine:=by have:=hr.un; omega
end L2
namespace L2
open PySem PySem.Spec PyProof.Rows
section
theorem jbg:∀ {l:List α}{xs:List β},l.length=xs.length->(∀ (i:Nat) a x,l[i]?=some a->xs[i]?=some x->R a x)->Paired R l xs
 | [],[],_,_=>.nil
 | [],_::_,h,_=>by simp at h
 | _::_,[],h,_=>by simp at h
 | a::l,x::xs,h,k=>.cons (k 0 a x rfl rfl) (jbg (by simpa using h) fun i a' x' h1 h2=>k (i+1) a' x' (by simpa using h1) (by simpa using h2))
theorem jdz {a:Expr}{ta:TA} (hg:Gl X "range") (hm:X.mg "range"=none) (ha:PA X [a] ta) (hs:starEach [a] X.env=[(false,eval a X.env)]:=by rfl) :
  PE X (.Call (.Name "range" p) [a] [] pos) (fun σ H Q=>ta σ H fun vs H1=>∃ j:Int,vs=[.int j]/\∀ x,H1 x=none->Q (.ref x) (upd H1 x (.rng 0 j))):=by
 intro pins s σ H Q I h;refine Call_ (Q9 I hg hm boot_range (wP (thn (ha pos pins s σ H _ I h) fun us s1 ⟨vs,H1,I1,r1,q1⟩=>?_) hs rfl));obtain⟨j,e,q⟩:=q1;subst e;cases r1 with
 | cons r rr=>
  cases rr;obtain⟨t,rfl⟩:=r;refine call_range_1 ?_;exact⟨.ref s1.heap.objs.size,_,I1.laid (o:=.rng 0 j) (fun b ob q=>Xc _ q) (Xh _) ⟨_,_,_,Xn _ rfl⟩,rfl,q _ (I1.hok.fresh (Xh _))⟩
def UX (lo hi:Int):List Int:=(List.range (hi-lo).toNat).map fun k=>lo+((k:Nat):Int)
theorem Qh (hc:X.calm=true):GN X (.type "list") (fun xs H Q=>∃ p lo hi,xs=[.ref p]/\H p=some (.rng lo hi)/\(-(2 ^ 62)<=lo/\lo<2 ^ 62/\-(2 ^ 62)<=hi/\hi<2 ^ 62)/\(hi-lo).toNat<=2 ^ 24/\∀ l,H l=none->Q (.ref l) (upd H l (.lst ((UX lo hi).map V.int)))):=by
 intro pins s σ H xs us Q I r h;obtain⟨p,lo,hi,rfl,hp,⟨b1,b2,b3,b4⟩,hn,q⟩:=h;obtain⟨u,rfl,rx⟩:=WH r;cases rx;obtain⟨t,u,v,e⟩:=I.hok p _ hp;refine call_list_range (n:=(hi-lo).toNat) (I.ok.hd hc) e ?_ ?_ hn fun h' tk acc' c' kp e' hacc=>?_
 ·exact small_one b1 b2 b3 b4
 ·unfold Builtin.Range.rangeSize;simp;split <;> omega
 ·refine⟨.ref s.heap.objs.size,_,I.laid (o:=.lst ((UX lo hi).map V.int)) (t':=tk) kp (Xh _) ⟨?_,acc'.toList,c',?_,by simpa using e'⟩,rfl,q _ (I.hok.fresh (Xh _))⟩
  ·rw[Xr,UX,Xr,XJ,wa];exact hn
  ·refine jbg (by rw[Xr,UX,Xr,XJ,Xv,hacc.1]) fun i x v hx hv=>?_;rw[Xy] at hx;unfold UX at hx;rw[Xy] at hx;cases hr:(List.range (hi-lo).toNat)[i]? with
   | none=>rw[hr] at hx; cases hx
   | some k=>
    rw[hr] at hx;have hk:k=i:=by
     obtain⟨h1,h2⟩:=List.getElem?_eq_some_iff.mp hr;simpa using h2.symm
    subst hk;cases hx;obtain⟨tk',e2⟩:=hacc.2 k v (by simpa using hv);exact⟨tk',by rw[e2,Int.mul_one]⟩
end
end L2
namespace M01
inductive Lt (P:List (Nat×Nat)):Nat->Nat->Prop
 | one {a b:Nat}:(a,b)∈P->Lt P a b
 | step {a b c:Nat}:Lt P a b->(b,c)∈P->Lt P a c
def Ok (P:List (Nat×Nat)) (n:Nat):Prop:=∀ p∈P,p.1<p.2/\p.2<n
theorem Lt.lt {a b:Nat} (o:Ok P n) (h:Lt P a b):a<b/\b<n:=by
 induction h with
 | one m=>exact o _ m
 | step _ m ih=>have:=o _ m; exact ⟨by have:=ih.1; omega,this.2⟩
theorem Lt.last {a c:Nat}:Lt P a c ↔ ∃ p∈P,p.2=c/\(Lt P a p.1 \/ p.1=a):=by
 constructor
 ·intro h;cases h with
  | one m=>exact ⟨_,m,rfl,.inr rfl⟩
  | step h m=>exact ⟨_,m,rfl,.inl h⟩
 ·rintro⟨⟨x,y⟩,m,e,h⟩;simp at e;subst e;rcases h with h | h
  ·exact .step h m
  ·simp at h; subst h; exact .one m
def UY (P:List (Nat×Nat)) (found:List Nat) (t:Nat):Nat:=P.foldl (fun acc p=>if p.2=t then acc ||| found.getD p.1 0 ||| 2 ^ p.1 else acc) 0
def bel (P:List (Nat×Nat)):Nat->List Nat
 | 0=>[]
 | t+1=>bel P t++[UY P (bel P t) t]
theorem GW (P:List (Nat×Nat)):∀ n,(bel P n).length=n
 | 0=>rfl
 | t+1=>by rw[bel,List.length_append,GW P t]; rfl
theorem jfM (P:List (Nat×Nat)) (found:List Nat) (t s acc:Nat) :
  (P.foldl (fun acc p=>if p.2=t then acc ||| found.getD p.1 0 ||| 2 ^ p.1 else acc) acc).testBit s=true ↔ acc.testBit s=true \/ ∃ p∈P,p.2=t/\((found.getD p.1 0).testBit s=true \/ p.1=s):=by
 induction P generalizing acc with
 | nil=>simp
 | cons q r ih=>
  rw[List.foldl_cons,ih];by_cases h:q.2=t
  ·rw[if_pos h];simp only[Nat.testBit_or,Nat.testBit_two_pow,Bool.or_eq_true,decide_eq_true_eq,List.mem_cons];constructor
   ·rintro ((h1 | h1) | h1)
    ·rcases h1 with h1 | h1
     ·exact .inl h1
     ·exact .inr ⟨q,.inl rfl,h,.inl h1⟩
    ·exact .inr ⟨q,.inl rfl,h,.inr h1⟩
    ·obtain⟨p,hp,e⟩:=h1;exact .inr ⟨p,.inr hp,e⟩
   ·rintro (h1 | ⟨p,hp | hp,e,e'⟩)
    ·exact .inl (.inl (.inl h1))
    ·subst hp;rcases e' with e' | e'
     ·exact .inl (.inl (.inr e'))
     ·exact .inl (.inr e')
    ·exact .inr ⟨p,hp,e,e'⟩
  ·rw[if_neg h];simp only[List.mem_cons];constructor
   ·rintro (h1 | ⟨p,hp,e⟩)
    ·exact .inl h1
    ·exact .inr ⟨p,.inr hp,e⟩
   ·rintro (h1 | ⟨p,hp | hp,e,e'⟩)
    ·exact .inl h1
    ·subst hp; exact absurd e h
    ·exact .inr ⟨p,hp,e,e'⟩
theorem jdA (P:List (Nat×Nat)):∀ n t,t<n->(bel P n).getD t 0=UY P (bel P t) t
 | 0,t,h=>by omega
 | n+1,t,h=>by
  rw[bel];by_cases e:t<n
  ·rw[List.getD_eq_getElem?_getD,List.getElem?_append_left (by rw[GW]; exact e),<- List.getD_eq_getElem?_getD];exact jdA P n t e
  ·have:t=n:=by omega
   subst this;rw[List.getD_eq_getElem?_getD,List.getElem?_append_right (by rw[GW]; exact Nat.le_refl _),GW];simp
theorem jdB (o:Ok P n):∀ t,∀ m,t<m->∀ s,((bel P m).getD t 0).testBit s=true ↔ Lt P s t:=by
 intro t
 induction t using Nat.strongRecOn with
 | _ t ih=>
  intro m hm s;rw[jdA P m t hm,UY,jfM,Lt.last];simp only[Nat.zero_testBit,Bool.false_eq_true,false_or];constructor
  ·rintro⟨p,hp,e,h⟩;have ho:=o p hp;refine⟨p,hp,e,?_⟩;rcases h with h | h
   ·exact .inl ((ih p.1 (by omega) t (by omega) s).mp h)
   ·exact .inr h
  ·rintro⟨p,hp,e,h⟩;have ho:=o p hp;refine⟨p,hp,e,?_⟩;rcases h with h | h
   ·exact .inl ((ih p.1 (by omega) t (by omega) s).mpr h)
   ·exact .inr h
end M01
namespace L3
open PySem PySem.Spec L2
section
theorem bind_some {m:Option α}{f:α->Option β}{b:β} (h:m.bind f=some b):∃ a,m=some a/\f a=some b:=by
 cases m with
 | none=>cases h
 | some a=>exact ⟨a,rfl,h⟩
structure Cd (α:Type) where
 rep:W.Frag->Hp->α->V->Prop
 mono:∀ {K:W.Frag}{H H':Hp}{a:α}{x:V},Same H H'->rep K H a x->rep K H' a x
def cI:Cd Int:=⟨fun _ _ i v=>v=.int i,fun _ h=>h⟩
def cB:Cd Bool:=⟨fun _ _ i v=>v=.bl i,fun _ h=>h⟩
def cS:Cd Str:=⟨fun _ _ i v=>v=.str i,fun _ h=>h⟩
def cU:Cd Unit:=⟨fun _ _ _ v=>v=.non,fun _ h=>h⟩
def cL (c:Cd α):Cd (List α):=⟨fun K H l v=>∃ a xs,v=.ref a/\H a=some (.lst xs)/\Paired (c.rep K H) l xs,
 fun e ⟨a,xs,h1,h2,h3⟩=>⟨a,xs,h1,e _ _ h2,Paired.mapP h3 fun _ _=>c.mono e⟩⟩
def cT (c:Cd α):Cd (List α):=⟨fun K H l v=>∃ a xs,v=.ref a/\H a=some (.tup xs)/\Paired (c.rep K H) l xs,
 fun e ⟨a,xs,h1,h2,h3⟩=>⟨a,xs,h1,e _ _ h2,Paired.mapP h3 fun _ _=>c.mono e⟩⟩
def cP (c:Cd α) (d:Cd β):Cd (α×β):=⟨fun K H l w=>∃ a u v,w=.ref a/\H a=some (.tup [u,v])/\c.rep K H l.1 u/\d.rep K H l.2 v,
 fun e ⟨a,u,v,h1,h2,h3,h4⟩=>⟨a,u,v,h1,e _ _ h2,c.mono e h3,d.mono e h4⟩⟩
def cScr:Cd (List Int):=⟨fun K H l v=>∃ a,v=.ref a/\SqL K H a (l.map V.int),fun e ⟨a,h1,h2⟩=>⟨a,h1,e.seq h2⟩⟩
def EqC (n:Nat) (c:Cd α):Prop:=∀ {K:W.Frag}{H:Hp}{a b:α}{x y:V},c.rep K H a x->c.rep K H b y->EqR K H n x y (bq a b)
def Cd.cod (c:Cd α) (h:EqC n c):Cod α:=⟨n,c.rep,c.mono,h⟩
theorem eqI:EqC 0 cI:=fun h1 h2=>cInt.eqr h1 h2
theorem eqB:EqC 0 cB:=fun h1 h2=>cBl.eqr h1 h2
theorem eqL {c:Cd α} (h:EqC n c):EqC (n+1) (cL c):=fun {K H a b x y} ⟨p,xs,e1,e2,e3⟩ ⟨q,ys,f1,f2,f3⟩=>
 (jlO (c.cod h)).eqr (K:=K) (H:=H) (a:=a) (b:=b) ⟨p,xs,e1,SqL.of e2,e3⟩ ⟨q,ys,f1,SqL.of f2,f3⟩
theorem eqT {c:Cd α} (h:EqC n c):EqC (n+1) (cT c):=fun {K H a b x y} ⟨p,xs,e1,e2,e3⟩ ⟨q,ys,f1,f2,f3⟩=>
 (jlP (c.cod h)).eqr (K:=K) (H:=H) (a:=a) (b:=b) ⟨p,xs,e1,SqT.of e2,e3⟩ ⟨q,ys,f1,SqT.of f2,f3⟩
def Fr:Option HO->Prop
 | none=>True
 | some (.tup _)=>True
 | _=>False
theorem jdC (h:H a=none):Fr (H a):=by rw[h]; trivial
theorem jhS (s:Same H H') (h:Fr (H' a)):Fr (H a):=by
 cases q:H a with
 | none=>trivial
 | some o=>rw[s a o q] at h; exact h
structure Ext (F H F' H':Hp):Prop where
 f:Same F F'
 h:Same H H'
 new:∀ a o,F' a=some o->F a=some o \/ Fr (H a)
 sub:Same F' H'
theorem Ext.refl {F:Hp} (s:Same F H):Ext F H F H:=⟨Same.refl _,Same.refl _,fun _ _ h=>.inl h,s⟩
theorem Ext.trans {F F2 H2:Hp} (e:Ext F H F1 H1) (e':Ext F1 H1 F2 H2):Ext F H F2 H2:=
 ⟨e.f.trans e'.f,e.h.trans e'.h,fun a o h=>(e'.new a o h).elim (fun z=>e.new a o z) (fun z=>.inr (jhS e.h z)),e'.sub⟩
theorem xc {o:HO} (h:H a=none):Same H (upd H a o):=fun b u hb=>by
 rw[jM (kK hb h)]; exact hb
theorem Same.upd2 {F:Hp}{o:HO} (s:Same F H) (h:F a=none):Same F (upd H a o):=fun b u hb=>by
 rw[jM (kK hb h)]; exact s b u hb
theorem Same.updB {F:Hp}{o:HO} (s:Same F H):Same (upd F a o) (upd H a o):=fun b u hb=>by
 unfold upd at hb ⊢;by_cases e:b=a
 ·rw[if_pos e] at hb ⊢; exact hb
 ·rw[if_neg e] at hb ⊢; exact s b u hb
theorem Ext.newF {F:Hp}{o:HO} (s:Same F H) (h:H a=none):Ext F H (upd F a o) (upd H a o):=
 ⟨xc (s.free h),xc h,fun b u hb=>by
  by_cases e:b=a
  ·subst e; exact .inr (jdC h)
  ·rw[jM e] at hb; exact .inl hb,Same.updB s⟩
theorem Ext.newO {F:Hp}{o:HO} (s:Same F H) (h:H a=none):Ext F H F (upd H a o):=
 ⟨Same.refl _,xc h,fun _ _ hb=>.inl hb,Same.upd2 s (s.free h)⟩
theorem Ext.upd {F:Hp}{o:HO} (X:Ext Fe He F H) (h:He a=none) (hf:F a=none):Ext Fe He F (L2.upd H a o):=
 ⟨X.f,Same.upd2 X.h h,X.new,Same.upd2 X.sub hf⟩
theorem Ext.frz {F:Hp}{o:HO} (X:Ext Fe He F H) (h:He a=none) (hf:F a=none) (ho:H a=some o):Ext Fe He (L2.upd F a o) H:=
 ⟨X.f.trans (xc hf),X.h,fun b u hb=>by
  by_cases e:b=a
  ·subst e; exact .inr (jdC h)
  ·rw[jM e] at hb; exact X.new b u hb,fun b u hb=>by
  by_cases e:b=a
  ·subst e; rw[jV] at hb; cases hb; exact ho
  ·rw[jM e] at hb; exact X.sub b u hb⟩
structure Pm (α:Type) where
 rel:W.Frag->Hp->Hp->α->V->Prop
 mono:∀ {K:W.Frag}{F H F' H':Hp}{a:α}{x:V},Ext F H F' H'->rel K F H a x->rel K F' H' a x
structure Rs (γ:Type) where
 rel:W.Frag->Hp->Hp->Hp->γ->V->Prop
 back:∀ {K:W.Frag}{H0 H F2 H2:Hp}{c:γ}{v:V},Same H0 H->rel K H F2 H2 c v->rel K H0 F2 H2 c v
def Pm.rs (p:Pm α):Rs α:=⟨fun K _ F H a v=>p.rel K F H a v,fun _ h=>h⟩
def pF (c:Cd α):Pm α:=⟨fun K F _ a v=>c.rep K F a v,fun e h=>c.mono e.f h⟩
def pB (c:Cd α):Pm (List α):=⟨fun K F H l v=>∃ a xs,v=.ref a/\H a=some (.lst xs)/\Paired (c.rep K F) l xs,
 fun e ⟨a,xs,h1,h2,h3⟩=>⟨a,xs,h1,e.h _ _ h2,Paired.mapP h3 fun _ _=>c.mono e.f⟩⟩
def pR (c:Cd α):Pm (List α):=⟨fun K F H l v=>∃ a xs,v=.ref a/\SqL K H a xs/\Paired (c.rep K F) l xs,
 fun e ⟨a,xs,h1,h2,h3⟩=>⟨a,xs,h1,e.h.seq h2,Paired.mapP h3 fun _ _=>c.mono e.f⟩⟩
def pT (c:Cd α):Pm α:=⟨fun K _ H a v=>c.rep K H a v,fun e h=>c.mono e.h h⟩
def rO (c:Cd α):Rs (List α):=⟨fun K H F2 H2 l v=>∃ a xs,v=.ref a/\H a=none/\F2 a=none/\H2 a=some (.lst xs)/\Paired (c.rep K F2) l xs,
 fun s ⟨a,xs,h1,h2,h⟩=>⟨a,xs,h1,s.free h2,h⟩⟩
abbrev rF (c:Cd α):Rs α:=(pF c).rs
def Ev (K:W.Frag) (σ:St) (F H:Hp) (t:TE) (r:Rs α) (m:Option α):Prop:=
 ∀ F1 H1,Ext F H F1 H1->∀ a,m=some a->∀ Q:VK,(∀ v F2 H2,Ext F1 H1 F2 H2->r.rel K H1 F2 H2 a v->Q v H2)->t σ H1 Q
def Et (K:W.Frag) (σ:St) (F H:Hp) (t:TT) (m:Option Bool):Prop:=
 ∀ F1 H1,Ext F H F1 H1->∀ b,m=some b->∀ Q:Bool->Hp->Prop,(∀ F2 H2,Ext F1 H1 F2 H2->Q b H2)->t σ H1 Q
def El (K:W.Frag) (σ:St) (F H:Hp) (t:TA) (c:Cd α) (n:Nat) (m:Option (List α)):Prop:=
 ∀ F1 H1,Ext F H F1 H1->∀ l,m=some l->∀ Q:List V->Hp->Prop,(∀ vs F2 H2,Ext F1 H1 F2 H2->Paired (c.rep K F2) l vs->vs.length=n->Q vs H2)->t σ H1 Q
variable {F:Hp}{t:TE}{c:Cd α}{d:Cd β}{p:Pm α}{q:Pm β}{q':Pm γ}{rs:Rs γ}{ma:Option α} 
theorem Ev.cast {r:Rs α}{m m':Option α} (h:Ev K σ F H t r m) (e:m'=m):Ev K σ F H t r m':=e ▸ h
theorem ko {a:α}{v:V} (hi:σ[i]?=some (some v)) (h:p.rel K F H a v):Ev K σ F H (Wb i) p.rs (some a):=by
 intro F1 H1 E b e Q k;cases e;exact⟨v,hi,k v F1 H1 (Ext.refl E.sub) (p.mono E h)⟩
theorem jp (i:Int):Ev K σ F H (tC (.int i)) (rF cI) (some i):=fun F1 H1 E b e Q k=>by cases e; exact k _ F1 H1 (Ext.refl E.sub) rfl
theorem JT (i:Bool):Ev K σ F H (tC (.bl i)) (rF cB) (some i):=fun F1 H1 E b e Q k=>by cases e; exact k _ F1 H1 (Ext.refl E.sub) rfl
theorem We (i:Str):Ev K σ F H (tC (.str i)) (rF cS) (some i):=fun F1 H1 E b e Q k=>by cases e; exact k _ F1 H1 (Ext.refl E.sub) rfl
theorem jbh {a:Int} (hi:σ[i]?=some (some (.int a))):Ev K σ F H (Wb i) (rF cI) (some a):=ko (p:=pF cI) hi rfl
theorem Wf {r r':Rs α}{m:Option α} (h:Ev K σ F H t r m) (hi:∀ {H1 F2 H2 a v},Same F2 H2->r.rel K H1 F2 H2 a v->r'.rel K H1 F2 H2 a v):Ev K σ F H t r' m:=
 fun F1 H1 E a e Q k=>h F1 H1 E a e Q fun v F2 H2 E2 hr=>k v F2 H2 E2 (hi E2.sub hr)
theorem GX (h:Ev K σ F H t (rO c) m):Ev K σ F H t (rF (cL c)) m:=by
 intro F1 H1 E l e Q k;refine h F1 H1 E l e Q ?_;rintro v F2 H2 E2 ⟨a,xs,rfl,h1,h2,h3,h4⟩;exact k _ (upd F2 a (.lst xs)) H2 (E2.frz h1 h2 h3) ⟨a,xs,rfl,jV,Paired.mapP h4 fun _ _=>c.mono (xc h2)⟩
theorem x8 (h:Ev K σ F H t (rO c) m):Ev K σ F H t (pB c).rs m:=Wf h (fun _ ⟨a,xs,h0,_,_,h3,h4⟩=>⟨a,xs,h0,h3,h4⟩)
theorem Qi (h:Ev K σ F H t (rF (cL c)) m):Ev K σ F H t (pB c).rs m:=Wf h (fun s ⟨a,xs,h0,h3,h4⟩=>⟨a,xs,h0,s _ _ h3,h4⟩)
theorem qy (h:Ev K σ F H t (pB c).rs m):Ev K σ F H t (pR c).rs m:=Wf h (fun _ ⟨a,xs,h0,h3,h4⟩=>⟨a,xs,h0,SqL.of h3,h4⟩)
theorem zH:∀ l:List Int,Paired (cI.rep K H) l (l.map V.int)
 | []=>.nil
 | _::r=>.cons rfl (zH r)
theorem jdD {m:Option (List Int)} (h:Ev K σ F H t (rF cScr) m):Ev K σ F H t (pR cI).rs m:=Wf h (fun s ⟨a,h0,h3⟩=>⟨a,_,h0,s.seq h3,zH _⟩)
theorem UZ {m:Option α} (h:Ev K σ F H t (rF c) m):Ev K σ F H t (pT c).rs m:=Wf h (fun s h=>c.mono s h)
theorem jdE (h:Ev K σ F H t (pB c).rs m):Ev K σ F H t (pT (cL c)).rs m:=Wf h (fun s ⟨a,xs,h0,h3,h4⟩=>⟨a,xs,h0,h3,Paired.mapP h4 fun _ _=>c.mono s⟩)
def Op2 (K:W.Frag) (r:R2) (p:Pm α) (q:Pm β) (rs:Rs γ) (op:α->β->Option γ):Prop:=
 ∀ F H a b x y,Same F H->p.rel K F H a x->q.rel K F H b y->∀ c,op a b=some c->∀ Q:VK,(∀ v F2 H2,Ext F H F2 H2->rs.rel K H F2 H2 c v->Q v H2)->r x y H Q
theorem jab {r:R2}{op:α->β->Option γ} (ho:Op2 K r p q rs op) (ha:Ev K σ F H ta p.rs ma) (hb:Ev K σ F H tb q.rs mb):Ev K σ F H (tOp r ta tb) rs (ma.bind fun a=>mb.bind fun b=>op a b):=by
 intro F1 H1 E z hz Q k;obtain⟨a,ea,hz⟩:=bind_some hz;obtain⟨b,eb,hz⟩:=bind_some hz;refine ha F1 H1 E a ea _ fun x F2 H2 E2 hx=>hb F2 H2 (E.trans E2) b eb _ fun y F3 H3 E3 hy=>?_;exact ho F3 H3 a b x y E3.sub (p.mono E3 hx) hy z hz _ fun v F4 H4 E4 hv=>k v F4 H4 (E2.trans (E3.trans E4)) (rs.back (E2.h.trans E3.h) hv)
def Op1 (K:W.Frag) (r:V->Hp->VK->Prop) (p:Pm α) (rs:Rs γ) (op:α->Option γ):Prop:=
 ∀ F H a x,Same F H->p.rel K F H a x->∀ c,op a=some c->∀ Q:VK,(∀ v F2 H2,Ext F H F2 H2->rs.rel K H F2 H2 c v->Q v H2)->r x H Q
theorem jjv {r:V->Hp->VK->Prop} (ho:Op1 K r p rs op) (ha:Ev K σ F H ta p.rs ma):Ev K σ F H (tUn r ta) rs (ma.bind op):=by
 intro F1 H1 E z hz Q k;obtain⟨a,ea,hz⟩:=bind_some hz;refine ha F1 H1 E a ea _ fun x F2 H2 E2 hx=>?_;exact ho F2 H2 a x E2.sub hx z hz _ fun v F4 H4 E4 hv=>k v F4 H4 (E2.trans E4) (rs.back E2.h hv)
theorem jhe {r:List V->Hp->VK->Prop} (ho:Op1 K (fun x=>r [x]) p rs op) (ha:Ev K σ F H ta p.rs ma):Ev K σ F H (tCB r (jJ ta xb)) rs (ma.bind op):=jjv (r:=fun x=>r [x]) ho ha
@[irreducible] def Y7 (i j:Int):Option Int:=if (-(2 ^ 64)<i/\i<2 ^ 64) \/ (-(2 ^ 64)<j/\j<2 ^ 64) then some (i * j) else none
@[irreducible] def jhT (i j:Int):Option Int:=if 0<j/\j<2 ^ 1000 then some (i / j) else none
@[irreducible] def Z3 (i j:Int):Option Int:=if 0<j then some (i % j) else none
@[irreducible] def jjw (i j:Int):Option Int:=if 0<=j/\j<=1000000/\i.natAbs<2 ^ 64 then some (i ^ j.toNat) else none
@[irreducible] def jhf (i j:Int):Option Int:=if 0<=j/\j<=1000000/\i.natAbs<2 ^ 64 then some (i * 2 ^ j.toNat) else none
@[irreducible] def jhU (i j:Int):Option Int:=if 0<=j then some (i / 2 ^ j.toNat) else none
theorem kI {c:Prop} [Decidable c] {a b:α} (h:(if c then some a else none)=some b):c/\a=b:=by
 by_cases hc:c
 ·rw[if_pos hc] at h; exact ⟨hc,Option.some.inj h⟩
 ·rw[if_neg hc] at h; cases h
theorem ki {g:Int->Int->Int}:Op2 K (rI0 fun i j=>.int (g i j)) (pF cI) (pF cI) (rF cI) (fun i j=>some (g i j)):=by
 intro F H a b x y s hx hy c hc Q k;cases hx; cases hy; cases hc;exact⟨a,b,rfl,rfl,k _ F H (Ext.refl s) rfl⟩
theorem zf {g:Int->Int->Bool}:Op2 K (rI0 fun i j=>.bl (g i j)) (pF cI) (pF cI) (rF cB) (fun i j=>some (g i j)):=by
 intro F H a b x y s hx hy c hc Q k;cases hx; cases hy; cases hc;exact⟨a,b,rfl,rfl,k _ F H (Ext.refl s) rfl⟩
theorem jb1 {C:Int->Int->Prop}{g:Int->Int->Int}{op:Int->Int->Option Int} (h:∀ i j k,op i j=some k->C i j/\g i j=k):Op2 K (rI C fun i j=>.int (g i j)) (pF cI) (pF cI) (rF cI) op:=by
 intro F H a b x y s hx hy c hc Q k;cases hx; cases hy;obtain⟨h1,h2⟩:=h a b c hc;subst h2;exact⟨a,b,rfl,rfl,h1,k _ F H (Ext.refl s) rfl⟩
theorem jac:Op2 K (rI CMul fun i j=>.int (i * j)) (pF cI) (pF cI) (rF cI) Y7:=jb1 fun _ _ _ h=>by unfold Y7 at h; obtain⟨x,y⟩:=kI h; exact ⟨x,y⟩
theorem jhV:Op2 K (rI jb0 fun i j=>.int (i / j)) (pF cI) (pF cI) (rF cI) jhT:=jb1 fun _ _ _ h=>by unfold jhT at h; obtain⟨x,y⟩:=kI h; exact ⟨x,y⟩
theorem Ul:Op2 K (rI (fun _ j=>0<j) fun i j=>.int (i % j)) (pF cI) (pF cI) (rF cI) Z3:=jb1 fun _ _ _ h=>by unfold Z3 at h; exact kI h
theorem jkX:Op2 K (rI ji_ fun i j=>.int (i ^ j.toNat)) (pF cI) (pF cI) (rF cI) jjw:=jb1 fun _ _ _ h=>by unfold jjw at h; obtain⟨x,y⟩:=kI h; exact ⟨x,y⟩
theorem jhW:Op2 K (rI ji_ fun i j=>.int (i * 2 ^ j.toNat)) (pF cI) (pF cI) (rF cI) jhf:=jb1 fun _ _ _ h=>by unfold jhf at h; obtain⟨x,y⟩:=kI h; exact ⟨x,y⟩
theorem jjx:Op2 K (rI (fun _ j=>0<=j) fun i j=>.int (i / 2 ^ j.toNat)) (pF cI) (pF cI) (rF cI) jhU:=jb1 fun _ _ _ h=>by unfold jhU at h; exact kI h
theorem o_u {g:Int->Int}:Op1 K (rU fun i=>.int (g i)) (pF cI) (rF cI) (fun i=>some (g i)):=by
 intro F H a x s hx c hc Q k;cases hx; cases hc;exact⟨a,rfl,k _ F H (Ext.refl s) rfl⟩
theorem zA:Op2 K rEq (pF cI) (pF cI) (rF cB) (fun i j=>some (decide (i=j))):=by
 intro F H a b x y s hx hy c hc Q k;cases hx; cases hy; cases hc;refine⟨rfl,?_⟩;rw[WF,Bool.beq_eq_decide_eq];exact k _ F H (Ext.refl s) rfl
theorem jkY:Op2 K rNe (pF cI) (pF cI) (rF cB) (fun i j=>some (!decide (i=j))):=by
 intro F H a b x y s hx hy c hc Q k;cases hx; cases hy; cases hc;refine⟨rfl,?_⟩;rw[WF,Bool.beq_eq_decide_eq];exact k _ F H (Ext.refl s) rfl
def Y8 (c:Cd α):Prop:=∀ {K:W.Frag}{H:Hp}{a:α}{x:V},c.rep K H a x->WK x=false
theorem nfL:Y8 (cL c):=fun⟨_,_,h,_⟩=>by rw[h]; rfl
theorem nfT:Y8 (cT c):=fun⟨_,_,h,_⟩=>by rw[h]; rfl
def jb2 [DecidableEq α] (a b:α):Bool:=decide (a=b)
def jdF [DecidableEq α] (a:α) (l:List α):Bool:=decide (a∈l)
theorem jjy [DecidableEq α] (h:EqC n c) (hn:n<=100) (nf:Y8 c):Op2 K (jkI K false) (pT c) (pT c) (rF cB) (fun a b=>some (jb2 a b)):=by
 intro F H a b x y s hx hy z hz Q k;cases hz;refine⟨n,bq a b,h hx hy,hn,nf hx,?_⟩;rw[Y4];exact k _ F H (Ext.refl s) rfl
theorem jhX [DecidableEq α] (h:EqC n c) (hn:n<=100) (nf:Y8 c):Op2 K (jkI K true) (pT c) (pT c) (rF cB) (fun a b=>some (!jb2 a b)):=by
 intro F H a b x y s hx hy z hz Q k;cases hz;refine⟨n,bq a b,h hx hy,hn,nf hx,?_⟩;rw[Y4];exact k _ F H (Ext.refl s) rfl
theorem jkZ [DecidableEq α] (h:EqC n c) (hn:n<=100):Op2 K (jjs K false) (pT c) (pT (cL c)) (rF cB) (fun a l=>some (jdF a l)):=by
 intro F H a l x y s hx hy z hz Q k;cases hz;obtain⟨p,xs,rfl,h1,h2⟩:=hy;exact⟨α,c.cod h,a,l,p,xs,decide (a∈l),hn,hx,rfl,.inl (SqL.of h1),h2,by simp,k _ F H (Ext.refl s) rfl⟩
theorem jk0 [DecidableEq α] (h:EqC n c) (hn:n<=100):Op2 K (jjs K true) (pT c) (pT (cL c)) (rF cB) (fun a l=>some (!jdF a l)):=by
 intro F H a l x y s hx hy z hz Q k;cases hz;obtain⟨p,xs,rfl,h1,h2⟩:=hy;exact⟨α,c.cod h,a,l,p,xs,decide (a∈l),hn,hx,rfl,.inl (SqL.of h1),h2,by simp,k _ F H (Ext.refl s) rfl⟩
theorem jk1 [DecidableEq α] (h:EqC n c) (hn:n<=100):Op2 K (jjs K false) (pT c) (pT (cT c)) (rF cB) (fun a l=>some (jdF a l)):=by
 intro F H a l x y s hx hy z hz Q k;cases hz;obtain⟨p,xs,rfl,h1,h2⟩:=hy;exact⟨α,c.cod h,a,l,p,xs,decide (a∈l),hn,hx,rfl,.inr (SqT.of h1),h2,by simp,k _ F H (Ext.refl s) rfl⟩
theorem Paired.at:∀ {l:List α}{xs:List β}{i:Nat}{a:α},Paired R l xs->l[i]?=some a->∃ x,xs[i]?=some x/\R a x
 | _,_,_,_,.nil,h=>by simp at h
 | _,_,0,_,.cons r _,h=>by simp at h; subst h; exact ⟨_,rfl,r⟩
 | _,_,i+1,a,.cons _ t,h=>by
  obtain⟨x,h1,h2⟩:=Paired.at (i:=i) (a:=a) t (by simpa using h);exact⟨x,by simpa using h1,h2⟩
theorem Paired.atI {xs:List β}{i:Int}{a:α} (h:Paired R l xs) (e:atI l i=some a):∃ x,atI xs i=some x/\R a x:=by
 unfold L2.atI at e ⊢;rw[<- h.length];cases q:ixN l.length i with
 | none=>rw[q] at e; cases e
 | some j=>
  rw[q] at e;exact Paired.at h e
@[irreducible] def pAt (l:List α) (i:Int):Option α:=atI l i
theorem U0:Op2 K (jlu K) (pR c) (pF cI) (rF c) (fun l i=>pAt l i):=by
 intro F H l i x y s hx hy z hz Q k;unfold pAt at hz;obtain⟨p,xs,rfl,h1,h2⟩:=hx;cases hy;obtain⟨v,e,r⟩:=Paired.atI h2 hz;exact⟨p,xs,i,v,rfl,rfl,h1,e,k _ F H (Ext.refl s) r⟩
theorem U1:Op2 K (jlv K) (pF (cT c)) (pF cI) (rF c) (fun l i=>pAt l i):=by
 intro F H l i x y s hx hy z hz Q k;unfold pAt at hz;obtain⟨p,xs,rfl,h1,h2⟩:=hx;cases hy;obtain⟨v,e,r⟩:=Paired.atI h2 hz;exact⟨p,xs,i,v,rfl,rfl,SqT.of (s _ _ h1),e,k _ F H (Ext.refl s) r⟩
theorem yp:Op1 K (fun x H Q=>∃ p ys,[x]=[V.ref p]/\(SqL K H p ys \/ SqT K H p ys)/\Q (.int ys.length) H) (pR c) (rF cI) (fun l=>some (l.length:Int)):=by
 intro F H l x s hx z hz Q k;obtain⟨p,xs,rfl,h1,h2⟩:=hx;cases hz;refine⟨p,xs,rfl,.inl h1,?_⟩;rw[<- h2.length];exact k _ F H (Ext.refl s) rfl
theorem Y9:Op1 K (fun x H Q=>∃ p ys,[x]=[V.ref p]/\(SqL K H p ys \/ SqT K H p ys)/\Q (.int ys.length) H) (pF (cT c)) (rF cI) (fun l=>some (l.length:Int)):=by
 intro F H l x s hx z hz Q k;obtain⟨p,xs,rfl,h1,h2⟩:=hx;cases hz;refine⟨p,xs,rfl,.inr (SqT.of (s _ _ h1)),?_⟩;rw[<- h2.length];exact k _ F H (Ext.refl s) rfl
theorem zg {F:Hp}{Q:VK} (s:Same F H) (h2:Paired (c.rep K F) l xs) (k:∀ v F2 H2,Ext F H F2 H2->(rO c).rel K H F2 H2 l v->Q v H2) (p:Addr) (hp:H p=none):Q (.ref p) (upd H p (.lst xs)):=
 k _ F _ (Ext.newO s hp) ⟨p,xs,rfl,hp,s.free hp,jV,h2⟩
theorem WT {F:Hp}{Q:VK} (s:Same F H) (h2:Paired (c.rep K F) l xs) (k:∀ v F2 H2,Ext F H F2 H2->(rF (cT c)).rel K H F2 H2 l v->Q v H2) (p:Addr) (hp:H p=none):Q (.ref p) (upd H p (.tup xs)):=
 k _ (upd F p (.tup xs)) _ (Ext.newF s hp) ⟨p,xs,rfl,jV,Paired.mapP h2 fun _ _=>c.mono (xc (s.free hp))⟩
theorem jhY:Op1 K (fun x H Q=>∃ p ys,[x]=[V.ref p]/\(SqL K H p ys \/ SqT K H p ys)/\∀ l,H l=none->Q (.ref l) (upd H l (.lst ys))) (pR c) (rO c) (fun l=>some l):=by
 intro F H l x s hx z hz Q k;obtain⟨p,xs,rfl,h1,h2⟩:=hx;cases hz;exact⟨p,xs,rfl,.inl h1,fun a ha=>zg s h2 k a ha⟩
theorem jdG:Op1 K (fun x H Q=>∃ p ys,[x]=[V.ref p]/\(SqL K H p ys \/ SqT K H p ys)/\∀ l,H l=none->Q (.ref l) (upd H l (.lst ys))) (pF (cT c)) (rO c) (fun l=>some l):=by
 intro F H l x s hx z hz Q k;obtain⟨p,xs,rfl,h1,h2⟩:=hx;cases hz;exact⟨p,xs,rfl,.inr (SqT.of (s _ _ h1)),fun a ha=>zg s h2 k a ha⟩
theorem Y_:Op1 K (fun x H Q=>∃ p ys,[x]=[V.ref p]/\((SqL K H p ys/\∀ l,H l=none->Q (.ref l) (upd H l (.tup ys))) \/ (SqT K H p ys/\Q (.ref p) H))) (pR c) (rF (cT c)) (fun l=>some l):=by
 intro F H l x s hx z hz Q k;obtain⟨p,xs,rfl,h1,h2⟩:=hx;cases hz;exact⟨p,xs,rfl,.inl ⟨h1,fun a ha=>WT s h2 k a ha⟩⟩
def cut (xs:List α) (lo hi:Option Int):List α:=(xs.drop (HT.sIx xs.length 0 lo)).take (HT.sIx xs.length xs.length hi-HT.sIx xs.length 0 lo)
theorem Paired.drop:∀ {l:List α}{xs:List β} (n:Nat),Paired R l xs->Paired R (l.drop n) (xs.drop n)
 | _,_,0,r=>r
 | _,_,_+1,.nil=>.nil
 | _,_,n+1,.cons _ t=>Paired.drop n t
theorem Paired.take:∀ {l:List α}{xs:List β} (n:Nat),Paired R l xs->Paired R (l.take n) (xs.take n)
 | _,_,0,_=>.nil
 | _,_,_+1,.nil=>.nil
 | _,_,n+1,.cons r t=>.cons r (Paired.take n t)
theorem Paired.app:∀ {l m:List α}{xs ys:List β},Paired R l xs->Paired R m ys->Paired R (l++m) (xs++ys)
 | _,_,_,_,.nil,s=>s
 | _,_,_,_,.cons r t,s=>.cons r (Paired.app t s)
theorem Paired.cutP {R:α->V->Prop} (lo hi:Option Int) (h:Paired R l xs):Paired R (cut l lo hi) (jfD xs lo hi):=by
 unfold cut jfD;rw[h.length];exact Paired.take _ (Paired.drop _ h)
def Eo (K:W.Frag) (σ:St) (F H:Hp) (t:TO) (m:Option (Option Int)):Prop:=
 ∀ F1 H1,Ext F H F1 H1->∀ o,m=some o->∀ Q:Option Int->Hp->Prop,(∀ F2 H2,Ext F1 H1 F2 H2->Q o H2)->t σ H1 Q
theorem xQ:Eo K σ F H jdg (some none):=fun F1 H1 E o e Q k=>by cases e; exact k F1 H1 (Ext.refl E.sub)
theorem jhZ {m:Option Int} (h:Ev K σ F H t (rF cI) m):Eo K σ F H (jfC t) (m.bind fun i=>some (some i)):=by
 intro F1 H1 E o e Q k;obtain⟨i,ei,e⟩:=bind_some e;cases e;exact h F1 H1 E i ei _ fun v F2 H2 E2 hv=>⟨i,hv,k F2 H2 E2⟩
theorem jhg (h:Ev K σ F H t (pR c).rs m) (hl:Eo K σ F H tl ml) (hh:Eo K σ F H th mh) :
  Ev K σ F H (tSl (jjo K) t tl th) (rO c) (m.bind fun l=>ml.bind fun i=>mh.bind fun j=>some (cut l i j)):=by
 intro F1 H1 E z hz Q k;obtain⟨l,el,hz⟩:=bind_some hz;obtain⟨i,ei,hz⟩:=bind_some hz;obtain⟨j,ej,hz⟩:=bind_some hz;cases hz;refine h F1 H1 E l el _ ?_;intro v F2 H2 E2 hv;refine hl F2 H2 (E.trans E2) i ei _ fun F3 H3 E3=>hh F3 H3 ((E.trans E2).trans E3) j ej _ fun F4 H4 E4=>?_;obtain⟨a,xs,rfl,h1,h2⟩:=(pR c).mono (E3.trans E4) hv;refine⟨a,xs,rfl,h1,fun p hp=>?_⟩;exact zg (c:=c) E4.sub (Paired.cutP i j h2) (fun v F5 H5 E5 hr=>k v F5 H5 (E2.trans (E3.trans (E4.trans E5))) ((rO c).back (E2.h.trans (E3.h.trans E4.h)) hr)) p hp
@[irreducible] def Um (l m:List α):Option (List α):=if l.length+m.length<=16777216 then some (l++m) else none
theorem jfN:Op2 K jlw (pB c) (pB c) (rO c) Um:=by
 intro F H l m x y s hx hy z hz Q k;obtain⟨a,xs,rfl,h1,h2⟩:=hx;obtain⟨b,ys,rfl,h3,h4⟩:=hy;unfold Um at hz;obtain⟨hc,rfl⟩:=kI hz;rw[h2.length,h4.length] at hc;exact⟨a,b,xs,ys,rfl,rfl,h1,h3,by rw[wa]; exact hc,fun p hp=>zg s (Paired.app h2 h4) k p hp⟩
end
section
variable {F:Hp}{t:TE}{c:Cd α}{d:Cd β}{p:Pm α}{q:Pm β}{rs:Rs γ}{ma:Option α} 
section
variable {u v:TT}{m m':Option Bool}{a b:Bool}
theorem qH (h:Ev K σ F H t (rF cB) m):Et K σ F H (jfv t) m:=fun F1 H1 E b e Q k=>h F1 H1 E b e _ fun v F2 H2 E2 hv=>⟨b,hv,k F2 H2 E2⟩
theorem yU (h:Ev K σ F H t (rF cB) m):Et K σ F H (tB t) m:=fun F1 H1 E b e Q k=>h F1 H1 E b e _ fun v F2 H2 E2 hv=>⟨b,hv,k F2 H2 E2⟩
theorem jhh (h:Et K σ F H u m):Et K σ F H (jjg u) (m.bind fun b=>some (!b)):=by
 intro F1 H1 E b e Q k;obtain⟨c,ec,e⟩:=bind_some e;cases e;exact h F1 H1 E c ec _ fun F2 H2 E2=>k F2 H2 E2
theorem jjz (h:Et K σ F H u m) (h':Et K σ F H v m'):Et K σ F H (jkD u v) (m.bind fun b=>bif b then m' else some false):=by
 intro F1 H1 E b e Q k;obtain⟨c,ec,e⟩:=bind_some e;refine h F1 H1 E c ec _ fun F2 H2 E2=>?_;cases c with
 | true=>exact jdp (h' F2 H2 (E.trans E2) b e _ fun F3 H3 E3=>k F3 H3 (E2.trans E3))
 | false=>cases e; exact jdo (k F2 H2 E2)
theorem jh0 (h:Et K σ F H u m) (h':Et K σ F H v m'):Et K σ F H (tOr u v) (m.bind fun b=>bif b then some true else m'):=by
 intro F1 H1 E b e Q k;obtain⟨c,ec,e⟩:=bind_some e;refine h F1 H1 E c ec _ fun F2 H2 E2=>?_;cases c with
 | true=>cases e; exact jdp (k F2 H2 E2)
 | false=>exact jdo (h' F2 H2 (E.trans E2) b e _ fun F3 H3 E3=>k F3 H3 (E2.trans E3))
theorem jh1 {m m':Option Bool} (h:Et K σ F H u m) (e:m'=m):Et K σ F H u m':=e ▸ h
theorem jjA (h:Et K σ F H u (some a)) (h':Et K σ F H v (some b)):Et K σ F H (tOr u v) (some (a||b)):=jh1 (jh0 h h') (by cases a <;> rfl)
theorem jjB (h:Ev K σ F H t (rF cB) m):Ev K σ F H (jhI t) (rF cB) (m.bind fun b=>some (!b)):=by
 intro F1 H1 E b e Q k;obtain⟨c,ec,e⟩:=bind_some e;cases e;exact h F1 H1 E c ec _ fun v F2 H2 E2 hv=>⟨c,hv,k _ F2 H2 E2 rfl⟩
theorem jjC (h:Ev K σ F H ta (rF cB) m) (h':Ev K σ F H tb (rF cB) m'):Ev K σ F H (jhH ta tb) (rF cB) (m.bind fun b=>bif b then m' else some false):=by
 intro F1 H1 E b e Q k;obtain⟨c,ec,e⟩:=bind_some e;refine h F1 H1 E c ec _ fun v F2 H2 E2 hv=>⟨c,hv,?_⟩;cases c with
 | true=>exact jdp (h' F2 H2 (E.trans E2) b e _ fun v F3 H3 E3 hv=>k v F3 H3 (E2.trans E3) hv)
 | false=>cases e; exact jdo (k _ F2 H2 E2 rfl)
theorem jfO {g:Int->Int->Bool}{ma mb mc:Option Int} (ha:Ev K σ F H ta (rF cI) ma) (hb:Ev K σ F H tb (rF cI) mb) (hc:Ev K σ F H tc (rF cI) mc) :
  Ev K σ F H (ja9 (rI0 fun i j=>.bl (g i j)) (rI0 fun i j=>.bl (g' i j)) ta tb tc) (rF cB) (ma.bind fun x=>mb.bind fun y=>bif g x y then mc.bind fun z=>some (g' y z) else some false):=by
 intro F1 H1 E b e Q k;obtain⟨x,ex,e⟩:=bind_some e;obtain⟨y,ey,e⟩:=bind_some e;refine ha F1 H1 E x ex _ fun v F2 H2 E2 hv=>hb F2 H2 (E.trans E2) y ey _ fun v' F3 H3 E3 hv'=>⟨x,y,hv,hv',_,rfl,?_⟩;cases hg:g x y with
 | true=>
  rw[hg] at e;obtain⟨z,ez,e⟩:=bind_some e;cases e;exact jdp (hc F3 H3 (E.trans (E2.trans E3)) z ez _ fun w F4 H4 E4 hw=>⟨y,z,hv',hw,k _ F4 H4 (E2.trans (E3.trans E4)) rfl⟩)
 | false=>
  rw[hg] at e;cases e;exact jdo (k _ F3 H3 (E2.trans E3) rfl)
theorem jdH {g:Int->Int->Bool}{x y z:Int} (ha:Ev K σ F H ta (rF cI) (some x)) (hb:Ev K σ F H tb (rF cI) (some y)) (hc:Ev K σ F H tc (rF cI) (some z)) :
  Ev K σ F H (ja9 (rI0 fun i j=>.bl (g i j)) (rI0 fun i j=>.bl (g' i j)) ta tb tc) (rF cB) (some (g x y&&g' y z)):=(jfO ha hb hc).cast (by
   show _=bif g x y then some (g' y z) else some false;cases g x y <;> rfl)
theorem jb3 {g:Int->Int->Bool}{x y z w:Int} (ha:Ev K σ F H ta (rF cI) (some x)) (hb:Ev K σ F H tb (rF cI) (some y)) (hc:Ev K σ F H tc (rF cI) (some z)) (hd:Ev K σ F H td (rF cI) (some w)) :
  Ev K σ F H (jaa (rI0 fun i j=>.bl (g i j)) (rI0 fun i j=>.bl (g' i j)) (rI0 fun i j=>.bl (g'' i j)) ta tb tc td) (rF cB) (some (g x y&&(g' y z&&g'' z w))):=by
 intro F1 H1 E b e Q k;cases e;refine ha F1 H1 E x rfl _ fun v F2 H2 E2 hv=>hb F2 H2 (E.trans E2) y rfl _ fun v' F3 H3 E3 hv'=>⟨x,y,hv,hv',_,rfl,?_⟩;cases hg:g x y with
 | true=>
  rw[hg] at k;refine jdp (hc F3 H3 (E.trans (E2.trans E3)) z rfl _ fun w' F4 H4 E4 hw=>⟨y,z,hv',hw,_,rfl,?_⟩);cases hg':g' y z with
  | true=>
   rw[hg'] at k;exact jdp (hd F4 H4 (E.trans (E2.trans (E3.trans E4))) w rfl _ fun w'' F5 H5 E5 hw'=>⟨z,w,hw,hw',k _ F5 H5 (E2.trans (E3.trans (E4.trans E5))) rfl⟩)
  | false=>
   rw[hg'] at k;exact jdo (k _ F4 H4 (E2.trans (E3.trans E4)) rfl)
 | false=>
  rw[hg] at k;exact jdo (k _ F3 H3 (E2.trans E3) rfl)
end
theorem qD:El K σ F H xb c 0 (some []):=fun F1 H1 E l e Q k=>by cases e; exact k [] F1 H1 (Ext.refl E.sub) .nil rfl
theorem jdI (ha:Ev K σ F H ta (rF c) ma) (hr:El K σ F H tr c n mr):El K σ F H (jJ ta tr) c (n+1) (ma.bind fun a=>mr.bind fun l=>some (a::l)):=by
 intro F1 H1 E l e Q k;obtain⟨a,ea,e⟩:=bind_some e;obtain⟨r,er,e⟩:=bind_some e;cases e;refine ha F1 H1 E a ea _ fun v F2 H2 E2 hv=>hr F2 H2 (E.trans E2) r er _ fun vs F3 H3 E3 hvs hl=>?_;exact k _ F3 H3 (E2.trans E3) (.cons (c.mono E3.f hv) hvs) (by simp[hl])
theorem xk (h:El K σ F H tr c n m) (hn:n<=16777216):Ev K σ F H (jlt tr) (rO c) m:=by
 intro F1 H1 E l e Q k;refine h F1 H1 E l e _ fun vs F2 H2 E2 hv hl=>⟨by rw[hl,wa]; exact hn,fun a ha=>?_⟩;exact zg (c:=c) E2.sub hv (fun v F5 H5 E5 hr=>k v F5 H5 (E2.trans E5) ((rO c).back E2.h hr)) a ha
theorem WU (h:El K σ F H tr c n m) (hn:n<=16777216):Ev K σ F H (jg8 tr) (rF (cT c)) m:=by
 intro F1 H1 E l e Q k;refine h F1 H1 E l e _ fun vs F2 H2 E2 hv hl=>⟨by rw[hl,wa]; exact hn,fun a ha=>?_⟩;exact WT (c:=c) E2.sub hv (fun v F5 H5 E5 hr=>k v F5 H5 (E2.trans E5) hr) a ha
theorem jdJ (ha:Ev K σ F H ta (rF c) ma) (hb:Ev K σ F H tb (rF d) mb):Ev K σ F H (jg8 (jJ ta (jJ tb xb))) (rF (cP c d)) (ma.bind fun a=>mb.bind fun b=>some (a,b)):=by
 intro F1 H1 E l e Q k;obtain⟨a,ea,e⟩:=bind_some e;obtain⟨b,eb,e⟩:=bind_some e;cases e;refine ha F1 H1 E a ea _ fun v F2 H2 E2 hv=>hb F2 H2 (E.trans E2) b eb _ fun w F3 H3 E3 hw=>⟨by show 2<=sizeLine; rw[wa]; decide,fun x hx=>?_⟩;have s:=E3.sub;exact k _ (upd F3 x (.tup [v,w])) _ (E2.trans (E3.trans (Ext.newF s hx))) ⟨x,v,w,rfl,jV,c.mono (E3.f.trans (xc (s.free hx))) hv,d.mono (xc (s.free hx)) hw⟩
def sp1 (K:W.Frag) (p1:Pm α1) (rs:Rs γ) (m:α1->Option γ):Sp:=fun vs H Q _=>∃ (x1:α1) (v1:V) (F:Hp) (r:γ),vs=[v1]/\Same F H/\p1.rel K F H x1 v1/\m x1=some r/\∀ u F' H',Ext F H F' H'->rs.rel K H F' H' r u->Q u H'
theorem jbi {p1:Pm α1}{m:α1->Option γ} (h1:Ev K σ F H t1 p1.rs m1):Ev K σ F H (JR (sp1 K p1 rs m) [] E0 (jJ t1 xb)) rs (m1.bind fun x1=>m x1):=by
 intro F0 H0 E0' z e Q k;obtain⟨x1,e1,e⟩:=bind_some e;refine h1 F0 H0 (E0') x1 e1 _ fun v1 F1 H1 E1 r1=>?_;exact⟨x1,v1,F1,z,rfl,E1.sub,r1,e,fun u F' H' E' hu=>k u F' H' ((E1).trans E') (rs.back (E1).h hu)⟩
def WV (c:Cd α) (C:Addr) (m:Str):Prop:=∀ {K:W.Frag}{F:Hp}{o:α}{v:V},c.rep K F o v->∃ a dx fs,v=.ref a/\F a=some (.ins C dx fs)/\fs.lookup m=none
theorem jfP {c1:Cd α1}{m:α1->Option γ} (ob:WV c1 C nm) (h1:Ev K σ F H t1 (rF c1) m1):Ev K σ F H (VS C nm (sp1 K (pF c1) rs m) [] E0 t1 xb) rs (m1.bind fun x1=>m x1):=by
 intro F0 H0 E0' z e Q k;obtain⟨x1,e1,e⟩:=bind_some e;refine h1 F0 H0 (E0') x1 e1 _ fun v1 F1 H1 E1 r1=>?_;obtain⟨a,dx,fs,ea,ha,hl⟩:=ob r1;refine⟨a,dx,fs,ea,E1.sub _ _ ha,hl,?_⟩;exact⟨x1,v1,F1,z,rfl,E1.sub,r1,e,fun u F' H' E' hu=>k u F' H' ((E1).trans E') (rs.back (E1).h hu)⟩
def sp2 (K:W.Frag) (p1:Pm α1) (p2:Pm α2) (rs:Rs γ) (m:α1->α2->Option γ):Sp:=fun vs H Q _=>∃ (x1:α1) (x2:α2) (v1 v2:V) (F:Hp) (r:γ),vs=[v1,v2]/\Same F H/\p1.rel K F H x1 v1/\p2.rel K F H x2 v2/\m x1 x2=some r/\∀ u F' H',Ext F H F' H'->rs.rel K H F' H' r u->Q u H'
theorem jbj {p1:Pm α1}{p2:Pm α2}{m:α1->α2->Option γ} (h1:Ev K σ F H t1 p1.rs m1) (h2:Ev K σ F H t2 p2.rs m2):Ev K σ F H (JR (sp2 K p1 p2 rs m) [] E0 (jJ t1 (jJ t2 xb))) rs (m1.bind fun x1=>m2.bind fun x2=>m x1 x2):=by
 intro F0 H0 E0' z e Q k;obtain⟨x1,e1,e⟩:=bind_some e;obtain⟨x2,e2,e⟩:=bind_some e;refine h1 F0 H0 (E0') x1 e1 _ fun v1 F1 H1 E1 r1=>?_;refine h2 F1 H1 ((E0').trans E1) x2 e2 _ fun v2 F2 H2 E2 r2=>?_;exact⟨x1,x2,v1,v2,F2,z,rfl,E2.sub,p1.mono (E2) r1,r2,e,fun u F' H' E' hu=>k u F' H' ((E1.trans (E2)).trans E') (rs.back (E1.trans (E2)).h hu)⟩
theorem jfQ {c1:Cd α1}{p2:Pm α2}{m:α1->α2->Option γ} (ob:WV c1 C nm) (h1:Ev K σ F H t1 (rF c1) m1) (h2:Ev K σ F H t2 p2.rs m2):Ev K σ F H (VS C nm (sp2 K (pF c1) p2 rs m) [] E0 t1 (jJ t2 xb)) rs (m1.bind fun x1=>m2.bind fun x2=>m x1 x2):=by
 intro F0 H0 E0' z e Q k;obtain⟨x1,e1,e⟩:=bind_some e;obtain⟨x2,e2,e⟩:=bind_some e;refine h1 F0 H0 (E0') x1 e1 _ fun v1 F1 H1 E1 r1=>?_;obtain⟨a,dx,fs,ea,ha,hl⟩:=ob r1;refine⟨a,dx,fs,ea,E1.sub _ _ ha,hl,?_⟩;refine h2 F1 H1 ((E0').trans E1) x2 e2 _ fun v2 F2 H2 E2 r2=>?_;exact⟨x1,x2,v1,v2,F2,z,rfl,E2.sub,(pF c1).mono (E2) r1,r2,e,fun u F' H' E' hu=>k u F' H' ((E1.trans (E2)).trans E') (rs.back (E1.trans (E2)).h hu)⟩
def sp3 (K:W.Frag) (p1:Pm α1) (p2:Pm α2) (p3:Pm α3) (rs:Rs γ) (m:α1->α2->α3->Option γ):Sp:=fun vs H Q _=>∃ (x1:α1) (x2:α2) (x3:α3) (v1 v2 v3:V) (F:Hp) (r:γ),vs=[v1,v2,v3]/\Same F H/\p1.rel K F H x1 v1/\p2.rel K F H x2 v2/\p3.rel K F H x3 v3/\m x1 x2 x3=some r/\∀ u F' H',Ext F H F' H'->rs.rel K H F' H' r u->Q u H'
theorem jbk {p1:Pm α1}{p2:Pm α2}{p3:Pm α3}{m:α1->α2->α3->Option γ} (h1:Ev K σ F H t1 p1.rs m1) (h2:Ev K σ F H t2 p2.rs m2) (h3:Ev K σ F H t3 p3.rs m3):Ev K σ F H (JR (sp3 K p1 p2 p3 rs m) [] E0 (jJ t1 (jJ t2 (jJ t3 xb)))) rs (m1.bind fun x1=>m2.bind fun x2=>m3.bind fun x3=>m x1 x2 x3):=by
 intro F0 H0 E0' z e Q k;obtain⟨x1,e1,e⟩:=bind_some e;obtain⟨x2,e2,e⟩:=bind_some e;obtain⟨x3,e3,e⟩:=bind_some e;refine h1 F0 H0 (E0') x1 e1 _ fun v1 F1 H1 E1 r1=>?_;refine h2 F1 H1 ((E0').trans E1) x2 e2 _ fun v2 F2 H2 E2 r2=>?_;refine h3 F2 H2 (((E0').trans E1).trans E2) x3 e3 _ fun v3 F3 H3 E3 r3=>?_;exact⟨x1,x2,x3,v1,v2,v3,F3,z,rfl,E3.sub,p1.mono (E2.trans (E3)) r1,p2.mono (E3) r2,r3,e,fun u F' H' E' hu=>k u F' H' ((E1.trans (E2.trans (E3))).trans E') (rs.back (E1.trans (E2.trans (E3))).h hu)⟩
def VT (K:W.Frag) (c:Cd α) (f:Str) (d:Cd β) (g:α->β):Prop:=∀ {F:Hp}{o:α}{v:V},c.rep K F o v->∃ a C dx fs u,v=.ref a/\F a=some (.ins C dx fs)/\Cls K C/\NoAttr K C f/\fs.lookup f=some u/\d.rep K F (g o) u
theorem jjD {f:Str}{g:α->β} (hf:VT K c f d g) (h:Ev K σ F H t (rF c) ma):Ev K σ F H (jjk K t f) (rF d) (ma.bind fun o=>some (g o)):=by
 intro F1 H1 E z e Q k;obtain⟨o,eo,e⟩:=bind_some e;cases e;refine h F1 H1 E o eo _ fun v F2 H2 E2 hv=>?_;obtain⟨a,C,dx,fs,u,e1,e2,e3,e4,e5,e6⟩:=hf hv;exact⟨a,C,dx,fs,u,e1,E2.sub _ _ e2,e3,e4,e5,k u F2 H2 E2 e6⟩
end
section
variable {F:Hp}{t:TE}{c:Cd α}{d:Cd β}{p:Pm α}{q:Pm β}{rs:Rs γ} 
structure Own (K:W.Frag) (He F H:Hp) (c:Cd α) (l:List α) (a:Addr):Prop where
 e:He a=none
 f:F a=none
 h:∃ xs,H a=some (.lst xs)/\Paired (c.rep K F) l xs
theorem Own.mono (o:Own K He F H c l a) (E:Ext F H F' H'):Own K He F' H' c l a:=by
 obtain⟨xs,h1,h2⟩:=o.h;refine⟨o.e,?_,xs,E.h _ _ h1,Paired.mapP h2 fun _ _=>c.mono E.f⟩;cases e:F' a with
 | none=>rfl
 | some u=>
  rcases E.new a u e with z | z
  ·rw[o.f] at z; cases z
  ·rw[h1] at z; cases z
theorem Own.b (o:Own K He F H c l a):(pB c).rel K F H l (.ref a):=let ⟨xs,h1,h2⟩:=o.h; ⟨a,xs,rfl,h1,h2⟩
structure Chg (a:Addr) (F H F' H':Hp):Prop where
 f:Same F F'
 h:∀ b o,b≠a->H b=some o->H' b=some o
 new:∀ b o,b≠a->F' b=some o->F b=some o \/ Fr (H b)
theorem Own.chg {b:Addr} (o:Own K He F H c l b) (C:Chg a F H F' H') (hne:b≠a):Own K He F' H' c l b:=by
 obtain⟨xs,h1,h2⟩:=o.h;refine⟨o.e,?_,xs,C.h _ _ hne h1,Paired.mapP h2 fun _ _=>c.mono C.f⟩;cases e:F' b with
 | none=>rfl
 | some u=>
  rcases C.new b u hne e with z | z
  ·rw[o.f] at z; cases z
  ·rw[h1] at z; cases z
theorem Own.ne {b:Addr}{F0 H0:Hp} (o:Own K He F0 H0 c l b) (h:H0 a=none):b≠a:=by
 obtain⟨xs,h1,_⟩:=o.h;exact kK h1 h
theorem Own.freeze (o:Own K He F H c l a) (X:Ext Fe He F H):∃ F',Ext Fe He F' H/\Chg a F H F' H/\(cL c).rep K F' l (.ref a):=by
 obtain⟨xs,h1,h2⟩:=o.h;exact⟨upd F a (.lst xs),X.frz o.e o.f h1,⟨xc o.f,fun _ _ _ h=>h,fun b u e hb=>by rw[jM e] at hb; exact .inl hb⟩,a,xs,rfl,jV,Paired.mapP h2 fun _ _=>c.mono (xc o.f)⟩
def Bor (K:W.Frag) (He F:Hp) (c:Cd α) (l:List α) (v:V):Prop:=(pB c).rel K F He l v
theorem Bor.mono {v:V} (b:Bor K He F c l v) (s:Same F F'):Bor K He F' c l v:=let ⟨a,xs,h0,h1,h2⟩:=b; ⟨a,xs,h0,h1,Paired.mapP h2 fun _ _=>c.mono s⟩
theorem Bor.b {v:V} (b:Bor K He F c l v) (X:Ext Fe He F H):(pB c).rel K F H l v:=let ⟨a,xs,h0,h1,h2⟩:=b; ⟨a,xs,h0,X.h _ _ h1,h2⟩
theorem jhi {m:Option α}{f:α->Option δ} (he:Ev K σ F H te p.rs m) (X:Ext Fe He F H) (hm:m.bind f=some r) (k:∀ a v F' H',f a=some r->Ext F H F' H'->Ext Fe He F' H'->p.rel K F' H' a v->D.nx (σ.set i (some v)) H'):UN te (qO i) D σ H:=by
 obtain⟨a,ea,hm⟩:=bind_some hm;exact he F H (Ext.refl X.sub) a ea _ fun v F2 H2 E hv=>k a v F2 H2 hm E (X.trans E) hv
theorem xR {m:Option Int}{f:Int->Option δ} (he:Ev K σ F H te (rF cI) m) (X:Ext Fe He F H) (hm:m.bind f=some r) (k:∀ a F' H',f a=some r->Ext F H F' H'->Ext Fe He F' H'->D.nx (σ.set i (some (.int a))) H'):UN te (qO i) D σ H:=
 jhi (p:=pF cI) he X hm fun a v F' H' h1 h2 h3 h4=>by have e:v=.int a:=h4; subst e; exact k a F' H' h1 h2 h3
theorem jh2 {f:List α->Option δ} (he:Ev K σ F H te (rO c) m) (X:Ext Fe He F H) (hm:m.bind f=some r) (k:∀ l a F' H',f l=some r->Ext F H F' H'->Ext Fe He F' H'->H a=none->Own K He F' H' c l a->D.nx (σ.set i (some (.ref a))) H'):UN te (qO i) D σ H:=by
 obtain⟨a,ea,hm⟩:=bind_some hm;refine he F H (Ext.refl X.sub) a ea _ ?_;rintro v F2 H2 E ⟨b,xs,rfl,h1,h2,h3,h4⟩;exact k a b F2 H2 hm E (X.trans E) h1 ⟨X.h.free h1,h2,xs,h3,h4⟩
theorem jh3 {m:Option (α×β)}{f:α×β->Option δ} (he:Ev K σ F H te (rF (cP c d)) m) (X:Ext Fe He F H) (hm:m.bind f=some r)
  (k:∀ x y u v F' H',f (x,y)=some r->Ext F H F' H'->Ext Fe He F' H'->c.rep K F' x u->d.rep K F' y v->D.nx ((σ.set i (some u)).set j (some v)) H'):UN te (jfr K 2 (GQ (qO i) (GQ (qO j) jfq))) D σ H:=by
 obtain⟨⟨x,y⟩,ea,hm⟩:=bind_some hm;refine he F H (Ext.refl X.sub) _ ea _ ?_;rintro w F2 H2 E ⟨a,u,v,rfl,h1,h2,h3⟩;exact⟨a,[u,v],rfl,SqT.of (E.sub _ _ h1),rfl,u,[v],rfl,v,[],rfl,rfl,k x y u v F2 H2 hm E (X.trans E) h2 h3⟩
theorem kd {r:γ}{m:Option γ} (he:Ev K σ F H te rs m) (X:Ext Fe He F H) (hm:m=some r) (k:∀ v F' H',Ext Fe He F' H'->rs.rel K He F' H' r v->D.rt v H'):jkE te D σ H:=
 he F H (Ext.refl X.sub) r hm _ fun v F2 H2 E hv=>k v F2 H2 (X.trans E) (rs.back X.h hv)
theorem jh4 {r:List α} (hi:σ[i]?=some (some (.ref a))) (o:Own K He F H c l a) (X:Ext Fe He F H) (hm:some l=some r) (k:∀ v F' H',Ext Fe He F' H'->(rO c).rel K He F' H' r v->D.rt v H'):jkE (Wb i) D σ H:=by
 cases hm;obtain⟨xs,h1,h2⟩:=o.h;exact⟨_,hi,k _ F H X ⟨a,xs,rfl,o.e,o.f,h1,h2⟩⟩
theorem jad {u:TT}{t t':TS}{m:Option Bool}{A:Option δ} (hc:Et K σ F H u m) (X:Ext Fe He F H) (hm:(m.bind fun b=>bif b then A else B)=some r) (h1:∀ F' H',A=some r->Ext F H F' H'->Ext Fe He F' H'->t D σ H')
  (h2:∀ F' H',B=some r->Ext F H F' H'->Ext Fe He F' H'->t' D σ H'):jff u t t' D σ H:=by
 obtain⟨b,eb,hm⟩:=bind_some hm;refine hc F H (Ext.refl X.sub) b eb _ fun F2 H2 E=>?_;cases b with
 | true=>exact jdp (h1 F2 H2 hm E (X.trans E))
 | false=>exact jdo (h2 F2 H2 hm E (X.trans E))
theorem Za {u:TT}{t t':TS}{b:Bool}{A:Option δ} (hc:Et K σ F H u (some b)) (X:Ext Fe He F H) (hm:(bif b then A else B)=some r) (h1:∀ F' H',b=true->A=some r->Ext F H F' H'->Ext Fe He F' H'->t D σ H')
  (h2:∀ F' H',b=false->B=some r->Ext F H F' H'->Ext Fe He F' H'->t' D σ H'):jff u t t' D σ H:=by
 refine hc F H (Ext.refl X.sub) b rfl _ fun F2 H2 E=>?_;cases b with
 | true=>exact jdp (h1 F2 H2 rfl hm E (X.trans E))
 | false=>exact jdo (h2 F2 H2 rfl hm E (X.trans E))
theorem U2 {u:TT}{t t':TS}{m:Option Bool}{A B:Option β}{f:β->Option δ} (I:β->St->Hp->Prop) (hc:Et K σ F H u m) (X:Ext Fe He F H) (hm:(m.bind fun b=>bif b then A else B).bind f=some r)
  (h1:∀ b F' H',A=some b->Ext F H F' H'->Ext Fe He F' H'->t { D with nx:=I b } σ H') (h2:∀ b F' H',B=some b->Ext F H F' H'->Ext Fe He F' H'->t' { D with nx:=I b } σ H') (hk:∀ b σ' H',f b=some r->I b σ' H'->D.nx σ' H'):jju (jff u t t') D σ H:=by
 obtain⟨b,eb,hm⟩:=bind_some hm;obtain⟨x,ex,eb⟩:=bind_some eb;refine⟨I b,?_,fun σ' H' h=>hk b σ' H' hm h⟩;refine hc F H (Ext.refl X.sub) x ex _ fun F2 H2 E=>?_;cases x with
 | true=>exact jdp (h1 b F2 H2 eb E (X.trans E))
 | false=>exact jdo (h2 b F2 H2 eb E (X.trans E))
theorem jae {u:TT}{t t':TS}{x:Bool}{A B:Option β}{f:β->Option δ} (I:β->St->Hp->Prop) (hc:Et K σ F H u (some x)) (X:Ext Fe He F H) (hm:(bif x then A else B).bind f=some r)
  (h1:∀ b F' H',A=some b->Ext F H F' H'->Ext Fe He F' H'->t { D with nx:=I b } σ H') (h2:∀ b F' H',B=some b->Ext F H F' H'->Ext Fe He F' H'->t' { D with nx:=I b } σ H') (hk:∀ b σ' H',f b=some r->I b σ' H'->D.nx σ' H'):jju (jff u t t') D σ H:=
 U2 (m:=some x) I hc X hm h1 h2 hk
theorem jh5 {m:Option γ}{f:γ->Option δ} (he:Ev K σ F H te rs m) (X:Ext Fe He F H) (hm:m.bind f=some r) (k:∀ a F' H',f a=some r->Ext F H F' H'->Ext Fe He F' H'->D.nx σ H'):VR te D σ H:=by
 obtain⟨a,ea,hm⟩:=bind_some hm;exact he F H (Ext.refl X.sub) a ea _ fun v F2 H2 E hv=>k a F2 H2 hm E (X.trans E)
@[irreducible] def Wg (l:List α) (y:α):Option (List α):=if l.length<16777216 then some (l++[y]) else none
theorem jaf (X:Ext Fe He F H) (he:He a=none) (hf:F a=none) (h:Paired (c.rep K F) l xs):Ext Fe He F (upd H a (.lst xs))/\Own K He F (upd H a (.lst xs)) c l a:=
 ⟨X.upd he hf,he,hf,xs,jV,h⟩
theorem WW {F:Hp}{o:HO} (E:Ext F H F' H'):Chg a F H F' (upd H' a o):=
 ⟨E.f,fun b u hb h=>by rw[jM hb]; exact E.h b u h,fun b u _ h=>E.new b u h⟩
theorem yV {m:Option α}{f:List α->Option δ} (hi:σ[i]?=some (some (.ref a))) (o:Own K He F H c l a) (he:Ev K σ F H te (rF c) m) (X:Ext Fe He F H) (hm:(m.bind fun y=>Wg l y).bind f=some r)
  (k:∀ l' F' H',f l'=some r->Chg a F H F' H'->Ext Fe He F' H'->Own K He F' H' c l' a->D.nx σ H'):VR (tBM K "list" WL (Wb i) (jJ te xb)) D σ H:=by
 obtain⟨l',el,hm⟩:=bind_some hm;obtain⟨y,ey,el⟩:=bind_some el;unfold Wg at el;obtain⟨hl,rfl⟩:=kI el;obtain⟨xs,h1,h2⟩:=o.h;refine⟨_,hi,.inl ⟨rfl,_,SqL.of h1⟩,he F H (Ext.refl X.sub) y ey _ fun v F2 H2 E hv=>?_⟩;have o2:=o.mono E;have h3:Paired (c.rep K F2) l xs:=Paired.mapP h2 fun _ _=>c.mono E.f;refine⟨a,xs,v,rfl,rfl,E.h _ _ h1,by rw[wa,<- h2.length]; exact hl,?_⟩;obtain⟨X',o'⟩:=jaf (K:=K) (c:=c) (X.trans E) o.e o2.f (Paired.app h3 (.cons hv .nil));exact k _ F2 _ hm (WW E) X' o'
structure ItOk (K:W.Frag) (J:It) (c:Cd α) (l:List α) (G:Hp->Hp->Prop):Prop where
 go:∀ i F H,G F H->i<l.length->J.go i H
 yld:∀ i F H x H',G F H->J.yld i H x H'->∀ a,l[i]?=some a->∃ F',Ext F H F' H'/\c.rep K F' a x
 stop:∀ F H,G F H->J.stop l.length H
theorem jag (h:∀ F H,G F H->SqL K H a xs/\Same F1 F/\Same F H) (hp:Paired (c.rep K F1) l xs):ItOk K (Itl K a) c l G where
 go:=fun i F H g hi=>⟨xs,xs[i]'(by rw[<- hp.length]; exact hi),(h F H g).1,Xe _⟩
 yld:=fun i F H x H' g y b hb=>by
  obtain⟨e,y⟩:=y;subst e;obtain⟨s1,s2,s3⟩:=h F _ g;obtain⟨v,hv,r⟩:=Paired.at hp hb;have:=y xs s1;rw[hv] at this;cases this;exact⟨F,Ext.refl s3,c.mono s2 r⟩
 stop:=fun F H g=>⟨xs,(h F H g).1,by rw[hp.length]; exact Xh _⟩
theorem jhj (h:∀ F H,G F H->SqT K H a xs/\Same F1 F/\Same F H) (hp:Paired (c.rep K F1) l xs):ItOk K (Itt K a) c l G where
 go:=fun i F H g hi=>⟨xs,xs[i]'(by rw[<- hp.length]; exact hi),(h F H g).1,Xe _⟩
 yld:=fun i F H x H' g y b hb=>by
  obtain⟨e,y⟩:=y;subst e;obtain⟨s1,s2,s3⟩:=h F _ g;obtain⟨v,hv,r⟩:=Paired.at hp hb;have:=y xs s1;rw[hv] at this;cases this;exact⟨F,Ext.refl s3,c.mono s2 r⟩
 stop:=fun F H g=>⟨xs,(h F H g).1,by rw[hp.length]; exact Xh _⟩
def JH (lo hi:Int):List Int:=(List.range (hi-lo).toNat).map fun k=>lo+((k:Nat):Int)
theorem Wh (lo hi:Int):(JH lo hi).length=(hi-lo).toNat:=by simp[JH]
@[irreducible] def yE (lo hi:Int):Option (List Int):=if -(2 ^ 62)<=lo/\lo<2 ^ 62/\-(2 ^ 62)<=hi/\hi<2 ^ 62 then some (JH lo hi) else none
theorem jbl {lo hi:Int} (h:∀ F H,G F H->Same F H):ItOk K (Itr lo (hi-lo).toNat) cI (JH lo hi) G where
 go:=fun i F H g hi'=>by rw[Wh] at hi'; exact hi'
 yld:=fun i F H x H' g y b hb=>by
  obtain⟨e,y⟩:=y;subst e y;refine⟨F,Ext.refl (h F _ g),?_⟩;unfold JH at hb;rw[Xy] at hb;cases q:(List.range (hi-lo).toNat)[i]? with
  | none=>rw[q] at hb; cases hb
  | some j=>
   rw[q] at hb;have hij:j=i:=by
    obtain⟨h1,h2⟩:=List.getElem?_eq_some_iff.mp q;simpa using h2.symm
   subst hij;cases hb;rfl
 stop:=fun F H g=>by rw[Wh]; exact Xh _
def Ei (K:W.Frag) (σ:St) (F H Fe He:Hp) (wi:TI) (c:Cd α) (m:Option (List α)):Prop:=
 Ext Fe He F H->∀ l,m=some l->∀ R:It->Hp->Prop,(∀ J F1 H1,Ext F H F1 H1->ItOk K J c l (fun F' H'=>Ext Fe He F' H'/\Same F1 F')->R J H1)->wi σ H R
theorem jh6 (h:Ev K σ F H t (rF (cL c)) m):Ei K σ F H Fe He (jft K t) c m:=by
 intro X l e R k;refine h F H (Ext.refl X.sub) l e _ ?_;rintro v F2 H2 E ⟨a,xs,rfl,h1,h2⟩;exact⟨a,rfl,⟨xs,SqL.of (E.sub _ _ h1)⟩,k _ F2 H2 E (jag (F1:=F2) (fun F' H' g=>⟨SqL.of (g.1.sub _ _ (g.2 _ _ h1)),g.2,g.1.sub⟩) h2)⟩
theorem jhk (h:Ev K σ F H t (rF (cT c)) m):Ei K σ F H Fe He (jkP K t) c m:=by
 intro X l e R k;refine h F H (Ext.refl X.sub) l e _ ?_;rintro v F2 H2 E ⟨a,xs,rfl,h1,h2⟩;exact⟨a,rfl,⟨xs,SqT.of (E.sub _ _ h1)⟩,k _ F2 H2 E (jhj (F1:=F2) (fun F' H' g=>⟨SqT.of (g.1.sub _ _ (g.2 _ _ h1)),g.2,g.1.sub⟩) h2)⟩
theorem U3 {v:V} (hi:σ[i]?=some (some v)) (b:Bor K He F c l v):Ei K σ F H Fe He (jft K (Wb i)) c (some l):=by
 intro X l' e R k;cases e;obtain⟨a,xs,rfl,h1,h2⟩:=b;exact⟨_,hi,a,rfl,⟨xs,SqL.of (X.h _ _ h1)⟩,k _ F H (Ext.refl X.sub) (jag (F1:=F) (fun F' H' g=>⟨SqL.of (g.1.h _ _ h1),g.2,g.1.sub⟩) h2)⟩
theorem jdK {m:Option Int} (h:Ev K σ F H t (rF cI) m):Ei K σ F H Fe He (WE (jJ t xb)) cI (m.bind fun j=>yE 0 j):=by
 intro X l e R k;obtain⟨j,ej,e⟩:=bind_some e;unfold yE at e;obtain⟨⟨h1,h2,h3,h4⟩,rfl⟩:=kI e;refine h F H (Ext.refl X.sub) j ej _ fun v F2 H2 E hv=>?_;have ev:v=.int j:=hv;subst ev;refine⟨j,rfl,h3,h4,?_⟩;have q:=k (Itr 0 (j-0).toNat) F2 H2 E (jbl fun F' H' g=>g.1.sub);rw[Int.sub_zero] at q;exact q
theorem jh7 {m:Option Int} (h:Ev K σ F H t (rF cI) m) (h':Ev K σ F H ta (rF cI) m'):Ei K σ F H Fe He (Z7 (jJ t (jJ ta xb))) cI (m.bind fun i=>m'.bind fun j=>yE i j):=by
 intro X l e R k;obtain⟨i,ei,e⟩:=bind_some e;obtain⟨j,ej,e⟩:=bind_some e;unfold yE at e;obtain⟨⟨h1,h2,h3,h4⟩,rfl⟩:=kI e;refine h F H (Ext.refl X.sub) i ei _ fun v F2 H2 E hv=>h' F2 H2 E j ej _ fun v' F3 H3 E3 hv'=>?_;have ev:v=.int i:=hv;have ev':v'=.int j:=hv';subst ev ev';exact⟨i,j,rfl,⟨h1,h2,h3,h4⟩,k (Itr i (j-i).toNat) F3 H3 (E.trans E3) (jbl fun F' H' g=>g.1.sub)⟩
def Ec (K:W.Frag) (σ:St) (F H:Hp) (wi:TI) (c:Cd α) (m:Option (List α)):Prop:=
 ∀ F1 H1,Ext F H F1 H1->∀ l,m=some l->∀ R:It->Hp->Prop,(∀ J F2 H2,Ext F1 H1 F2 H2->ItOk K J c l (fun F' H'=>Ext F2 H2 F' H')->R J H2)->wi σ H1 R
theorem jah (h:Ev K σ F H t (pR c).rs m):Ec K σ F H (jft K t) c m:=by
 intro F1 H1 X l e R k;refine h F1 H1 X l e _ ?_;rintro v F2 H2 E ⟨a,xs,rfl,h1,h2⟩;exact⟨a,rfl,⟨xs,h1⟩,k _ F2 H2 E (jag (F1:=F2) (fun F' H' g=>⟨g.h.seq h1,g.f,g.sub⟩) h2)⟩
theorem jhl (h:Ev K σ F H t (rF (cT c)) m):Ec K σ F H (jkP K t) c m:=by
 intro F1 H1 X l e R k;refine h F1 H1 X l e _ ?_;rintro v F2 H2 E ⟨a,xs,rfl,h1,h2⟩;exact⟨a,rfl,⟨xs,SqT.of (E.sub _ _ h1)⟩,k _ F2 H2 E (jhj (F1:=F2) (fun F' H' g=>⟨SqT.of (g.sub _ _ (g.f _ _ h1)),g.f,g.sub⟩) h2)⟩
theorem jdL {m:Option Int} (h:Ev K σ F H t (rF cI) m):Ec K σ F H (WE (jJ t xb)) cI (m.bind fun j=>yE 0 j):=by
 intro F1 H1 X l e R k;obtain⟨j,ej,e⟩:=bind_some e;unfold yE at e;obtain⟨⟨h1,h2,h3,h4⟩,rfl⟩:=kI e;refine h F1 H1 X j ej _ fun v F2 H2 E hv=>?_;have ev:v=.int j:=hv;subst ev;refine⟨j,rfl,h3,h4,?_⟩;have q:=k (Itr 0 (j-0).toNat) F2 H2 E (jbl fun F' H' g=>g.sub);rw[Int.sub_zero] at q;exact q
theorem jh8 {m:Option Int} (h:Ev K σ F H t (rF cI) m) (h':Ev K σ F H ta (rF cI) m'):Ec K σ F H (Z7 (jJ t (jJ ta xb))) cI (m.bind fun i=>m'.bind fun j=>yE i j):=by
 intro F1 H1 X l e R k;obtain⟨i,ei,e⟩:=bind_some e;obtain⟨j,ej,e⟩:=bind_some e;unfold yE at e;obtain⟨⟨h1,h2,h3,h4⟩,rfl⟩:=kI e;refine h F1 H1 X i ei _ fun v F2 H2 E hv=>h' F2 H2 (X.trans E) j ej _ fun v' F3 H3 E3 hv'=>?_;have ev:v=.int i:=hv;have ev':v'=.int j:=hv';subst ev ev';exact⟨i,j,rfl,⟨h1,h2,h3,h4⟩,k (Itr i (j-i).toNat) F3 H3 (E.trans E3) (jbl fun F' H' g=>g.sub)⟩
def forM:List α->β->(β->α->Option β)->Option β
 | [],b,_=>some b
 | x::r,b,f=>(f b x).bind fun b'=>forM r b' f
inductive Fl (β γ:Type) where
 | nx (b:β)
 | rt (c:γ)
def Fl.el (x:Fl β γ) (A:γ->δ) (B:β->δ):δ:=match x with
 | .nx b=>B b
 | .rt c=>A c
def Z4:List α->β->(β->α->Option (Fl β γ))->Option (Fl β γ)
 | [],b,_=>some (.nx b)
 | x::r,b,f=>(f b x).bind fun s=>match s with
  | .nx b'=>Z4 r b' f
  | .rt c=>some (.rt c)
theorem jfR {g:TG}{tb:TS}{b1:β} (I:β->St->Hp->Hp->Prop) (hJ:ItOk K J c l (fun F' H'=>Ext Fe He F' H'/\Same F1 F')) (hrun:forM l b0 f=some b1)
  (h0:I b0 σ F1 H1) (hG:∀ b σ F H,I b σ F H->Ext Fe He F H/\Same F1 F)
  (hs:∀ b b' x v σ F H F' H',I b σ F H->Ext F H F' H'->c.rep K F' x v->f b x=some b'->g v σ H' fun σ2 H2=>tb { D with nx:=fun σ H=>∃ F,I b' σ F H,ct:=fun σ H=>∃ F,I b' σ F H,bk:=D.nx } σ2 H2)
  (hd:∀ σ F H,I b1 σ F H->D.nx σ H) :
  ∃ W:Nat->Nat->St->Hp->Prop,(∃ m,W 0 m σ H1)/\∀ i m σ H,W i m σ H ->
   (J.stop i H/\D.nx σ H) \/ (J.go i H/\∃ N:St->Hp->Prop,(∀ σ' H',N σ' H'->∃ m',m'<m/\W (i+1) m' σ' H')/\∀ x H',J.yld i H x H'->g x σ H' fun σ2 H2=>tb { D with nx:=N,ct:=N,bk:=D.nx } σ2 H2):=by
 refine⟨fun i m σ H=>m=l.length-i/\i<=l.length/\∃ b F,forM (l.drop i) b f=some b1/\I b σ F H,⟨l.length,by simp,wH _,b0,F1,by simpa using hrun,h0⟩,?_⟩;rintro i m σ H ⟨rfl,hi,b,F,hb,hI⟩;have g0:=hG b σ F H hI;by_cases hlt:i<l.length
 ·have e:l.drop i=l[i]::l.drop (i+1):=wZ hlt;rw[e] at hb;obtain⟨b',hf,hb⟩:=bind_some hb;refine .inr ⟨hJ.go i F H g0 hlt,fun σ H=>∃ F,I b' σ F H,fun σ' H' ⟨F',h'⟩=>⟨l.length-(i+1),by omega,rfl,hlt,b',F',hb,h'⟩,fun x H' y=>?_⟩;obtain⟨F',E',r'⟩:=hJ.yld i F H x H' g0 y _ (Xe hlt);exact hs b b' l[i] x σ F H F' H' hI E' r' hf
 ·have e:i=l.length:=by omega
  subst e;rw[List.drop_length] at hb;cases hb;exact .inl ⟨hJ.stop F H g0,hd σ F H hI⟩
theorem jdM {g:TG}{tb:TS}{f:β->α->Option (Fl β γ)}{b1:Fl β γ} (I:β->St->Hp->Hp->Prop) (P:γ->Prop) (hJ:ItOk K J c l (fun F' H'=>Ext Fe He F' H'/\Same F1 F')) (hrun:Z4 l b0 f=some b1)
  (hP:∀ c,b1=.rt c->P c) (h0:I b0 σ F1 H1) (hG:∀ b σ F H,I b σ F H->Ext Fe He F H/\Same F1 F)
  (hs:∀ b s x v σ F H F' H',I b σ F H->Ext F H F' H'->c.rep K F' x v->f b x=some s->(∀ c,s=.rt c->P c)->g v σ H' fun σ2 H2=>tb { D with nx:=fun σ H=>∃ b' F,s=.nx b'/\I b' σ F H,ct:=fun σ H=>∃ b' F,s=.nx b'/\I b' σ F H,bk:=D.nx } σ2 H2)
  (hd:∀ b σ F H,b1=.nx b->I b σ F H->D.nx σ H) :
  ∃ W:Nat->Nat->St->Hp->Prop,(∃ m,W 0 m σ H1)/\∀ i m σ H,W i m σ H ->
   (J.stop i H/\D.nx σ H) \/ (J.go i H/\∃ N:St->Hp->Prop,(∀ σ' H',N σ' H'->∃ m',m'<m/\W (i+1) m' σ' H')/\∀ x H',J.yld i H x H'->g x σ H' fun σ2 H2=>tb { D with nx:=N,ct:=N,bk:=D.nx } σ2 H2):=by
 refine⟨fun i m σ H=>m=l.length-i/\i<=l.length/\∃ b F,Z4 (l.drop i) b f=some b1/\I b σ F H,⟨l.length,by simp,wH _,b0,F1,by simpa using hrun,h0⟩,?_⟩;rintro i m σ H ⟨rfl,hi,b,F,hb,hI⟩;have g0:=hG b σ F H hI;by_cases hlt:i<l.length
 ·have e:l.drop i=l[i]::l.drop (i+1):=wZ hlt;rw[e] at hb;obtain⟨s,hf,hb⟩:=bind_some hb;refine .inr ⟨hJ.go i F H g0 hlt,fun σ H=>∃ b' F,s=.nx b'/\I b' σ F H,?_,fun x H' y=>?_⟩
  ·rintro σ' H' ⟨b',F',rfl,h'⟩;exact⟨l.length-(i+1),by omega,rfl,hlt,b',F',hb,h'⟩
  ·obtain⟨F',E',r'⟩:=hJ.yld i F H x H' g0 y _ (Xe hlt);refine hs b s l[i] x σ F H F' H' hI E' r' hf ?_;rintro c rfl;cases hb;exact hP c rfl
 ·have e:i=l.length:=by omega
  subst e;rw[List.drop_length] at hb;cases hb;exact .inl ⟨hJ.stop F H g0,hd b σ F H rfl hI⟩
theorem jbm {g:TG}{tb:TS} (hi:Ei K σ F H Fe He wi c m) (X:Ext Fe He F H) (hm:(m.bind fun l=>forM l b0 f).bind kk=some r) (I:Hp->β->St->Hp->Hp->Prop)
  (h0:∀ F1 H1,Ext F H F1 H1->Ext Fe He F1 H1->I F1 b0 σ F1 H1) (hG:∀ F1 b σ F H,I F1 b σ F H->Ext Fe He F H/\Same F1 F)
  (hs:∀ F1 (S0:Same F F1) b b' x v σ F H F' H',I F1 b σ F H->Ext F H F' H'->c.rep K F' x v->f b x=some b'->g v σ H' fun σ2 H2=>tb { D with nx:=fun σ H=>∃ F,I F1 b' σ F H,ct:=fun σ H=>∃ F,I F1 b' σ F H,bk:=D.nx } σ2 H2)
  (hd:∀ F1 (S0:Same F F1) b σ F H,kk b=some r->I F1 b σ F H->D.nx σ H):jg3 wi g tb D σ H:=by
 obtain⟨b1,hb,hk⟩:=bind_some hm;obtain⟨l,el,hrun⟩:=bind_some hb;exact hi X l el _ fun J F1 H1 E hJ=>jfR (I F1) hJ hrun (h0 F1 H1 E (X.trans E)) (hG F1) (hs F1 E.f) fun σ F H h=>hd F1 E.f b1 σ F H hk h
theorem jh9 {g:TG}{tb:TS}{f:β->α->Option (Fl β γ)}{A:γ->Option δ} (P:γ->Prop) (hi:Ei K σ F H Fe He wi c m) (X:Ext Fe He F H) (hm:(m.bind fun l=>Z4 l b0 f).bind (fun x=>x.el A kk)=some r) (hP:∀ c,A c=some r->P c) (I:Hp->β->St->Hp->Hp->Prop)
  (h0:∀ F1 H1,Ext F H F1 H1->Ext Fe He F1 H1->I F1 b0 σ F1 H1) (hG:∀ F1 b σ F H,I F1 b σ F H->Ext Fe He F H/\Same F1 F)
  (hs:∀ F1 (S0:Same F F1) b s x v σ F H F' H',I F1 b σ F H->Ext F H F' H'->c.rep K F' x v->f b x=some s->(∀ c,s=.rt c->P c)->g v σ H' fun σ2 H2=>tb { D with nx:=fun σ H=>∃ b' F,s=.nx b'/\I F1 b' σ F H,ct:=fun σ H=>∃ b' F,s=.nx b'/\I F1 b' σ F H,bk:=D.nx } σ2 H2)
  (hd:∀ F1 (S0:Same F F1) b σ F H,kk b=some r->I F1 b σ F H->D.nx σ H):jg3 wi g tb D σ H:=by
 obtain⟨b1,hb,hk⟩:=bind_some hm;obtain⟨l,el,hrun⟩:=bind_some hb;exact hi X l el _ fun J F1 H1 E hJ=>jdM (I F1) P hJ hrun (fun c e=>hP c (by subst e; exact hk)) (h0 F1 H1 E (X.trans E)) (hG F1) (hs F1 E.f) fun b σ F H e h=>hd F1 E.f b σ F H (by subst e; exact hk) h
def jai:List α->(α->Option Bool)->(α->Option β)->Option (List β)
 | [],_,_=>some []
 | x::r,p,f=>(p x).bind fun b=>bif b then (f x).bind fun y=>(jai r p f).bind fun ys=>some (y::ys) else jai r p f
@[irreducible] def xh (l:List α) (p:α->Option Bool) (f:α->Option β):Option (List β):=if l.length<=16777216 then jai l p f else none
def Bds (K:W.Frag) (c:Cd α) (g:TG) (n:Nat) (fr:St) (Bd:Hp->α->St->Prop):Prop:=
 ∀ F H x v own Q,own.length=n->c.rep K F x v->Same F H->(∀ own',own'.length=n->Bd F x own'->Q (own'++fr) H)->g v (own++fr) H Q
theorem jdN {g:Blk->TG}{tc:Blk->TT}{te:Blk->TE}{mc:α->Option Bool}{me:α->Option β}{fr:St} (Bd:Hp->α->St->Prop) (hi:Ec K σ F H wi c m)
  (hfr:(ix.map fun i=>(σ[i]?).join)=fr) (hg:∀ b,Bds K c (g b) n fr Bd)
  (hc:∀ b x own F' H',Ext F H F' H'->Bd F' x own->Et K (own++fr) F' H' (tc b) (mc x)) (he:∀ b x own F' H',Ext F H F' H'->Bd F' x own->Ev K (own++fr) F' H' (te b) (rF d) (me x)) :
  Ev K σ F H (UT wi n ix g tc te) (rO d) (m.bind fun l=>xh l mc me):=by
 intro F1 H1 E z ez Q k;obtain⟨l,el,ez⟩:=bind_some ez;obtain⟨hlen,ez⟩:l.length<=16777216/\jai l mc me=some z:=by
  unfold xh at ez;by_cases h:l.length<=16777216
  ·rw[if_pos h] at ez; exact ⟨h,ez⟩
  ·rw[if_neg h] at ez; cases ez
 refine hi F1 H1 E l el _ fun J F2 H2 E2 hJ b D hD=>?_;have hz:sizeLine=16777216:=wa;have E02:=E.trans E2;refine⟨fun i m ys σ' H'=>m=l.length-i/\i<=l.length/\ys.length<=i/\∃ zs rest F' own,own.length=n/\σ'=own++fr/\Ext F2 H2 F' H'/\F' D=none/\H' D=some (.lst ys)/\Paired (d.rep K F') zs ys/\jai (l.drop i) mc me=some rest/\zs++rest=z,?_,?_⟩
 ·refine⟨l.length,by simp,wH _,Xh _,[],z,F2,List.replicate n none,by simp,by rw[Y3,hfr],Ext.newO E2.sub hD,E2.sub.free hD,jV,.nil,by simpa using ez,rfl⟩
 rintro i m ys σ' H' ⟨rfl,hi',hys,zs,rest,F',own,hown,rfl,X,fD,hHD,hp,hrest,hzr⟩;by_cases hlt:i<l.length
 ·have ed:l.drop i=l[i]::l.drop (i+1):=wZ hlt;rw[ed] at hrest;obtain⟨bb,hbb,hrest⟩:=bind_some hrest;refine .inr ⟨hJ.go i F' H' X hlt,fun ys' σ2 H2'=>ys'.length<=i+1/\∃ zs rest F' own,own.length=n/\σ2=own++fr/\Ext F2 H2 F' H2'/\F' D=none/\H2' D=some (.lst ys')/\Paired (d.rep K F') zs ys'/\jai (l.drop (i+1)) mc me=some rest/\zs++rest=z,
   fun ys' σ2 H2' h=>⟨l.length-(i+1),by omega,rfl,hlt,h⟩,fun x H3 y=>?_⟩
  obtain⟨F3,E3,r3⟩:=hJ.yld i F' H' x H3 X y _ (Xe hlt);have X3:=X.trans E3;refine hg b F3 H3 l[i] x own _ hown r3 X3.sub fun own' hown' hbd=>?_;refine hc b l[i] own' F3 H3 (E02.trans X3) hbd F3 H3 (Ext.refl X3.sub) bb hbb _ fun F4 H4 E4=>?_;have X4:=X3.trans E4;have keepD:∀ {Fa Ha Fb Hb:Hp},Ext Fa Ha Fb Hb->Fa D=none->Ha D=some (.lst ys)->Fb D=none/\Hb D=some (.lst ys):=fun {Fa Ha Fb Hb} Eab f1 h1=>by
   refine⟨?_,Eab.h _ _ h1⟩;cases e:Fb D with
   | none=>rfl
   | some u=>
    rcases Eab.new D u e with w | w
    ·rw[f1] at w; cases w
    ·rw[h1] at w; cases w
  obtain⟨f3,g3⟩:=keepD E3 fD hHD;obtain⟨f4,g4⟩:=keepD E4 f3 g3;cases bb with
  | true=>
   obtain⟨y',hy,hrest⟩:=bind_some hrest;obtain⟨ys2,hys2,hrest⟩:=bind_some hrest;cases hrest;refine jdp (he b l[i] own' F3 H3 (E02.trans X3) hbd F4 H4 E4 y' hy _ fun w F5 H5 E5 hw=>?_);obtain⟨f5,g5⟩:=keepD E5 f4 g4;refine⟨g5,by omega,?_⟩;have X5:=X4.trans E5;refine⟨by simp; omega,zs++[y'],ys2,F5,own',hown',rfl,X5.upd hD f5,f5,jV,Paired.app (Paired.mapP hp fun _ _=>d.mono (E3.f.trans (E4.f.trans E5.f))) (.cons hw .nil),hys2,by rw[<- hzr]; simp⟩
  | false=>
   exact jdo ⟨by omega,zs,rest,F4,own',hown',rfl,X4,f4,g4,Paired.mapP hp fun _ _=>d.mono (E3.f.trans E4.f),hrest,hzr⟩
 ·have e:i=l.length:=by omega
  subst e;rw[List.drop_length] at hrest;cases hrest;rw[wM] at hzr;subst hzr;refine .inl ⟨hJ.stop F' H' X,k _ F' H' (E2.trans X) ⟨D,ys,rfl,E2.h.free hD,fD,hHD,hp⟩⟩
theorem jlQ {own:St} (h:own.length=1):∃ v,own=[v]:=by
 match own,h with
 | [v],_=>exact ⟨v,rfl⟩
theorem jlR {own:St} (h:own.length=2):∃ u v,own=[u,v]:=by
 match own,h with
 | [u,v],_=>exact ⟨u,v,rfl⟩
def Bd1 (K:W.Frag) (c:Cd α):Hp->α->St->Prop:=fun F x own=>∃ v,own=[some v]/\c.rep K F x v
theorem jlS {fr:St}:Bds K c (qO 0) 1 fr (Bd1 K c):=by
 intro F H x v own Q h1 h2 h3 k;obtain⟨u,rfl⟩:=jlQ h1;exact k [some v] rfl ⟨v,rfl,h2⟩
def Bd2 (K:W.Frag) (c:Cd α) (d:Cd β):Hp->α×β->St->Prop:=fun F x own=>∃ u v,own=[some u,some v]/\c.rep K F x.1 u/\d.rep K F x.2 v
theorem jlT {fr:St}:Bds K (cP c d) (jfr K 2 (GQ (qO 0) (GQ (qO 1) jfq))) 2 fr (Bd2 K c d):=by
 intro F H x v own Q h1 h2 h3 k;obtain⟨a,u,w,rfl,e1,e2,e3⟩:=h2;obtain⟨u',v',rfl⟩:=jlR h1;exact⟨a,_,rfl,SqT.of (h3 _ _ e1),rfl,u,_,rfl,w,_,rfl,rfl,k [some u,some w] rfl ⟨u,w,rfl,e2,e3⟩⟩
theorem jfS {tc:Blk->TT}{te:Blk->TE}{mc:α->Option Bool}{me:α->Option β} (hi:Ec K σ F H wi c m) (fr:St) (hfr:(ix.map fun i=>(σ[i]?).join)=fr)
  (hc:∀ b x v F' H',Ext F H F' H'->c.rep K F' x v->Et K (some v::fr) F' H' (tc b) (mc x)) (he:∀ b x v F' H',Ext F H F' H'->c.rep K F' x v->Ev K (some v::fr) F' H' (te b) (rF d) (me x)) :
  Ev K σ F H (UT wi 1 ix (fun _=>qO 0) tc te) (rO d) (m.bind fun l=>xh l mc me):=
 jdN (Bd1 K c) hi hfr (fun _=>jlS) (fun b x own F' H' E ⟨v,e,r⟩=>by subst e; exact hc b x v F' H' E r) fun b x own F' H' E ⟨v,e,r⟩=>by subst e; exact he b x v F' H' E r
theorem jbn {tc:Blk->TT}{te:Blk->TE}{m:Option (List Int)} (hi:Ec K σ F H wi cI m) (fr:St) (hfr:(ix.map fun i=>(σ[i]?).join)=fr)
  (hc:∀ b x F' H',Ext F H F' H'->Et K (some (.int x)::fr) F' H' (tc b) (mc x)) (he:∀ b x F' H',Ext F H F' H'->Ev K (some (.int x)::fr) F' H' (te b) (rF d) (me x)) :
  Ev K σ F H (UT wi 1 ix (fun _=>qO 0) tc te) (rO d) (m.bind fun l=>xh l mc me):=
 jfS hi fr hfr (fun b x v F' H' E r=>by have e:v=.int x:=r; subst e; exact hc b x F' H' E) fun b x v F' H' E r=>by have e:v=.int x:=r; subst e; exact he b x F' H' E
theorem jfT {tc:Blk->TT}{te:Blk->TE}{d1:Cd β}{e:Cd γ}{m:Option (List (α×β))}{mc:α×β->Option Bool}{me:α×β->Option γ} (hi:Ec K σ F H wi (cP c d1) m) (fr:St) (hfr:(ix.map fun i=>(σ[i]?).join)=fr)
  (hc:∀ b x y u v F' H',Ext F H F' H'->c.rep K F' x u->d1.rep K F' y v->Et K (some u::some v::fr) F' H' (tc b) (mc (x,y))) (he:∀ b x y u v F' H',Ext F H F' H'->c.rep K F' x u->d1.rep K F' y v->Ev K (some u::some v::fr) F' H' (te b) (rF e) (me (x,y))) :
  Ev K σ F H (UT wi 2 ix (fun _=>jfr K 2 (GQ (qO 0) (GQ (qO 1) jfq))) tc te) (rO e) (m.bind fun l=>xh l mc me):=
 jdN (Bd2 K c d1) hi hfr (fun _=>jlT) (fun b x own F' H' E ⟨u,v,e,r,r'⟩=>by subst e; exact hc b x.1 x.2 u v F' H' E r r') fun b x own F' H' E ⟨u,v,e,r,r'⟩=>by subst e; exact he b x.1 x.2 u v F' H' E r r'
theorem U4:Et K σ F H jlx (some true):=fun F1 H1 E b e Q k=>by cases e; exact k F1 H1 (Ext.refl E.sub)
end
section
variable {F:Hp}{t:TE}{c:Cd α}{d:Cd β}{p:Pm α}{q:Pm β}{rs:Rs γ}{mb:Option Int}{i j:Int}
theorem U5 {m:Option α}{f:α->Option δ} (he:Ev K σ F H te (rF c) m) (X:Ext Fe He F H) (hm:m.bind f=some r) (k:∀ a v F' H',f a=some r->Ext F H F' H'->Ext Fe He F' H'->c.rep K F' a v->D.nx (σ.set k' (some v)) H'):UN te (qO k') D σ H:=
 jhi (p:=pF c) he X hm k
theorem xD {k:Nat}{v:V}{Q:St->Hp->Prop} (h:Q (σ.set k (some v)) H):qO k v σ H Q:=h
theorem jbo {k l:Nat}{w:V}{x:α}{y:β}{Q:St->Hp->Prop} (r:(cP c d).rep K F (x,y) w) (s:Same F H) (h:∀ u v,c.rep K F x u->d.rep K F y v->Q ((σ.set k (some u)).set l (some v)) H):jfr K 2 (GQ (qO k) (GQ (qO l) jfq)) w σ H Q:=by
 obtain⟨a,u,v,rfl,h1,h2,h3⟩:=r;exact⟨a,[u,v],rfl,SqT.of (s _ _ h1),rfl,u,[v],rfl,v,[],rfl,rfl,h u v h2 h3⟩
theorem jhm (h:-(2 ^ 64)<i/\i<2 ^ 64):Y7 i j=some (i * j):=by unfold Y7; exact if_pos (.inl h)
theorem jjE (h:-(2 ^ 64)<j/\j<2 ^ 64):Y7 i j=some (i * j):=by unfold Y7; exact if_pos (.inr h)
theorem jbp (h:0<j/\j<2 ^ 1000):jhT i j=some (i / j):=by unfold jhT; exact if_pos h
theorem jbq (h:0<j):Z3 i j=some (i % j):=by unfold Z3; exact if_pos h
theorem jfU (h:0<=j/\j<=1000000/\i.natAbs<2 ^ 64):jjw i j=some (i ^ j.toNat):=by unfold jjw; exact if_pos h
theorem jfV (h:0<=j/\j<=1000000/\i.natAbs<2 ^ 64):jhf i j=some (i * 2 ^ j.toNat):=by unfold jhf; exact if_pos h
theorem jfW (h:0<=j):jhU i j=some (i / 2 ^ j.toNat):=by unfold jhU; exact if_pos h
theorem WX {ma:Option α}{mb:Option β}{f g:α->β->Option γ}{r:TE} (h:Ev K σ F H r rs (ma.bind fun a=>mb.bind fun b=>f a b)) (e:∀ a b,ma=some a->mb=some b->g a b=f a b):Ev K σ F H r rs (ma.bind fun a=>mb.bind fun b=>g a b):=by
 refine h.cast ?_;cases ma with
 | none=>rfl
 | some a=>
  cases mb with
  | none=>rfl
  | some b=>exact e a b rfl rfl
theorem jh_ (h:-(2 ^ 64)<j/\j<2 ^ 64) (ha:Ev K σ F H ta (rF cI) ma) (hb:Ev K σ F H tb (rF cI) (some j)):Ev K σ F H (tOp (rI CMul fun i j=>.int (i * j)) ta tb) (rF cI) (ma.bind fun a=>some (a * j)):=
 WX (mb:=some j) (g:=fun a _=>some (a * j)) (jab jac ha hb) fun a b _ e=>by cases e; exact (jjE h).symm
theorem jia (h:-(2 ^ 64)<i/\i<2 ^ 64) (ha:Ev K σ F H ta (rF cI) (some i)) (hb:Ev K σ F H tb (rF cI) mb):Ev K σ F H (tOp (rI CMul fun i j=>.int (i * j)) ta tb) (rF cI) (mb.bind fun b=>some (i * b)):=
 (WX (ma:=some i) (g:=fun a b=>some (i * b)) (jab jac ha hb) fun a b e _=>by cases e; exact (jhm h).symm)
theorem jdO (h:0<j) (ha:Ev K σ F H ta (rF cI) ma) (hb:Ev K σ F H tb (rF cI) (some j)):Ev K σ F H (tOp (rI (fun _ j=>0<j) fun i j=>.int (i % j)) ta tb) (rF cI) (ma.bind fun a=>some (a % j)):=
 WX (mb:=some j) (g:=fun a _=>some (a % j)) (jab Ul ha hb) fun a b _ e=>by cases e; exact (jbq h).symm
theorem jdP (h:0<j/\j<2 ^ 250) (ha:Ev K σ F H ta (rF cI) ma) (hb:Ev K σ F H tb (rF cI) (some j)):Ev K σ F H (tOp (rI jb0 fun i j=>.int (i / j)) ta tb) (rF cI) (ma.bind fun a=>some (a / j)):=
 WX (mb:=some j) (g:=fun a _=>some (a / j)) (jab jhV ha hb) fun a b _ e=>by cases e; exact (jbp ⟨h.1,Int.lt_trans h.2 (by have:(2:Nat) ^ 250<2 ^ 1000:=Nat.pow_lt_pow_right (by decide) (by decide); exact_mod_cast this)⟩).symm
theorem jib {i:Int}{j:Nat} (h:(0:Int)<=(j:Int)/\(j:Int)<=1000000/\i.natAbs<2 ^ 64) (ha:Ev K σ F H ta (rF cI) (some i)) (hb:Ev K σ F H tb (rF cI) (some (j:Int))):Ev K σ F H (tOp (rI ji_ fun i j=>.int (i ^ j.toNat)) ta tb) (rF cI) (some (i ^ j)):=
 (jab jkX ha hb).cast (by show _=jjw i j; rw[jfU h,kb])
theorem WY:∀ {l:List Bool}{xs:List V},Paired (cB.rep K H) l xs->xs=l.map V.bl
 | _,_,.nil=>rfl
 | _,_,.cons r t=>by rw[X8,<- WY t]; exact congrArg (·::_) r
theorem jbr:∀ {l:List Int}{xs:List V},Paired (cI.rep K H) l xs->xs=l.map V.int
 | _,_,.nil=>rfl
 | _,_,.cons r t=>by rw[X8,<- jbr t]; exact congrArg (·::_) r
theorem jk2:Op1 K (fun x H Q=>∃ (p:Addr) (bs:List Bool),[x]=[V.ref p]/\SqL K H p (bs.map V.bl)/\Q (.bl (bs.any id)) H) (pR cB) (rF cB) (fun l=>some (l.any id)):=by
 intro F H l x s hx z hz Q k;obtain⟨p,xs,rfl,h1,h2⟩:=hx;cases hz;exact⟨p,l,rfl,by rw[<- WY h2]; exact h1,k _ F H (Ext.refl s) rfl⟩
theorem jfX:Op1 K (fun x H Q=>∃ (p:Addr) (bs:List Bool),[x]=[V.ref p]/\SqL K H p (bs.map V.bl)/\Q (.bl (bs.all id)) H) (pR cB) (rF cB) (fun l=>some (l.all id)):=by
 intro F H l x s hx z hz Q k;obtain⟨p,xs,rfl,h1,h2⟩:=hx;cases hz;exact⟨p,l,rfl,by rw[<- WY h2]; exact h1,k _ F H (Ext.refl s) rfl⟩
theorem jdQ (h:Ev K σ F H t (rF cI) ma):Ev K σ F H (jkH K "int" (fun x vs H Q=>∃ i,x=.int i/\vs=[]/\Q (.int (Builtin.Int.intBits i)) H) t) (rF cI) (ma.bind fun a=>some ((Builtin.Int.intBits a:Nat):Int)):=by
 intro F1 H1 E z e Q k;obtain⟨a,ea,e⟩:=bind_some e;cases e;refine h F1 H1 E a ea _ fun v F2 H2 E2 hv=>?_;have ev:v=.int a:=hv;subst ev;exact⟨rfl,a,rfl,rfl,k _ F2 H2 E2 rfl⟩
def VU (l:List α):List (Int×α):=l.zipIdx.map fun z=>((z.2:Int),z.1)
theorem jfY {i:Nat}{z:Int×α} (h:(VU l)[i]?=some z):∃ a,l[i]?=some a/\z=((i:Int),a):=by
 unfold VU at h;rw[Xy,List.getElem?_zipIdx] at h;cases e:l[i]? with
 | none=>rw[e] at h; cases h
 | some a=>rw[e] at h; simp at h; exact ⟨a,rfl,h.symm⟩
theorem Zb (l:List α):(VU l).length=l.length:=by simp[VU]
theorem jic (h:∀ F H,G F H->SqL K H a xs/\Same F1 F/\Same F H) (hp:Paired (c.rep K F1) l xs):ItOk K (Ite K a) (cP cI c) (VU l) G where
 go:=fun i F H g hi=>⟨xs,xs[i]'(by rw[Zb] at hi; rw[<- hp.length]; exact hi),(h F H g).1,Xe _⟩
 yld:=fun i F H x H' g y b hb=>by
  obtain⟨pp,x',hn,rfl,rfl,y⟩:=y;obtain⟨s1,s2,s3⟩:=h F _ g;obtain⟨a',ha,rfl⟩:=jfY hb;obtain⟨v,hv,r⟩:=Paired.at hp ha;have:=y xs s1;rw[hv] at this;cases this;exact⟨upd F pp _,Ext.newF s3 hn,pp,_,_,rfl,jV,rfl,c.mono (s2.trans (xc (s3.free hn))) r⟩
 stop:=fun F H g=>⟨xs,(h F H g).1,by rw[Zb,hp.length]; exact Xh _⟩
theorem jid (h:Ev K σ F H t (rF (cL c)) m):Ei K σ F H Fe He (jfL K (jJ t xb)) (cP cI c) (m.bind fun l=>some (VU l)):=by
 intro X l e R k;obtain⟨l',el,e⟩:=bind_some e;cases e;refine h F H (Ext.refl X.sub) l' el _ ?_;rintro v F2 H2 E ⟨a,xs,rfl,h1,h2⟩;exact⟨a,rfl,⟨xs,SqL.of (E.sub _ _ h1)⟩,k _ F2 H2 E (jic (F1:=F2) (fun F' H' g=>⟨SqL.of (g.1.sub _ _ (g.2 _ _ h1)),g.2,g.1.sub⟩) h2)⟩
theorem jdR {tc:Blk->TT}{te:Blk->TE}{e:Cd γ}{m:Option (List (Int×Int))}{mc:Int×Int->Option Bool}{me:Int×Int->Option γ} (hi:Ec K σ F H wi (cP cI cI) m) (fr:St) (hfr:(ix.map fun i=>(σ[i]?).join)=fr)
  (hc:∀ b x y F' H',Ext F H F' H'->Et K (some (.int x)::some (.int y)::fr) F' H' (tc b) (mc (x,y))) (he:∀ b x y F' H',Ext F H F' H'->Ev K (some (.int x)::some (.int y)::fr) F' H' (te b) (rF e) (me (x,y))) :
  Ev K σ F H (UT wi 2 ix (fun _=>jfr K 2 (GQ (qO 0) (GQ (qO 1) jfq))) tc te) (rO e) (m.bind fun l=>xh l mc me):=
 jfT hi fr hfr (fun b x y u v F' H' E r r'=>by have e1:u=.int x:=r; have e2:v=.int y:=r'; subst e1 e2; exact hc b x y F' H' E) fun b x y u v F' H' E r r'=>by have e1:u=.int x:=r; have e2:v=.int y:=r'; subst e1 e2; exact he b x y F' H' E
@[irreducible] def jfg (l:List α) (i:Int) (y:α):Option (List α):=(ixN l.length i).bind fun j=>some (l.set j y)
theorem Paired.setP {a:α}{b:β} (r:R a b):∀ {l:List α}{xs:List β} (i:Nat),Paired R l xs->Paired R (l.set i a) (xs.set i b)
 | _,_,_,.nil=>.nil
 | _,_,0,.cons _ t=>.cons r t
 | _,_,i+1,.cons q t=>.cons q (Paired.setP r i t)
theorem jie {m:Option α}{f:List α->Option δ} (hi:σ[k']?=some (some (.ref a))) (o:Own K He F H c l a) (he:Ev K σ F H te (rF c) m) (hj:Ev K σ F H ta (rF cI) mi) (X:Ext Fe He F H) (hm:(m.bind fun y=>mi.bind fun j=>jfg l j y).bind f=some r)
  (k:∀ l' F' H',f l'=some r->Chg a F H F' H'->Ext Fe He F' H'->Own K He F' H' c l' a->D.nx σ H'):UN te (jkF (Wb k') ta jfF) D σ H:=by
 obtain⟨l',el,hm⟩:=bind_some hm;obtain⟨y,ey,el⟩:=bind_some el;obtain⟨j,ej,el⟩:=bind_some el;unfold jfg at el;obtain⟨n,en,el⟩:=bind_some el;cases el;obtain⟨xs,h1,h2⟩:=o.h;refine he F H (Ext.refl X.sub) y ey _ fun v F2 H2 E hv=>⟨_,hi,?_⟩;refine hj F2 H2 E j ej _ fun w F3 H3 E3 hw=>?_;have ew:w=.int j:=hw;subst ew;have E13:=E.trans E3;have o2:=o.mono E13;have h3:Paired (c.rep K F3) l xs:=Paired.mapP h2 fun _ _=>c.mono E13.f;refine⟨a,xs,j,n,rfl,rfl,E13.h _ _ h1,by rw[<- h2.length]; exact en,?_⟩;obtain⟨X',o'⟩:=jaf (K:=K) (c:=c) (X.trans E13) o.e o2.f (Paired.setP (c.mono E3.f hv) n h3);exact k _ F3 _ hm (WW E13) X' o'
theorem yg {y:α}{f:List α->Option δ} (hi:σ[k']?=some (some (.ref a))) (o:Own K He F H c l a) (he:Ev K σ F H te (rF c) (some y)) (X:Ext Fe He F H) (hm:(Wg l y).bind f=some r)
  (k:∀ l' F' H',f l'=some r->Chg a F H F' H'->Ext Fe He F' H'->Own K He F' H' c l' a->D.nx σ H'):VR (tBM K "list" WL (Wb k') (jJ te xb)) D σ H:=yV (m:=some y) hi o he X hm k
theorem jdS {y:α}{n:Int}{f:List α->Option δ} (hi:σ[k']?=some (some (.ref a))) (o:Own K He F H c l a) (he:Ev K σ F H te (rF c) (some y)) (hj:Ev K σ F H ta (rF cI) (some n)) (X:Ext Fe He F H) (hm:(jfg l n y).bind f=some r)
  (k:∀ l' F' H',f l'=some r->Chg a F H F' H'->Ext Fe He F' H'->Own K He F' H' c l' a->D.nx σ H'):UN te (jkF (Wb k') ta jfF) D σ H:=jie (m:=some y) (mi:=some n) hi o he hj X hm k
end
section
variable {F:Hp}{t:TE}{c:Cd α}{d:Cd β}{p:Pm α}{q:Pm β}{rs:Rs γ} 
theorem kZ {m:Option Int}{f:Int->Option δ} (he:Ev K σ F H te (rF cI) m) (X:Ext Fe He F H) (hm:m.bind f=some r) (k:∀ a F' H',f a=some r->Ext F H F' H'->Ext Fe He F' H'->u' D (σ.set i (some (.int a))) H'):Q_ (UN te (qO i)) u' D σ H:=
 xR (D:={ D with nx:=u' D }) he X hm k
theorem yq {f:List α->Option δ} (he:Ev K σ F H te (rO c) m) (X:Ext Fe He F H) (hm:m.bind f=some r) (k:∀ l a F' H',f l=some r->Ext F H F' H'->Ext Fe He F' H'->H a=none->Own K He F' H' c l a->u' D (σ.set i (some (.ref a))) H'):Q_ (UN te (qO i)) u' D σ H:=
 jh2 (D:={ D with nx:=u' D }) he X hm k
theorem jjF {m:Option (α×β)}{f:α×β->Option δ} (he:Ev K σ F H te (rF (cP c d)) m) (X:Ext Fe He F H) (hm:m.bind f=some r)
  (k:∀ x y u v F' H',f (x,y)=some r->Ext F H F' H'->Ext Fe He F' H'->c.rep K F' x u->d.rep K F' y v->u' D ((σ.set i (some u)).set j (some v)) H'):Q_ (UN te (jfr K 2 (GQ (qO i) (GQ (qO j) jfq)))) u' D σ H:=
 jh3 (D:={ D with nx:=u' D }) he X hm k
theorem yF {m:Option α}{f:α->Option δ} (he:Ev K σ F H te (rF c) m) (X:Ext Fe He F H) (hm:m.bind f=some r) (k:∀ a v F' H',f a=some r->Ext F H F' H'->Ext Fe He F' H'->c.rep K F' a v->u' D (σ.set k' (some v)) H'):Q_ (UN te (qO k')) u' D σ H:=
 U5 (D:={ D with nx:=u' D }) he X hm k
theorem jif {u:TT}{t t':TS}{m:Option Bool}{A:Option δ} (hc:Et K σ F H u m) (X:Ext Fe He F H) (hm:(m.bind fun b=>bif b then A else B)=some r) (h1:∀ F' H',A=some r->Ext F H F' H'->Ext Fe He F' H'->t { D with nx:=u' D } σ H')
  (h2:∀ F' H',B=some r->Ext F H F' H'->Ext Fe He F' H'->t' { D with nx:=u' D } σ H'):Q_ (jff u t t') u' D σ H:=
 jad (D:={ D with nx:=u' D }) hc X hm h1 h2
theorem jb4 {u:TT}{t t':TS}{b:Bool}{A:Option δ} (hc:Et K σ F H u (some b)) (X:Ext Fe He F H) (hm:(bif b then A else B)=some r) (h1:∀ F' H',b=true->A=some r->Ext F H F' H'->Ext Fe He F' H'->t { D with nx:=u' D } σ H')
  (h2:∀ F' H',b=false->B=some r->Ext F H F' H'->Ext Fe He F' H'->t' { D with nx:=u' D } σ H'):Q_ (jff u t t') u' D σ H:=
 Za (D:={ D with nx:=u' D }) hc X hm h1 h2
theorem jjG {u:TT}{t t':TS}{m:Option Bool}{A B:Option β}{f:β->Option δ} (I:β->St->Hp->Prop) (hc:Et K σ F H u m) (X:Ext Fe He F H) (hm:(m.bind fun b=>bif b then A else B).bind f=some r)
  (h1:∀ b F' H',A=some b->Ext F H F' H'->Ext Fe He F' H'->t { D with nx:=I b } σ H') (h2:∀ b F' H',B=some b->Ext F H F' H'->Ext Fe He F' H'->t' { D with nx:=I b } σ H') (hk:∀ b σ' H',f b=some r->I b σ' H'->u' D σ' H'):Q_ (jju (jff u t t')) u' D σ H:=
 U2 (D:={ D with nx:=u' D }) I hc X hm h1 h2 hk
theorem jbs {u:TT}{t t':TS}{x:Bool}{A B:Option β}{f:β->Option δ} (I:β->St->Hp->Prop) (hc:Et K σ F H u (some x)) (X:Ext Fe He F H) (hm:(bif x then A else B).bind f=some r)
  (h1:∀ b F' H',A=some b->Ext F H F' H'->Ext Fe He F' H'->t { D with nx:=I b } σ H') (h2:∀ b F' H',B=some b->Ext F H F' H'->Ext Fe He F' H'->t' { D with nx:=I b } σ H') (hk:∀ b σ' H',f b=some r->I b σ' H'->u' D σ' H'):Q_ (jju (jff u t t')) u' D σ H:=
 jae (D:={ D with nx:=u' D }) I hc X hm h1 h2 hk
theorem zI {m:Option γ}{f:γ->Option δ} (he:Ev K σ F H te rs m) (X:Ext Fe He F H) (hm:m.bind f=some r) (k:∀ a F' H',f a=some r->Ext F H F' H'->Ext Fe He F' H'->u' D σ H'):Q_ (VR te) u' D σ H:=
 jh5 (D:={ D with nx:=u' D }) he X hm k
theorem jfZ {m:Option α}{f:List α->Option δ} (hi:σ[i]?=some (some (.ref a))) (o:Own K He F H c l a) (he:Ev K σ F H te (rF c) m) (X:Ext Fe He F H) (hm:(m.bind fun y=>Wg l y).bind f=some r)
  (k:∀ l' F' H',f l'=some r->Chg a F H F' H'->Ext Fe He F' H'->Own K He F' H' c l' a->u' D σ H'):Q_ (VR (tBM K "list" WL (Wb i) (jJ te xb))) u' D σ H:=
 yV (D:={ D with nx:=u' D }) hi o he X hm k
theorem jbt {y:α}{n:Int}{f:List α->Option δ} (hi:σ[k']?=some (some (.ref a))) (o:Own K He F H c l a) (he:Ev K σ F H te (rF c) (some y)) (hj:Ev K σ F H ta (rF cI) (some n)) (X:Ext Fe He F H) (hm:(jfg l n y).bind f=some r)
  (k:∀ l' F' H',f l'=some r->Chg a F H F' H'->Ext Fe He F' H'->Own K He F' H' c l' a->u' D σ H'):Q_ (UN te (jkF (Wb k') ta jfF)) u' D σ H:=
 jdS (D:={ D with nx:=u' D }) hi o he hj X hm k
theorem JU {g:TG}{tb:TS} (hi:Ei K σ F H Fe He wi c m) (X:Ext Fe He F H) (hm:(m.bind fun l=>forM l b0 f).bind kk=some r) (I:Hp->β->St->Hp->Hp->Prop)
  (h0:∀ F1 H1,Ext F H F1 H1->Ext Fe He F1 H1->I F1 b0 σ F1 H1) (hG:∀ F1 b σ F H,I F1 b σ F H->Ext Fe He F H/\Same F1 F)
  (hs:∀ F1 (S0:Same F F1) b b' x v σ F H F' H',I F1 b σ F H->Ext F H F' H'->c.rep K F' x v->f b x=some b'->g v σ H' fun σ2 H2=>tb { D with nx:=fun σ H=>∃ F,I F1 b' σ F H,ct:=fun σ H=>∃ F,I F1 b' σ F H,bk:=u' D } σ2 H2)
  (hd:∀ F1 (S0:Same F F1) b σ F H,kk b=some r->I F1 b σ F H->u' D σ H):Q_ (jg3 wi g tb) u' D σ H:=
 jbm (D:={ D with nx:=u' D }) hi X hm I h0 hG hs hd
theorem jjH {g:TG}{tb:TS}{f:β->α->Option (Fl β γ)}{A:γ->Option δ} (P:γ->Prop) (hi:Ei K σ F H Fe He wi c m) (X:Ext Fe He F H) (hm:(m.bind fun l=>Z4 l b0 f).bind (fun x=>x.el A kk)=some r) (hP:∀ c,A c=some r->P c) (I:Hp->β->St->Hp->Hp->Prop)
  (h0:∀ F1 H1,Ext F H F1 H1->Ext Fe He F1 H1->I F1 b0 σ F1 H1) (hG:∀ F1 b σ F H,I F1 b σ F H->Ext Fe He F H/\Same F1 F)
  (hs:∀ F1 (S0:Same F F1) b s x v σ F H F' H',I F1 b σ F H->Ext F H F' H'->c.rep K F' x v->f b x=some s->(∀ c,s=.rt c->P c)->g v σ H' fun σ2 H2=>tb { D with nx:=fun σ H=>∃ b' F,s=.nx b'/\I F1 b' σ F H,ct:=fun σ H=>∃ b' F,s=.nx b'/\I F1 b' σ F H,bk:=u' D } σ2 H2)
  (hd:∀ F1 (S0:Same F F1) b σ F H,kk b=some r->I F1 b σ F H->u' D σ H):Q_ (jg3 wi g tb) u' D σ H:=
 jh9 (D:={ D with nx:=u' D }) P hi X hm hP I h0 hG hs hd
theorem GP {N:St->Hp->Prop}{r:VK}{b e:St->Hp->Prop} (h:N σ H):jji ⟨N,r,b,e⟩ σ H:=h
theorem qe {P:Program}{f:Addr}{E:XK}:(Z2 CX P w K mg base N qual scope f cdv A outer s H E).nox.K=K:=rfl
end
section
variable {F:Hp}{t:TE}{c:Cd α}{d:Cd β}{p:Pm α}{q:Pm β}{rs:Rs γ}{i j:Int}{a:α}{b:β}
theorem jig {r:R2}{op:α->β->Option γ} (ho:Op2 K r p q rs op) (ha:Ev K σ F H ta p.rs (some a)) (hb:Ev K σ F H tb q.rs (some b)):Ev K σ F H (tOp r ta tb) rs (op a b):=jab ho ha hb
theorem jih {r:V->Hp->VK->Prop} (ho:Op1 K r p rs op) (ha:Ev K σ F H ta p.rs (some a)):Ev K σ F H (tUn r ta) rs (op a):=jjv ho ha
theorem jf0 {r:List V->Hp->VK->Prop} (ho:Op1 K (fun x=>r [x]) p rs op) (ha:Ev K σ F H ta p.rs (some a)):Ev K σ F H (tCB r (jJ ta xb)) rs (op a):=jhe ho ha
theorem jf1 {u:TT}{a:Bool} (h:Et K σ F H u (some a)):Et K σ F H (jjg u) (some (!a)):=jhh h
theorem jii {u v:TT}{a b:Bool} (h:Et K σ F H u (some a)) (h':Et K σ F H v (some b)):Et K σ F H (tOr u v) (some (a||b)):=jjA h h'
theorem jf2 {u v:TT}{a:Bool}{m:Option Bool} (h:Et K σ F H u (some a)) (h':Et K σ F H v m):Et K σ F H (jkD u v) (bif a then m else some false):=jjz h h'
theorem jij {u v:TT}{a:Bool}{m:Option Bool} (h:Et K σ F H u (some a)) (h':Et K σ F H v m):Et K σ F H (tOr u v) (bif a then some true else m):=jh0 h h'
theorem jdT (ha:Ev K σ F H ta (rF c) (some a)) (hr:El K σ F H tr c n (some l)):El K σ F H (jJ ta tr) c (n+1) (some (a::l)):=jdI ha hr
theorem jdU (ha:Ev K σ F H ta (rF c) (some a)) (hb:Ev K σ F H tb (rF d) (some b)):Ev K σ F H (jg8 (jJ ta (jJ tb xb))) (rF (cP c d)) (some (a,b)):=jdJ ha hb
theorem jdV (h:Ev K σ F H t (rF cI) (some i)):Eo K σ F H (jfC t) (some (some i)):=jhZ h
theorem jf3 {x:Option Int} (h:Ev K σ F H t (pR c).rs (some l)) (hl:Eo K σ F H tl (some x)) (hh:Eo K σ F H th (some y)):Ev K σ F H (tSl (jjo K) t tl th) (rO c) (some (cut l x y)):=jhg h hl hh
theorem jf4 {f:Str}{g:α->β} (hf:VT K c f d g) (h:Ev K σ F H t (rF c) (some a)):Ev K σ F H (jjk K t f) (rF d) (some (g a)):=jjD hf h
theorem jdW (h:-(2 ^ 64)<j/\j<2 ^ 64) (ha:Ev K σ F H ta (rF cI) (some i)) (hb:Ev K σ F H tb (rF cI) (some j)):Ev K σ F H (tOp (rI CMul fun i j=>.int (i * j)) ta tb) (rF cI) (some (i * j)):=jh_ h ha hb
theorem jdX (h:-(2 ^ 64)<i/\i<2 ^ 64) (ha:Ev K σ F H ta (rF cI) (some i)) (hb:Ev K σ F H tb (rF cI) (some j)):Ev K σ F H (tOp (rI CMul fun i j=>.int (i * j)) ta tb) (rF cI) (some (i * j)):=jia h ha hb
theorem jdY (h:0<j) (ha:Ev K σ F H ta (rF cI) (some i)) (hb:Ev K σ F H tb (rF cI) (some j)):Ev K σ F H (tOp (rI (fun _ j=>0<j) fun i j=>.int (i % j)) ta tb) (rF cI) (some (i % j)):=jdO h ha hb
theorem jdZ (h:0<j/\j<2 ^ 250) (ha:Ev K σ F H ta (rF cI) (some i)) (hb:Ev K σ F H tb (rF cI) (some j)):Ev K σ F H (tOp (rI jb0 fun i j=>.int (i / j)) ta tb) (rF cI) (some (i / j)):=jdP h ha hb
theorem jaj (h:Ev K σ F H t (rF cI) (some i)):Ev K σ F H (jkH K "int" (fun x vs H Q=>∃ i,x=.int i/\vs=[]/\Q (.int (Builtin.Int.intBits i)) H) t) (rF cI) (some ((Builtin.Int.intBits i:Nat):Int)):=jdQ h
theorem jd0 (h:Ev K σ F H t (rF cI) (some j)):Ei K σ F H Fe He (WE (jJ t xb)) cI (yE 0 j):=jdK h
theorem jd1 (h:Ev K σ F H t (rF cI) (some i)) (h':Ev K σ F H ta (rF cI) (some j)):Ei K σ F H Fe He (Z7 (jJ t (jJ ta xb))) cI (yE i j):=jh7 h h'
theorem jd2 (h:Ev K σ F H t (rF cI) (some j)):Ec K σ F H (WE (jJ t xb)) cI (yE 0 j):=jdL h
theorem jd3 (h:Ev K σ F H t (rF cI) (some i)) (h':Ev K σ F H ta (rF cI) (some j)):Ec K σ F H (Z7 (jJ t (jJ ta xb))) cI (yE i j):=jh8 h h'
theorem jd4 (h:Ev K σ F H t (rF (cL c)) (some l)):Ei K σ F H Fe He (jfL K (jJ t xb)) (cP cI c) (some (VU l)):=jid h
theorem jb5 {tc:Blk->TT}{te:Blk->TE}{l:List Int} (hi:Ec K σ F H wi cI (some l)) (fr:St) (hfr:(ix.map fun i=>(σ[i]?).join)=fr)
  (hc:∀ b x F' H',Ext F H F' H'->Et K (some (.int x)::fr) F' H' (tc b) (mc x)) (he:∀ b x F' H',Ext F H F' H'->Ev K (some (.int x)::fr) F' H' (te b) (rF d) (me x)) :
  Ev K σ F H (UT wi 1 ix (fun _=>qO 0) tc te) (rO d) (xh l mc me):=jbn hi fr hfr hc he
theorem jak {tc:Blk->TT}{te:Blk->TE}{e:Cd γ}{l:List (Int×Int)}{mc:Int×Int->Option Bool}{me:Int×Int->Option γ} (hi:Ec K σ F H wi (cP cI cI) (some l)) (fr:St) (hfr:(ix.map fun i=>(σ[i]?).join)=fr)
  (hc:∀ b x y F' H',Ext F H F' H'->Et K (some (.int x)::some (.int y)::fr) F' H' (tc b) (mc (x,y))) (he:∀ b x y F' H',Ext F H F' H'->Ev K (some (.int x)::some (.int y)::fr) F' H' (te b) (rF e) (me (x,y))) :
  Ev K σ F H (UT wi 2 ix (fun _=>jfr K 2 (GQ (qO 0) (GQ (qO 1) jfq))) tc te) (rO e) (xh l mc me):=jdR hi fr hfr hc he
theorem jf5 {g:TG}{tb:TS} (hi:Ei K σ F H Fe He wi c (some l)) (X:Ext Fe He F H) (hm:(forM l b0 f).bind kk=some r) (I:Hp->β->St->Hp->Hp->Prop)
  (h0:∀ F1 H1,Ext F H F1 H1->Ext Fe He F1 H1->I F1 b0 σ F1 H1) (hG:∀ F1 b σ F H,I F1 b σ F H->Ext Fe He F H/\Same F1 F)
  (hs:∀ F1 (S0:Same F F1) b b' x v σ F H F' H',I F1 b σ F H->Ext F H F' H'->c.rep K F' x v->f b x=some b'->g v σ H' fun σ2 H2=>tb { D with nx:=fun σ H=>∃ F,I F1 b' σ F H,ct:=fun σ H=>∃ F,I F1 b' σ F H,bk:=D.nx } σ2 H2)
  (hd:∀ F1 (S0:Same F F1) b σ F H,kk b=some r->I F1 b σ F H->D.nx σ H):jg3 wi g tb D σ H:=jbm (m:=some l) hi X hm I h0 hG hs hd
theorem U6 {g:TG}{tb:TS} (hi:Ei K σ F H Fe He wi c (some l)) (X:Ext Fe He F H) (hm:(forM l b0 f).bind kk=some r) (I:Hp->β->St->Hp->Hp->Prop)
  (h0:∀ F1 H1,Ext F H F1 H1->Ext Fe He F1 H1->I F1 b0 σ F1 H1) (hG:∀ F1 b σ F H,I F1 b σ F H->Ext Fe He F H/\Same F1 F)
  (hs:∀ F1 (S0:Same F F1) b b' x v σ F H F' H',I F1 b σ F H->Ext F H F' H'->c.rep K F' x v->f b x=some b'->g v σ H' fun σ2 H2=>tb { D with nx:=fun σ H=>∃ F,I F1 b' σ F H,ct:=fun σ H=>∃ F,I F1 b' σ F H,bk:=u' D } σ2 H2)
  (hd:∀ F1 (S0:Same F F1) b σ F H,kk b=some r->I F1 b σ F H->u' D σ H):Q_ (jg3 wi g tb) u' D σ H:=JU (m:=some l) hi X hm I h0 hG hs hd
theorem UC {g:TG}{tb:TS}{f:β->α->Option (Fl β γ)}{A:γ->Option δ} (P:γ->Prop) (hi:Ei K σ F H Fe He wi c (some l)) (X:Ext Fe He F H) (hm:(Z4 l b0 f).bind (fun x=>x.el A kk)=some r) (hP:∀ c,A c=some r->P c) (I:Hp->β->St->Hp->Hp->Prop)
  (h0:∀ F1 H1,Ext F H F1 H1->Ext Fe He F1 H1->I F1 b0 σ F1 H1) (hG:∀ F1 b σ F H,I F1 b σ F H->Ext Fe He F H/\Same F1 F)
  (hs:∀ F1 (S0:Same F F1) b s x v σ F H F' H',I F1 b σ F H->Ext F H F' H'->c.rep K F' x v->f b x=some s->(∀ c,s=.rt c->P c)->g v σ H' fun σ2 H2=>tb { D with nx:=fun σ H=>∃ b' F,s=.nx b'/\I F1 b' σ F H,ct:=fun σ H=>∃ b' F,s=.nx b'/\I F1 b' σ F H,bk:=u' D } σ2 H2)
  (hd:∀ F1 (S0:Same F F1) b σ F H,kk b=some r->I F1 b σ F H->u' D σ H):Q_ (jg3 wi g tb) u' D σ H:=jjH (m:=some l) P hi X hm hP I h0 hG hs hd
theorem jb6 {p1:Pm α1}{m:α1->Option γ} (h1:Ev K σ F H t1 p1.rs (some x1)):Ev K σ F H (JR (sp1 K p1 rs m) [] E0 (jJ t1 xb)) rs (m x1):=jbi h1
theorem jb7 {c1:Cd α1}{m:α1->Option γ} (ob:WV c1 C nm) (h1:Ev K σ F H t1 (rF c1) (some x1)):Ev K σ F H (VS C nm (sp1 K (pF c1) rs m) [] E0 t1 xb) rs (m x1):=jfP ob h1
theorem jb8 {p1:Pm α1}{p2:Pm α2}{m:α1->α2->Option γ} (h1:Ev K σ F H t1 p1.rs (some x1)) (h2:Ev K σ F H t2 p2.rs (some x2)):Ev K σ F H (JR (sp2 K p1 p2 rs m) [] E0 (jJ t1 (jJ t2 xb))) rs (m x1 x2):=jbj h1 h2
theorem jb9 {c1:Cd α1}{p2:Pm α2}{m:α1->α2->Option γ} (ob:WV c1 C nm) (h1:Ev K σ F H t1 (rF c1) (some x1)) (h2:Ev K σ F H t2 p2.rs (some x2)):Ev K σ F H (VS C nm (sp2 K (pF c1) p2 rs m) [] E0 t1 (jJ t2 xb)) rs (m x1 x2):=jfQ ob h1 h2
theorem jb_ {p1:Pm α1}{p2:Pm α2}{p3:Pm α3}{m:α1->α2->α3->Option γ}{x3:α3} (h1:Ev K σ F H t1 p1.rs (some x1)) (h2:Ev K σ F H t2 p2.rs (some x2)) (h3:Ev K σ F H t3 p3.rs (some x3)):Ev K σ F H (JR (sp3 K p1 p2 p3 rs m) [] E0 (jJ t1 (jJ t2 (jJ t3 xb)))) rs (m x1 x2 x3):=jbk h1 h2 h3
end
section
variable {F:Hp}{t:TE}{c:Cd α}{d:Cd β}{p:Pm α}{q:Pm β}{rs:Rs γ} 
variable {ma:Option α}{a:α}{b:β}
theorem j1 {r:R2}{op:α->β->Option γ}  {mm_:_} (ho:Op2 K r p q rs op) (ha:Ev K σ F H ta p.rs ma) (hb:Ev K σ F H tb q.rs mb) (e':mm_=(ma.bind fun a=>mb.bind fun b=>op a b)):Ev K σ F H (tOp r ta tb) rs mm_:=by
 subst e';exact jab ho ha hb
theorem jk {r:R2}{op:α->β->Option γ}  {mm_:_} (ho:Op2 K r p q rs op) (ha:Ev K σ F H ta p.rs (some a)) (hb:Ev K σ F H tb q.rs (some b)) (e':mm_=(op a b)):Ev K σ F H (tOp r ta tb) rs mm_:=by
 subst e';exact jig ho ha hb
theorem GY {r:V->Hp->VK->Prop}  {mm_:_} (ho:Op1 K r p rs op) (ha:Ev K σ F H ta p.rs (some a)) (e':mm_=(op a)):Ev K σ F H (tUn r ta) rs mm_:=by
 subst e';exact jih ho ha
theorem yJ {r:List V->Hp->VK->Prop}  {mm_:_} (ho:Op1 K (fun x=>r [x]) p rs op) (ha:Ev K σ F H ta p.rs ma) (e':mm_=(ma.bind op)):Ev K σ F H (tCB r (jJ ta xb)) rs mm_:=by
 subst e';exact jhe ho ha
theorem jN {r:List V->Hp->VK->Prop}  {mm_:_} (ho:Op1 K (fun x=>r [x]) p rs op) (ha:Ev K σ F H ta p.rs (some a)) (e':mm_=(op a)):Ev K σ F H (tCB r (jJ ta xb)) rs mm_:=by
 subst e';exact jf0 ho ha
theorem jbu {m:Option Bool}  {mm_:_} (h:Ev K σ F H t (rF cB) m) (e':mm_=(m.bind fun b=>some (!b))):Ev K σ F H (jhI t) (rF cB) mm_:=by
 subst e';exact jjB h
theorem yK {u:TT}{m:Option Bool}  {mm_:_} (h:Et K σ F H u m) (e':mm_=(m.bind fun b=>some (!b))):Et K σ F H (jjg u) mm_:=by
 subst e';exact jhh h
theorem QQ {u:TT}{a:Bool}  {mm_:_} (h:Et K σ F H u (some a)) (e':mm_=(some (!a))):Et K σ F H (jjg u) mm_:=by
 subst e';exact jf1 h
theorem jbv {m:Option Bool}  {mm_:_} (h:Ev K σ F H ta (rF cB) m) (h':Ev K σ F H tb (rF cB) n') (e':mm_=(m.bind fun b=>bif b then n' else some false)):Ev K σ F H (jhH ta tb) (rF cB) mm_:=by
 subst e';exact jjC h h'
theorem jal {u v:TT}{m:Option Bool}  {mm_:_} (h:Et K σ F H u m) (h':Et K σ F H v n') (e':mm_=(m.bind fun b=>bif b then some true else n')):Et K σ F H (tOr u v) mm_:=by
 subst e';exact jh0 h h'
theorem jd5 {u v:TT}{a b:Bool}  {mm_:_} (h:Et K σ F H u (some a)) (h':Et K σ F H v (some b)) (e':mm_=(some (a||b))):Et K σ F H (tOr u v) mm_:=by
 subst e';exact jii h h'
theorem xf  {mm_:_} (ha:Ev K σ F H ta (rF c) ma) (hr:El K σ F H tr c n mr) (e':mm_=(ma.bind fun a=>mr.bind fun l=>some (a::l))):El K σ F H (jJ ta tr) c (n+1) mm_:=by
 subst e';exact jdI ha hr
theorem ku  {mm_:_} (ha:Ev K σ F H ta (rF c) (some a)) (hr:El K σ F H tr c n (some l)) (e':mm_=(some (a::l))):El K σ F H (jJ ta tr) c (n+1) mm_:=by
 subst e';exact jdT ha hr
theorem U7  {mm_:_} (ha:Ev K σ F H ta (rF c) ma) (hb:Ev K σ F H tb (rF d) mb) (e':mm_=(ma.bind fun a=>mb.bind fun b=>some (a,b))):Ev K σ F H (jg8 (jJ ta (jJ tb xb))) (rF (cP c d)) mm_:=by
 subst e';exact jdJ ha hb
theorem qz  {mm_:_} (ha:Ev K σ F H ta (rF c) (some a)) (hb:Ev K σ F H tb (rF d) (some b)) (e':mm_=(some (a,b))):Ev K σ F H (jg8 (jJ ta (jJ tb xb))) (rF (cP c d)) mm_:=by
 subst e';exact jdU ha hb
theorem kx {i:Int}  {mm_:_} (h:Ev K σ F H t (rF cI) (some i)) (e':mm_=(some (some i))):Eo K σ F H (jfC t) mm_:=by
 subst e';exact jdV h
theorem jf6  {mm_:_} (h:Ev K σ F H t (pR c).rs m) (hl:Eo K σ F H tl ml) (hh:Eo K σ F H th mh) (e':mm_=(m.bind fun l=>ml.bind fun i=>mh.bind fun j=>some (cut l i j))):Ev K σ F H (tSl (jjo K) t tl th) (rO c) mm_:=by
 subst e';exact jhg h hl hh
theorem Wi {x:Option Int}  {mm_:_} (h:Ev K σ F H t (pR c).rs (some l)) (hl:Eo K σ F H tl (some x)) (hh:Eo K σ F H th (some y)) (e':mm_=(some (cut l x y))):Ev K σ F H (tSl (jjo K) t tl th) (rO c) mm_:=by
 subst e';exact jf3 h hl hh
theorem jX {f:Str}{g:α->β}  {mm_:_} (hf:VT K c f d g) (h:Ev K σ F H t (rF c) (some a)) (e':mm_=(some (g a))):Ev K σ F H (jjk K t f) (rF d) mm_:=by
 subst e';exact jf4 hf h
theorem zX {i j:Int}  {mm_:_} (h:-(2 ^ 64)<j/\j<2 ^ 64) (ha:Ev K σ F H ta (rF cI) (some i)) (hb:Ev K σ F H tb (rF cI) (some j)) (e':mm_=(some (i * j))):Ev K σ F H (tOp (rI CMul fun i j=>.int (i * j)) ta tb) (rF cI) mm_:=by
 subst e';exact jdW h ha hb
theorem U8 {i j:Int}  {mm_:_} (h:-(2 ^ 64)<i/\i<2 ^ 64) (ha:Ev K σ F H ta (rF cI) (some i)) (hb:Ev K σ F H tb (rF cI) (some j)) (e':mm_=(some (i * j))):Ev K σ F H (tOp (rI CMul fun i j=>.int (i * j)) ta tb) (rF cI) mm_:=by
 subst e';exact jdX h ha hb
theorem U9 {ma:Option Int}{j:Int}  {mm_:_} (h:0<j) (ha:Ev K σ F H ta (rF cI) ma) (hb:Ev K σ F H tb (rF cI) (some j)) (e':mm_=(ma.bind fun a=>some (a % j))):Ev K σ F H (tOp (rI (fun _ j=>0<j) fun i j=>.int (i % j)) ta tb) (rF cI) mm_:=by
 subst e';exact jdO h ha hb
theorem xo {i j:Int}  {mm_:_} (h:0<j) (ha:Ev K σ F H ta (rF cI) (some i)) (hb:Ev K σ F H tb (rF cI) (some j)) (e':mm_=(some (i % j))):Ev K σ F H (tOp (rI (fun _ j=>0<j) fun i j=>.int (i % j)) ta tb) (rF cI) mm_:=by
 subst e';exact jdY h ha hb
theorem Zc {ma:Option Int}{j:Int}  {mm_:_} (h:0<j/\j<2 ^ 250) (ha:Ev K σ F H ta (rF cI) ma) (hb:Ev K σ F H tb (rF cI) (some j)) (e':mm_=(ma.bind fun a=>some (a / j))):Ev K σ F H (tOp (rI jb0 fun i j=>.int (i / j)) ta tb) (rF cI) mm_:=by
 subst e';exact jdP h ha hb
theorem qX {i j:Int}  {mm_:_} (h:0<j/\j<2 ^ 250) (ha:Ev K σ F H ta (rF cI) (some i)) (hb:Ev K σ F H tb (rF cI) (some j)) (e':mm_=(some (i / j))):Ev K σ F H (tOp (rI jb0 fun i j=>.int (i / j)) ta tb) (rF cI) mm_:=by
 subst e';exact jdZ h ha hb
theorem WZ {i:Int}  {mm_:_} (h:Ev K σ F H t (rF cI) (some i)) (e':mm_=(some ((Builtin.Int.intBits i:Nat):Int))):Ev K σ F H (jkH K "int" (fun x vs H Q=>∃ i,x=.int i/\vs=[]/\Q (.int (Builtin.Int.intBits i)) H) t) (rF cI) mm_:=by
 subst e';exact jaj h
theorem Zd {m:Option Int}  {mm_:_} (h:Ev K σ F H t (rF cI) m) (e':mm_=(m.bind fun j=>yE 0 j)):Ei K σ F H Fe He (WE (jJ t xb)) cI mm_:=by
 subst e';exact jdK h
theorem qf {j:Int}  {mm_:_} (h:Ev K σ F H t (rF cI) (some j)) (e':mm_=(yE 0 j)):Ei K σ F H Fe He (WE (jJ t xb)) cI mm_:=by
 subst e';exact jd0 h
theorem jam {i j:Int}  {mm_:_} (h:Ev K σ F H t (rF cI) (some i)) (h':Ev K σ F H ta (rF cI) (some j)) (e':mm_=(yE i j)):Ei K σ F H Fe He (Z7 (jJ t (jJ ta xb))) cI mm_:=by
 subst e';exact jd1 h h'
theorem jd6 {m:Option Int}  {mm_:_} (h:Ev K σ F H t (rF cI) m) (e':mm_=(m.bind fun j=>yE 0 j)):Ec K σ F H (WE (jJ t xb)) cI mm_:=by
 subst e';exact jdL h
theorem yW {j:Int}  {mm_:_} (h:Ev K σ F H t (rF cI) (some j)) (e':mm_=(yE 0 j)):Ec K σ F H (WE (jJ t xb)) cI mm_:=by
 subst e';exact jd2 h
theorem jan {i j:Int}  {mm_:_} (h:Ev K σ F H t (rF cI) (some i)) (h':Ev K σ F H ta (rF cI) (some j)) (e':mm_=(yE i j)):Ec K σ F H (Z7 (jJ t (jJ ta xb))) cI mm_:=by
 subst e';exact jd3 h h'
theorem jao  {mm_:_} (h:Ev K σ F H t (rF (cL c)) (some l)) (e':mm_=(some (VU l))):Ei K σ F H Fe He (jfL K (jJ t xb)) (cP cI c) mm_:=by
 subst e';exact jd4 h
theorem xy {tc:Blk->TT}{te:Blk->TE}{m:Option (List Int)}  {mm_:_} (hi:Ec K σ F H wi cI m) (fr:St) (hfr:(ix.map fun i=>(σ[i]?).join)=fr)
  (hc:∀ b x F' H',Ext F H F' H'->Et K (some (.int x)::fr) F' H' (tc b) (mc x)) (he:∀ b x F' H',Ext F H F' H'->Ev K (some (.int x)::fr) F' H' (te b) (rF d) (me x)) (e':mm_=(m.bind fun l=>xh l mc me)):Ev K σ F H (UT wi 1 ix (fun _=>qO 0) tc te) (rO d) mm_:=by
 subst e';exact jbn hi fr hfr hc he
theorem Ze {tc:Blk->TT}{te:Blk->TE}{l:List Int}  {mm_:_} (hi:Ec K σ F H wi cI (some l)) (fr:St) (hfr:(ix.map fun i=>(σ[i]?).join)=fr)
  (hc:∀ b x F' H',Ext F H F' H'->Et K (some (.int x)::fr) F' H' (tc b) (mc x)) (he:∀ b x F' H',Ext F H F' H'->Ev K (some (.int x)::fr) F' H' (te b) (rF d) (me x)) (e':mm_=(xh l mc me)):Ev K σ F H (UT wi 1 ix (fun _=>qO 0) tc te) (rO d) mm_:=by
 subst e';exact jb5 hi fr hfr hc he
theorem Qj {tc:Blk->TT}{te:Blk->TE}{e:Cd γ}{l:List (Int×Int)}{mc:Int×Int->Option Bool}{me:Int×Int->Option γ}  {mm_:_} (hi:Ec K σ F H wi (cP cI cI) (some l)) (fr:St) (hfr:(ix.map fun i=>(σ[i]?).join)=fr)
  (hc:∀ b x y F' H',Ext F H F' H'->Et K (some (.int x)::some (.int y)::fr) F' H' (tc b) (mc (x,y))) (he:∀ b x y F' H',Ext F H F' H'->Ev K (some (.int x)::some (.int y)::fr) F' H' (te b) (rF e) (me (x,y))) (e':mm_=(xh l mc me)):Ev K σ F H (UT wi 2 ix (fun _=>jfr K 2 (GQ (qO 0) (GQ (qO 1) jfq))) tc te) (rO e) mm_:=by
 subst e';exact jak hi fr hfr hc he
theorem QR {p1:Pm α1}{m:α1->Option γ}  {mm_:_} (h1:Ev K σ F H t1 p1.rs m1) (e':mm_=(m1.bind fun x1=>m x1)):Ev K σ F H (JR (sp1 K p1 rs m) [] E0 (jJ t1 xb)) rs mm_:=by
 subst e';exact jbi h1
theorem zh {p1:Pm α1}{m:α1->Option γ}  {mm_:_} (h1:Ev K σ F H t1 p1.rs (some x1)) (e':mm_=(m x1)):Ev K σ F H (JR (sp1 K p1 rs m) [] E0 (jJ t1 xb)) rs mm_:=by
 subst e';exact jb6 h1
theorem qI {p1:Pm α1}{p2:Pm α2}{m:α1->α2->Option γ}  {mm_:_} (h1:Ev K σ F H t1 p1.rs m1) (h2:Ev K σ F H t2 p2.rs m2) (e':mm_=(m1.bind fun x1=>m2.bind fun x2=>m x1 x2)):Ev K σ F H (JR (sp2 K p1 p2 rs m) [] E0 (jJ t1 (jJ t2 xb))) rs mm_:=by
 subst e';exact jbj h1 h2
theorem jz {p1:Pm α1}{p2:Pm α2}{m:α1->α2->Option γ}  {mm_:_} (h1:Ev K σ F H t1 p1.rs (some x1)) (h2:Ev K σ F H t2 p2.rs (some x2)) (e':mm_=(m x1 x2)):Ev K σ F H (JR (sp2 K p1 p2 rs m) [] E0 (jJ t1 (jJ t2 xb))) rs mm_:=by
 subst e';exact jb8 h1 h2
theorem jca {p1:Pm α1}{p2:Pm α2}{p3:Pm α3}{m:α1->α2->α3->Option γ}  {mm_:_} (h1:Ev K σ F H t1 p1.rs m1) (h2:Ev K σ F H t2 p2.rs m2) (h3:Ev K σ F H t3 p3.rs m3) (e':mm_=(m1.bind fun x1=>m2.bind fun x2=>m3.bind fun x3=>m x1 x2 x3)):Ev K σ F H (JR (sp3 K p1 p2 p3 rs m) [] E0 (jJ t1 (jJ t2 (jJ t3 xb)))) rs mm_:=by
 subst e';exact jbk h1 h2 h3
theorem yr {p1:Pm α1}{p2:Pm α2}{p3:Pm α3}{m:α1->α2->α3->Option γ}{x3:α3}  {mm_:_} (h1:Ev K σ F H t1 p1.rs (some x1)) (h2:Ev K σ F H t2 p2.rs (some x2)) (h3:Ev K σ F H t3 p3.rs (some x3)) (e':mm_=(m x1 x2 x3)):Ev K σ F H (JR (sp3 K p1 p2 p3 rs m) [] E0 (jJ t1 (jJ t2 (jJ t3 xb)))) rs mm_:=by
 subst e';exact jb_ h1 h2 h3
theorem GZ {c1:Cd α1}{m:α1->Option γ}  {mm_:_} (ob:WV c1 C nm) (h1:Ev K σ F H t1 (rF c1) (some x1)) (e':mm_=(m x1)):Ev K σ F H (VS C nm (sp1 K (pF c1) rs m) [] E0 t1 xb) rs mm_:=by
 subst e';exact jb7 ob h1
theorem kq {c1:Cd α1}{p2:Pm α2}{m:α1->α2->Option γ}  {mm_:_} (ob:WV c1 C nm) (h1:Ev K σ F H t1 (rF c1) (some x1)) (h2:Ev K σ F H t2 p2.rs (some x2)) (e':mm_=(m x1 x2)):Ev K σ F H (VS C nm (sp2 K (pF c1) p2 rs m) [] E0 t1 (jJ t2 xb)) rs mm_:=by
 subst e';exact jb9 ob h1 h2
theorem jcb {u v:TT}{a:Bool}{m:Option Bool}  {mm_:_} (h:Et K σ F H u (some a)) (h':Et K σ F H v m) (e':mm_=(bif a then m else some false)):Et K σ F H (jkD u v) mm_:=by
 subst e';exact jf2 h h'
theorem jd7 {u v:TT}{a:Bool}{m:Option Bool}  {mm_:_} (h:Et K σ F H u (some a)) (h':Et K σ F H v m) (e':mm_=(bif a then some true else m)):Et K σ F H (tOr u v) mm_:=by
 subst e';exact jij h h'
theorem U_ {g:Int->Int->Bool}{x y z:Int}  {mm_:_} (ha:Ev K σ F H ta (rF cI) (some x)) (hb:Ev K σ F H tb (rF cI) (some y)) (hc:Ev K σ F H tc (rF cI) (some z)) (e':mm_=(some (g x y&&g' y z))):Ev K σ F H (ja9 (rI0 fun i j=>.bl (g i j)) (rI0 fun i j=>.bl (g' i j)) ta tb tc) (rF cB) mm_:=by
 subst e';exact jdH ha hb hc
theorem Zf {g:Int->Int->Bool}{x y z w:Int}  {mm_:_} (ha:Ev K σ F H ta (rF cI) (some x)) (hb:Ev K σ F H tb (rF cI) (some y)) (hc:Ev K σ F H tc (rF cI) (some z)) (hd:Ev K σ F H td (rF cI) (some w)) (e':mm_=(some (g x y&&(g' y z&&g'' z w)))):Ev K σ F H (jaa (rI0 fun i j=>.bl (g i j)) (rI0 fun i j=>.bl (g' i j)) (rI0 fun i j=>.bl (g'' i j)) ta tb tc td) (rF cB) mm_:=by
 subst e';exact jb3 ha hb hc hd
theorem Zg {i:Int}  {mm_:_} (h:(0:Int)<=(j:Int)/\(j:Int)<=1000000/\i.natAbs<2 ^ 64) (ha:Ev K σ F H ta (rF cI) (some i)) (hb:Ev K σ F H tb (rF cI) (some (j:Int))) (e':mm_=(some (i ^ j))):Ev K σ F H (tOp (rI ji_ fun i j=>.int (i ^ j.toNat)) ta tb) (rF cI) mm_:=by
 subst e';exact jib h ha hb
end
section
variable {F:Hp}{t:TE}{c:Cd α}{d:Cd β}{p:Pm α}{q:Pm β}{rs:Rs γ}{i j:Int}
theorem jap {f:Str}{v:V}{fs:List (Str×V)} (h:fs.length<=n):(QM f v fs).length<=n+1:=X6 (JQ f v fs) (Nat.succ_le_succ h)
structure OwnI (He F H:Hp) (C x dx:Addr) (fs:List (Str×V)):Prop where
 e:He x=none
 f:F x=none
 h:H x=some (.ins C dx fs)
theorem OwnI.mono {x:Addr}{fs:List (Str×V)} (o:OwnI He F H C x dx fs) (E:Ext F H F' H'):OwnI He F' H' C x dx fs:=by
 refine⟨o.e,?_,E.h _ _ o.h⟩;cases e:F' x with
 | none=>rfl
 | some u=>
  rcases E.new x u e with z | z
  ·rw[o.f] at z; cases z
  ·rw[o.h] at z; cases z
theorem OwnI.freeze {x:Addr}{fs:List (Str×V)} (o:OwnI He F H C x dx fs) (X:Ext Fe He F H):∃ F',Ext Fe He F' H/\Chg x F H F' H/\F' x=some (.ins C dx fs):=
 ⟨upd F x (.ins C dx fs),X.frz o.e o.f o.h,⟨xc o.f,fun _ _ _ h=>h,fun b u e hb=>by rw[jM e] at hb; exact .inl hb⟩,jV⟩
theorem jik {k:Nat}{x:Addr}{fs:List (Str×V)}{f:Str}{v:V}{a:α} (hi:σ[k]?=some (some (.ref x))) (o:OwnI He F H C x dx fs) (cl:Cls K C) (na:NoAttr K C f) (hl:fs.lookup f=some v) (h:p.rel K F H a v):Ev K σ F H (jjk K (Wb k) f) p.rs (some a):=by
 intro F1 H1 E b e Q k;cases e;exact⟨_,hi,x,C,dx,fs,v,rfl,E.h _ _ o.h,cl,na,hl,k v F1 H1 (Ext.refl E.sub) (p.mono E h)⟩
theorem Wj {x:Addr}{fs:List (Str×V)}{f:Str}{m:Option α}{g:α->Option δ} (hi:σ[k']?=some (some (.ref x))) (o:OwnI He F H C x dx fs) (cl:Cls K C) (na:NoAttr K C f) (hn:fs.length<1000) (he:Ev K σ F H te (rF c) m) (X:Ext Fe He F H) (hm:m.bind g=some r)
  (k:∀ a v F' H',g a=some r->Chg x F H F' H'->Ext Fe He F' H'->c.rep K F' a v->OwnI He F' H' C x dx (QM f v fs)->D.nx σ H'):jkT K (Wb k') te f D σ H:=by
 obtain⟨a,ea,hm⟩:=bind_some hm;refine he F H (Ext.refl X.sub) a ea _ fun v F2 H2 E hv=>⟨_,hi,x,C,dx,fs,rfl,E.h _ _ o.h,cl,na,hn,?_⟩;have o2:=o.mono E;exact k a v F2 _ hm (WW E) ((X.trans E).upd o2.e o2.f) hv ⟨o2.e,o2.f,jV⟩
theorem jjI {x:Addr}{fs:List (Str×V)}{f:Str}{m:Option α}{g:α->Option δ} (hi:σ[k']?=some (some (.ref x))) (o:OwnI He F H C x dx fs) (cl:Cls K C) (na:NoAttr K C f) (hn:fs.length<1000) (he:Ev K σ F H te (rF c) m) (X:Ext Fe He F H) (hm:m.bind g=some r)
  (k:∀ a v F' H',g a=some r->Chg x F H F' H'->Ext Fe He F' H'->c.rep K F' a v->OwnI He F' H' C x dx (QM f v fs)->u' D σ H'):Q_ (jkT K (Wb k') te f) u' D σ H:=Wj (D:={ D with nx:=u' D }) hi o cl na hn he X hm k
theorem zJ {x:Addr} (s:Same F He) (h1:He x=none) (h2:He dx=none) (hne:dx≠x):Ext F He F (upd (upd He dx (.own x)) x (.ins C dx []))/\OwnI He F (upd (upd He dx (.own x)) x (.ins C dx [])) C x dx []:=by
 have e1:Ext F He F (upd He dx (.own x)):=Ext.newO s h2;have h3:(upd He dx (.own x)) x=none:=by rw[jM (Ne.symm hne)]; exact h1
 exact⟨e1.trans (Ext.newO e1.sub h3),h1,s.free h1,jV⟩
def jf7 (K:W.Frag) (C:Addr) (p1:Pm α1) (c:Cd γ) (m:α1->Option γ):Sp:=fun vs H Q _=>∃ (x1:α1) (v1:V) (F H1:Hp) (x dx:Addr) (r:γ),vs=[.ref x,v1]/\H=upd (upd H1 dx (.own x)) x (.ins C dx [])/\H1 x=none/\H1 dx=none/\dx≠x/\Same F H1/\p1.rel K F H1 x1 v1/\m x1=some r/\∀ F' H',Ext F H1 F' H'->c.rep K F' r (.ref x)->Q .non H'
theorem zi {c:Cd γ}{p1:Pm α1}{m:α1->Option γ}{mm_:Option γ} (h1:Ev K σ F H t1 p1.rs (some x1)) (e':mm_=(m x1)):Ev K σ F H (jfy C (jf7 K C p1 c m) [] E0 (jJ t1 xb)) (rF c) mm_:=by
 subst e';intro F0 H0 E0' z e Q k;refine h1 F0 H0 (E0') x1 rfl _ fun v1 F1 H1 E1 r1=>?_;intro x dx n1 n2 n3;exact⟨x1,v1,F1,H1,x,dx,z,rfl,rfl,n1,n2,n3,E1.sub,r1,e,fun F' H' E' hu=>⟨rfl,k _ F' H' ((E1).trans E') hu⟩⟩
def jk3 (K:W.Frag) (C:Addr) (p1:Pm α1) (p2:Pm α2) (c:Cd γ) (m:α1->α2->Option γ):Sp:=fun vs H Q _=>∃ (x1:α1) (x2:α2) (v1 v2:V) (F H1:Hp) (x dx:Addr) (r:γ),vs=[.ref x,v1,v2]/\H=upd (upd H1 dx (.own x)) x (.ins C dx [])/\H1 x=none/\H1 dx=none/\dx≠x/\Same F H1/\p1.rel K F H1 x1 v1/\p2.rel K F H1 x2 v2/\m x1 x2=some r/\∀ F' H',Ext F H1 F' H'->c.rep K F' r (.ref x)->Q .non H'
theorem Zh {c:Cd γ}{p1:Pm α1}{p2:Pm α2}{m:α1->α2->Option γ}{mm_:Option γ} (h1:Ev K σ F H t1 p1.rs (some x1)) (h2:Ev K σ F H t2 p2.rs (some x2)) (e':mm_=(m x1 x2)):Ev K σ F H (jfy C (jk3 K C p1 p2 c m) [] E0 (jJ t1 (jJ t2 xb))) (rF c) mm_:=by
 subst e';intro F0 H0 E0' z e Q k;refine h1 F0 H0 (E0') x1 rfl _ fun v1 F1 H1 E1 r1=>?_;refine h2 F1 H1 ((E0').trans E1) x2 rfl _ fun v2 F2 H2 E2 r2=>?_;intro x dx n1 n2 n3;exact⟨x1,x2,v1,v2,F2,H2,x,dx,z,rfl,rfl,n1,n2,n3,E2.sub,p1.mono (E2) r1,r2,e,fun F' H' E' hu=>⟨rfl,k _ F' H' ((E1.trans (E2)).trans E') hu⟩⟩
end
section
variable {F:Hp}{t:TE}{c:Cd α}{d:Cd β}{p:Pm α}{q:Pm β}{rs:Rs γ}{i j:Int}
@[irreducible] def jaq (l:List Int) (k:Int):Option Int:=(l.findIdx? fun x=>decide (x=k)).map fun j=>((j:Nat):Int)
theorem jd8 {l:List Int}{k z:Int} (h:jaq l k=some z):∃ j:Nat,z=(j:Int)/\l[j]?=some k/\∀ i a,i<j->l[i]?=some a->a≠k:=by
 unfold jaq at h;cases e:l.findIdx? (fun x=>decide (x=k)) with
 | none=>rw[e] at h; cases h
 | some j=>
  rw[e] at h;cases h;obtain⟨hj,h1,h2⟩:=List.findIdx?_eq_some_iff_getElem.mp e;refine⟨j,rfl,?_,fun i a hi ha=>?_⟩
  ·rw[Xe hj];exact congrArg some (wJ h1)
  ·obtain⟨hi',rfl⟩:=List.getElem?_eq_some_iff.mp ha;have:=h2 i hi;simpa using this
theorem jd9 {f:List α->Option δ} (hi:σ[k']?=some (some (.ref a))) (o:Own K He F H c l a) (he:Ev K σ F H te (pB c).rs m) (X:Ext Fe He F H) (hm:(m.bind fun y=>Um l y).bind f=some r)
  (k:∀ l' F' H',f l'=some r->Chg a F H F' H'->Ext Fe He F' H'->Own K He F' H' c l' a->D.nx σ H'):VR (tBM K "list" jdk (Wb k') (jJ te xb)) D σ H:=by
 obtain⟨l',el,hm⟩:=bind_some hm;obtain⟨y,ey,el⟩:=bind_some el;unfold Um at el;obtain⟨hl,rfl⟩:=kI el;obtain⟨xs,h1,h2⟩:=o.h;refine⟨_,hi,.inl ⟨rfl,_,SqL.of h1⟩,he F H (Ext.refl X.sub) y ey _ ?_⟩;rintro v F2 H2 E ⟨b,ys,rfl,g1,g2⟩;have o2:=o.mono E;have h3:Paired (c.rep K F2) l xs:=Paired.mapP h2 fun _ _=>c.mono E.f;refine⟨a,b,xs,ys,rfl,rfl,E.h _ _ h1,g1,by rw[wa,<- h2.length,<- g2.length]; exact hl,?_⟩;obtain⟨X',o'⟩:=jaf (K:=K) (c:=c) (X.trans E) o.e o2.f (Paired.app h3 g2);exact k _ F2 _ hm (WW E) X' o'
@[irreducible] def jar (n:Int):Option (List Int):=if (-(2 ^ 62)<=n/\n<2 ^ 62)/\n<=16777216 then some (JH 0 n) else none
theorem Zi {m:Option Int} (h:Ev K σ F H t (rF cI) m) (e':mm_=(m.bind fun n=>jar n)) :
  Ev K σ F H (tCB (fun xs H Q=>∃ p lo hi,xs=[.ref p]/\H p=some (.rng lo hi)/\(-(2 ^ 62)<=lo/\lo<2 ^ 62/\-(2 ^ 62)<=hi/\hi<2 ^ 62)/\(hi-lo).toNat<=2 ^ 24/\∀ l,H l=none->Q (.ref l) (upd H l (.lst ((UX lo hi).map V.int))))
   (jJ (fun σ H Q=>(jJ t xb) σ H fun vs H1=>∃ j:Int,vs=[.int j]/\∀ x,H1 x=none->Q (.ref x) (upd H1 x (.rng 0 j))) xb)) (rO cI) mm_:=by
 subst e';intro F1 H1 E z e Q k;obtain⟨n,en,e⟩:=bind_some e;unfold jar at e;obtain⟨⟨⟨h1,h2⟩,h3⟩,rfl⟩:=kI e;refine h F1 H1 E n en _ fun v F2 H2 E2 hv=>?_;have ev:v=.int n:=hv;subst ev;refine⟨n,rfl,fun x hx=>⟨x,0,n,rfl,jV,⟨by omega,by omega,h1,h2⟩,by omega,fun l hl=>?_⟩⟩;have E3:Ext F2 H2 F2 (upd H2 x (.rng 0 n)):=Ext.newO E2.sub hx;exact zg (c:=cI) E3.sub (zH (JH 0 n)) (fun v F5 H5 E5 hr=>k v F5 H5 (E2.trans (E3.trans E5)) ((rO cI).back (E2.h.trans E3.h) hr)) l hl
theorem jas {n:Int} (h:Ev K σ F H t (rF cI) (some n)) (e':mm_=jar n) :
  Ev K σ F H (tCB (fun xs H Q=>∃ p lo hi,xs=[.ref p]/\H p=some (.rng lo hi)/\(-(2 ^ 62)<=lo/\lo<2 ^ 62/\-(2 ^ 62)<=hi/\hi<2 ^ 62)/\(hi-lo).toNat<=2 ^ 24/\∀ l,H l=none->Q (.ref l) (upd H l (.lst ((UX lo hi).map V.int))))
   (jJ (fun σ H Q=>(jJ t xb) σ H fun vs H1=>∃ j:Int,vs=[.int j]/\∀ x,H1 x=none->Q (.ref x) (upd H1 x (.rng 0 j))) xb)) (rO cI) mm_:=Zi h e'
end
section
variable {F:Hp}{t:TE}{c:Cd α}{d:Cd β}{p:Pm α}{q:Pm β}{rs:Rs γ}{i j:Int}
def whM (c:β->Option Bool) (f:β->Option β):Nat->β->Option β
 | 0,_=>none
 | n+1,b=>(c b).bind fun t=>bif t then (f b).bind fun b'=>whM c f n b' else some b
@[irreducible] def pWh (c:β->Option Bool) (f:β->Option β) (b:β):Option β:=whM c f 100000 b
theorem jf8 {tc:TT}{tb:TS} (X:Ext Fe He F H) (hm:(pWh cM fM b0).bind kk=some r) (I:Hp->β->St->Hp->Hp->Prop)
  (h0:I F b0 σ F H) (hG:∀ F1 b σ F H,I F1 b σ F H->Ext Fe He F H/\Same F1 F)
  (hc:∀ b σ' F' H',I F b σ' F' H'->Et K σ' F' H' tc (cM b))
  (hb:∀ b b' σ' F' H' F2 H2,I F b σ' F' H'->Ext F' H' F2 H2->fM b=some b'->tb { D with nx:=fun σ H=>∃ F3,I F b' σ F3 H,ct:=fun σ H=>∃ F3,I F b' σ F3 H,bk:=D.nx } σ' H2)
  (hd:∀ b σ' F' H' F2 H2,I F b σ' F' H'->Ext F' H' F2 H2->kk b=some r->D.nx σ' H2):jc3 tc tb D σ H:=by
 obtain⟨b1,hb1,hk⟩:=bind_some hm;unfold pWh at hb1;refine⟨fun m σ H=>∃ b F',whM cM fM m b=some b1/\I F b σ F' H,⟨_,b0,F,hb1,h0⟩,?_⟩;rintro m σ' H' ⟨b,F',hrun,hI⟩;cases m with
 | zero=>cases hrun
 | succ k=>
  obtain⟨t,et,hrun⟩:=bind_some hrun;have g:=hG F b σ' F' H' hI;refine hc b σ' F' H' hI F' H' (Ext.refl g.1.sub) t et _ fun F2 H2 E=>?_;cases t with
  | true=>
   obtain⟨b',eb,hrun⟩:=bind_some hrun;rw[if_pos rfl];exact⟨fun σ H=>∃ F3,I F b' σ F3 H,fun σ'' H'' ⟨F3,h3⟩=>⟨k,Nat.lt_succ_self _,b',F3,hrun,h3⟩,hb b b' σ' F' H' F2 H2 hI E eb⟩
  | false=>
   have e:b=b1:=Option.some.inj hrun;subst e;rw[if_neg (by decide)];exact hd b σ' F' H' F2 H2 hI E hk
theorem jat {tc:TT}{tb:TS} (X:Ext Fe He F H) (hm:(pWh cM fM b0).bind kk=some r) (I:Hp->β->St->Hp->Hp->Prop)
  (h0:I F b0 σ F H) (hG:∀ F1 b σ F H,I F1 b σ F H->Ext Fe He F H/\Same F1 F)
  (hc:∀ b σ' F' H',I F b σ' F' H'->Et K σ' F' H' tc (cM b))
  (hb:∀ b b' σ' F' H' F2 H2,I F b σ' F' H'->Ext F' H' F2 H2->fM b=some b'->tb { D with nx:=fun σ H=>∃ F3,I F b' σ F3 H,ct:=fun σ H=>∃ F3,I F b' σ F3 H,bk:=u' D } σ' H2)
  (hd:∀ b σ' F' H' F2 H2,I F b σ' F' H'->Ext F' H' F2 H2->kk b=some r->u' D σ' H2):Q_ (jc3 tc tb) u' D σ H:=
 jf8 (D:={ D with nx:=u' D }) X hm I h0 hG hc hb hd
end
end L3
variable {c:L3.Cd α}{q:L3.Pm β}{p1:L3.Pm α1}{p2:L3.Pm α2}
namespace L2
open PySem PySem.Spec PyProof.Rows
section
def srt (l:List Int):List Int:=l.mergeSort fun a b=>decide (a<=b)
theorem Qk (l:List Int):(srt l).Perm l:=List.mergeSort_perm l _
theorem jjJ (l:List Int):(srt l).Pairwise (·<=·):=by
 have:=List.pairwise_mergeSort (le:=fun a b:Int=>decide (a<=b)) (fun a b c h1 h2=>by simp at *; omega) (fun a b=>by simp; omega) l;exact this.imp fun h=>by simpa using h
theorem jd_ {l m:List Int} (h:m.Perm l) (hs:m.Pairwise (·<=·)):m=srt l:=
 List.Perm.eq_of_pairwise (le:=(·<=·)) (fun a b _ _ h1 h2=>Int.le_antisymm h1 h2) hs (jjJ l) (h.trans (Qk l).symm)
theorem G0:∀ {us:List Value}{ns:List Int},IntsAre us ns->Vals (ns.map V.int) us
 | _,_,.nil=>.nil
 | _,_,.cons n t h=>.cons ⟨t,rfl⟩ (G0 h)
end
end L2
namespace L3
open PySem PySem.Spec L2
section
variable {F:Hp}{t:TE}{d:Cd β}{p:Pm α}{rs:Rs γ}{i j:Int}
@[irreducible] def jf9 (l:List Int):Option (List Int):=if l.length<64 then some (srt l) else none
theorem paired_ints {F:Hp}:∀ {l:List Int}{xs:List V},Paired (cI.rep K F) l xs->xs=l.map V.int
 | _,_,.nil=>rfl
 | a::l,x::xs,.cons r s=>by
  have e:x=.int a:=r;rw[e,paired_ints s,X8]
end
end L3
namespace L2
open PySem
def Up (xs:Array Nat):Prop:=xs.toList.Pairwise (· < ·)
theorem Up.lt {xs:Array Nat} (h:Up xs) {a b:Nat} (hij:i<j) (ha:xs[i]?=some a) (hb:xs[j]?=some b):a<b:=by
 rw[<- Array.getElem?_toList] at ha hb;obtain⟨hi,rfl⟩:=List.getElem?_eq_some_iff.mp ha;obtain⟨hj,rfl⟩:=List.getElem?_eq_some_iff.mp hb;exact List.pairwise_iff_getElem.mp h i j hi hj hij
def Cut (xs:Array Nat) (j p:Nat):Prop:=p<=xs.size/\(∀ i v,i<p->xs[i]?=some v->v<j)/\(∀ i v,p<=i->xs[i]?=some v->j<=v)
theorem jea {xs:Array Nat} (h:Up xs):∀ f lo hi,hi-lo<=f->lo<=hi->hi<=xs.size->(∀ i v,i<lo->xs[i]?=some v->v<j)->(∀ i v,hi<=i->xs[i]?=some v->j<=v)->Cut xs j (SetTable.below.go xs j f lo hi)
 | 0,lo,hi,hf,hl,hz,h1,h2=>by
  have e:lo=hi:=by omega
  subst e;exact⟨hz,h1,h2⟩
 | f+1,lo,hi,hf,hl,hz,h1,h2=>by
  unfold SetTable.below.go;by_cases hlt:lo<hi
  ·rw[if_pos hlt];have hm:(lo+hi) / 2<xs.size:=by omega
   have em:xs[(lo+hi) / 2]?=some xs[(lo+hi) / 2]:=wc hm;have eg:xs.getD ((lo+hi) / 2) j=xs[(lo+hi) / 2]:=by simp[Array.getD,hm]
   dsimp only;rw[eg];by_cases hc:xs[(lo+hi) / 2]<j
   ·rw[if_pos hc];refine jea h f _ _ (by omega) (by omega) hz (fun i v hi' ev=>?_) h2;by_cases q:i=(lo+hi) / 2
    ·subst q; rw[em] at ev; cases ev; exact hc
    ·exact Nat.lt_trans (h.lt (by omega) ev em) hc
   ·rw[if_neg hc];refine jea h f _ _ (by omega) (by omega) (by omega) h1 (fun i v hi' ev=>?_);by_cases q:i=(lo+hi) / 2
    ·subst q; rw[em] at ev; cases ev; omega
    ·have:=h.lt (by omega:(lo+hi) / 2<i) em ev; omega
  ·rw[if_neg hlt];have e:lo=hi:=by omega
   subst e;exact⟨hz,h1,h2⟩
theorem Va {xs:Array Nat} (h:Up xs) (j:Nat):Cut xs j (SetTable.below xs j):=
 jea h xs.size 0 xs.size (by omega) (by omega) (Xh _) (fun i _ hi _=>absurd hi (Nat.not_lt_zero i)) fun i v hi ev=>by
  obtain⟨q,_⟩:=Array.getElem?_eq_some_iff.mp ev;omega
theorem jcc {xs:Array Nat} (h:Up xs) {v:Nat} (hv:xs[i]?=some v):SetTable.below xs (v+1)=i+1:=by
 obtain⟨c1,c2,c3⟩:=Va h (v+1);obtain⟨hi,_⟩:=Array.getElem?_eq_some_iff.mp hv;generalize SetTable.below xs (v+1)=p at *;rcases Nat.lt_trichotomy p (i+1) with q | q | q
 ·have:=c3 i v (by omega) hv; omega
 ·exact q
 ·have hp:i+1<xs.size:=by omega
  have e:=wc hp;have a:=c2 (i+1) _ q e;have b:=h.lt (Nat.lt_succ_self i) hv e;omega
theorem jau {xs:Array Nat} (h:Up xs):SetTable.below xs 0=0:=by
 obtain⟨c1,c2,c3⟩:=Va h 0;generalize SetTable.below xs 0=p at *;cases p with
 | zero=>rfl
 | succ p=>
  have hp:0<xs.size:=by omega
  exact absurd (c2 0 _ (by omega) (wc hp)) (Nat.not_lt_zero _)
theorem jjK {xs:Array Nat} (h:Up xs) (hj:xs[SetTable.below xs j]?≠some j):Up (SetTable.insertAt xs (SetTable.below xs j) j):=by
 obtain⟨c1,c2,c3⟩:=Va h j;generalize SetTable.below xs j=p at *;have hl:(SetTable.insertAt xs p j).toList=xs.toList.take p++(j::xs.toList.drop p):=by
  unfold SetTable.insertAt;simp[Array.toList_extract,List.extract];rw[<- Xv,wR (by rw[wF]; omega)]
 unfold Up;rw[hl];rw[X7];refine⟨h.sublist (List.take_sublist _ _),?_,?_⟩
 ·rw[ww];refine⟨fun a ha=>?_,h.sublist (List.drop_sublist _ _)⟩;obtain⟨k,hk,rfl⟩:=List.mem_iff_getElem.mp ha;rw[wF,Xv] at hk;have hk2:p+k<xs.size:=by omega
  have e:xs[p+k]?=some xs[p+k]:=wc hk2;have e0:xs[p]?=some xs[p]:=wc (by omega);have a0:=c3 p _ (Xh _) e0;rw[e0] at hj;have a1:j<xs[p]:=by
   rcases Nat.lt_or_eq_of_le a0 with q | q
   ·exact q
   ·exact absurd (by rw[<- q]) hj
  have g:(xs.toList.drop p)[k]=xs[p+k]:=by simp
  rw[g];by_cases z:k=0
  ·subst z; exact a1
  ·exact Nat.lt_trans a1 (h.lt (by omega) e0 e)
 ·intro a ha b hb;obtain⟨k,hk,rfl⟩:=List.mem_iff_getElem.mp ha;rw[wT] at hk;have hk2:k<xs.size:=by rw[<- Xv]; omega
  have g:(xs.toList.take p)[k]=xs[k]:=by simp
  have a0:=c2 k xs[k] (by omega) (wc hk2);rw[g];rcases Xk.mp hb with rfl | hb
  ·exact a0
  ·obtain⟨m,hm,rfl⟩:=List.mem_iff_getElem.mp hb;rw[wF,Xv] at hm;have hm2:p+m<xs.size:=by omega
   have g2:(xs.toList.drop p)[m]=xs[p+m]:=by simp
   rw[g2];exact Xt a0 (c3 (p+m) _ (by omega) (wc hm2))
theorem Ql (t:SetTable) (p:SetTable.Probe):(t.advance p).dummy=p.dummy:=by
 unfold SetTable.advance;split <;> rfl
theorem QS {t:SetTable}{g:Nat->Int}{h:Int}{d:Option Nat}:∀ (f:Nat) (p:SetTable.Probe),(∀ x,p.dummy=some x->t.slot x=.dummy)->SetTable.probe.go t g h f p=some (.empty j d)->t.slot j=.empty/\∀ x,d=some x->t.slot x=.dummy
 | 0,p,hp,e=>by cases e
 | f+1,p,hp,e=>by
  unfold SetTable.probe.go at e;split at e
  ·rename_i es
   cases e;exact⟨es,hp⟩
  ·rename_i es
   refine QS f _ (fun x hx=>?_) e;rw[Ql] at hx;cases hx;exact es
  ·rename_i i es
   split at e
   ·cases e
   ·refine QS f _ (fun x hx=>?_) e;rw[Ql] at hx;exact hp x hx
theorem jil {t:SetTable} (h:∀ i,t.slot j≠.live i):t.place[SetTable.below t.place j]?≠some j:=by
 intro e;refine h (SetTable.below t.place j) ?_;unfold SetTable.slot;dsimp only;rw[e];simp
theorem W1 {t:SetTable}{h:Int}{b:Bool} (e:t.freeSlot h=some (j,b)):t.place[SetTable.below t.place j]?≠some j:=by
 unfold SetTable.freeSlot at e;split at e
 ·rename_i j' d hp
  cases e;obtain⟨h1,h2⟩:=QS _ _ (fun x hx=>by cases hx) hp;refine jil fun i hi=>?_;cases d with
  | none=>rw[Option.getD_none] at hi; rw[h1] at hi; cases hi
  | some x=>rw[Option.getD_some] at hi; rw[h2 x rfl] at hi; cases hi
 ·cases e
def TabOk (L:Bool) (t:SetTable):Prop:=t.led=L/\(t.plain=true->Up t.place)
theorem TabOk.standIn {t:SetTable} (h:TabOk L t) (n:Nat):TabOk L (t.standIn n):=⟨h.1,fun e=>by cases e⟩
theorem TabOk.layNew {t:SetTable} (k:TabOk L t) (es:Array (Int×Value)) (h:Int) (x:Value):TabOk L (layNew t es h x).2.1:=by
 unfold PySem.layNew;split
 ·rename_i slot b e
  have k':TabOk L (t.put slot).1:=⟨k.1,fun hp=>jjK (k.2 hp) (W1 e)⟩;dsimp only;unfold SetTable.orStandIn;split
  ·exact k'
  ·exact k'.standIn _
 ·exact k.standIn _
theorem jf_ {g:Nat->Option Nat}:Up (((List.range n).filterMap fun j=>(g j).map (j,·)).map (·.1)).toArray:=by
 have e:(((List.range n).filterMap fun j=>(g j).map (j,·)).map (·.1))=(List.range n).filter fun j=>(g j).isSome:=by
  generalize List.range n=l
  induction l with
  | nil=>rfl
  | cons a l ih=>
   cases hg:g a with
   | none=>simp[hg]; simpa using ih
   | some b=>simp[hg]; simpa using ih
 unfold Up;rw[e];exact(List.pairwise_lt_range).sublist (List.filter_sublist)
theorem TabOk.relayAll {t:SetTable} (k:TabOk L t) (es:Array (Int×Value)) (n:Nat):TabOk L (relayAll t es n).2.1:=by
 unfold PySem.relayAll;split
 ·rename_i t' order e
  dsimp only;split
  ·unfold SetTable.relaid SetTable.laid at e;simp only[Option.bind_eq_bind,Option.bind_eq_some_iff] at e;obtain⟨owner,_,e⟩:=e;cases e;exact⟨k.1,fun _=>jf_⟩
  ·exact k.standIn _
 ·exact k.standIn _
theorem TabOk.fresh (L:Bool):TabOk L (.fresh 0 0 L):=⟨rfl,fun _=>List.Pairwise.nil⟩
end L2
namespace L2
open PySem PySem.Spec PyProof.Rows
abbrev jcd (w:World):Bool:=!w.params.followText "set-order"
structure SetT (prog:Program) (w:World) (h:Heap) (a:Addr) (S:Int->Bool) (n:Nat) (o:Obj) (es:Array (Int×Value)) (ep:Nat) (t:SetTable):Prop where
 loc:h.get? a=some o
 ex:o.ExactSet
 dat:o.data=.set es ep t
 el:ElemsOf (intKind prog w) es.toList
 mem:∀ k,S k=true ↔ ∃ e∈es.toList,(intKind prog w).is k e.2=true
 bd:es.size<scanBound
 fit:t.fits es.size=true
 num:es.size=n
 tab:TabOk (jcd w) t
def SetX (prog:Program) (w:World) (h:Heap) (a:Addr) (S:Int->Bool) (n:Nat):Prop:=∃ o es ep t,SetT prog w h a S n o es ep t
section
variable {S':Int->Bool}{es es1:Array (Int×Value)}{t t1:SetTable}
theorem SetX.keep (x:SetX prog w h a S n) (k:∀ o,h.get? a=some o->h'.get? a=some o):SetX prog w h' a S n:=by
 obtain⟨o,es,ep,t,x⟩:=x;exact⟨o,es,ep,t,{ x with loc:=k _ x.loc }⟩
theorem SetX.congr {n':Nat} (x:SetX prog w h a S n) (e:∀ k,S k=S' k) (en:n=n'):SetX prog w h a S' n':=by
 have q:S=S':=funext e;subst q; subst en; exact x
theorem SetT.store (x:SetT prog w h a S n o es ep t) (el:ElemsOf (intKind prog w) es1.toList) (mem:∀ k,S' k=true ↔ ∃ e∈es1.toList,(intKind prog w).is k e.2=true)
  (bd:es1.size<scanBound) (fit:t1.fits es1.size=true) (tab:TabOk (jcd w) t1):SetT prog w (h.update a (Obj.putSet es1 t1)) a S' es1.size { o with data:=.set es1 (ep+1) t1 } es1 (ep+1) t1:=
 ⟨(SetOf_store (knd:=intKind prog w) x.loc x.ex x.dat el mem bd fit).1,x.ex,rfl,el,mem,bd,fit,rfl,tab⟩
theorem jeb {g:Bool->Sem Unit} (hg:∀ (b:Bool) (s1:Shared) (Z:Unit->Shared->Prop),Z () s1->wpAny (model prog w) A (g b) Z E s1) (x:SetT prog w s.heap a S n o es ep t)
  (el:ElemsOf (intKind prog w) es1.toList) (mem:∀ k,S' k=true ↔ ∃ e∈es1.toList,(intKind prog w).is k e.2=true) (bd:es1.size<scanBound) (fit:t1.fits es1.size=true) (tab:TabOk (jcd w) t1)
  {wd:Bool}{R:Option Bool->Shared->Prop} (q:∀ h',Heap.SameBut a s.heap h'->SetX prog w h' a S' es1.size->R (some true) { s with heap:=h' }) :
  wpAny (model prog w) A (do
   storeSet a es1 t1
   if (!wd&&t1.tooFull)=true then do
     g (relayAll t1 es1 (SetTable.grown es1.size)).2.2
     storeSet a (relayAll t1 es1 (SetTable.grown es1.size)).1 (relayAll t1 es1 (SetTable.grown es1.size)).2.1
     pure (some true)
    else pure (some true)) R E s:=by
 refine Xa (wpAny_storeSet_of x.loc x.dat ?_ (fits_of_scanBound bd));have x1:=x.store el mem bd fit tab;have same1:=Heap.SameBut.update s.heap a (Obj.putSet es1 t1);split
 ·have pp:=relayAll_perm t1 es1 (SetTable.grown es1.size);have pf:=relayAll_fits t1 es1 (SetTable.grown es1.size);have pt:=tab.relayAll es1 (SetTable.grown es1.size);generalize relayAll t1 es1 (SetTable.grown es1.size)=Z at pp pf pt ⊢;obtain⟨es2,t2,g2⟩:=Z;dsimp only at pp pf pt ⊢;have sz:es2.size=es1.size:=by rw[<- Xv,pp.length_eq,Xv]
  have mem2:∀ k,S' k=true ↔ ∃ e∈es2.toList,(intKind prog w).is k e.2=true:=fun k=>
   (mem k).trans ⟨fun⟨e,m,z⟩=>⟨e,pp.mem_iff.mpr m,z⟩,fun⟨e,m,z⟩=>⟨e,pp.mem_iff.mp m,z⟩⟩
  refine Xa (hg _ _ _ ?_);refine Xa (wpAny_storeSet_of x1.loc rfl ?_ (fits_of_scanBound (by omega)));have x2:=x1.store (S':=S') (el.perm pp) mem2 (by omega) pf pt;rw[sz] at x2;exact Xb (q _ (same1.trans (Heap.SameBut.update _ a _)) ⟨_,_,_,_,x2⟩)
 ·exact Xb (q _ same1 ⟨_,_,_,_,x1⟩)
theorem jga {k:Int}{Q:Bool->Shared->Prop} (hS:SetX prog w s.heap a S n) (hr:n+1<scanBound)
  (q:∀ h' b,Heap.SameBut a s.heap h'->SetX prog w h' a (fun k'=>S k'||decide (k'=k)) (if S k then n else n+1)->Q b { s with heap:=h' }) :
  wpAny (model prog w) A (setAddHashed a (.int k tk) ((intKind prog w).hash k)) Q E s:=by
 obtain⟨o,es,ep,t,x⟩:=hS;have hk:(intKind prog w).is k (.int k tk)=true:=intKind_is _ _ _ _;have hn:=x.num;unfold setAddHashed setAddHashedIn;refine X2 (Xa (wpAny_setState_of x.loc x.dat x.fit ?_));dsimp only;rw[byScan_of (knd:=intKind prog w) rfl x.bd x.el];simp only[↓reduceIte];unfold setAddByScan;refine Xa (Xa (wpAny_rule (Xa (wpAny_setScan_of hk x.loc x.dat x.fit x.el ?_))));cases e:List.findIdx? (fun e=>(intKind prog w).is k e.2) es.toList with
 | some j=>
  dsimp only;obtain⟨hj,pj,_⟩:=List.findIdx?_eq_some_iff_getElem.mp e;have hSk:S k=true:=(x.mem k).mpr ⟨_,List.getElem_mem hj,pj⟩;refine Xb (Xb ?_);refine q s.heap false (Heap.SameBut.refl a s.heap) ⟨o,es,ep,t,⟨x.loc,x.ex,x.dat,x.el,fun k'=>?_,x.bd,x.fit,by rw[hSk]; exact x.num,x.tab⟩⟩;rw[<- x.mem k',Bool.or_eq_true,Xs];exact⟨fun z=>z.elim id fun z=>z ▸ hSk,.inl⟩
 | none=>
  dsimp only;have hSk:S k=false:=by
   cases z:S k with
   | false=>rfl
   | true=>
    obtain⟨y,my,py⟩:=(x.mem k).mp z;have:=List.findIdx?_eq_none_iff.mp e y my;rw[py] at this; cases this
  have pm:=layNew_perm t es ((intKind prog w).hash k) (.int k tk);have pf:=layNew_fits t es ((intKind prog w).hash k) (.int k tk);have pt:=x.tab.layNew es ((intKind prog w).hash k) (.int k tk);generalize layNew t es ((intKind prog w).hash k) (.int k tk)=Z at pm pf pt ⊢;obtain⟨es1,t1,wd,gv⟩:=Z;dsimp only at pm pf pt ⊢;rw[Array.toList_push] at pm;have sz:es1.size=n+1:=by rw[<- Xv,pm.length_eq,Xj,Xv,hn]; rfl
  have gave:∀ (b:Bool) (s1:Shared) (Z:Unit->Shared->Prop),Z () s1->wpAny (model prog w) A (match b with | true=>rule "set.scan.the-table-gave-way" | false=>pure ()) Z E s1:=
   fun b s1 Z z=>by cases b <;> first | exact Xb z | exact wpAny_rule z
  refine Xa (gave _ _ _ ?_);have fin:∀ h',Heap.SameBut a s.heap h'->SetX prog w h' a (fun k'=>S k'||decide (k'=k)) es1.size->Q true { s with heap:=h' }:=fun h' b1 b2=>by
   refine q h' true b1 ?_;rw[hSk]; rw[sz] at b2; exact b2
  have main:∀ {R:Option Bool->Shared->Prop},(∀ h',Q true { s with heap:=h' }->R (some true) { s with heap:=h' })->_:=fun {R} hR=>
   jeb (s:=s) (wd:=wd) (t1:=t1) (R:=R) gave x ((x.el.push hk rfl).perm pm) (mem_push_iff hk x.mem pm) (by omega) pf pt (fun h' b1 b2=>hR h' (fin h' b1 b2))
  split
  ·refine Xa ?_;rw[hashByValue_scannable 8 rfl];refine Xb ?_;exact main fun h' z=>Xb z
  ·refine Xa (Xb ?_);exact main fun h' z=>Xb z
end
section
variable {R:Result->Shared->Prop}{I:Addr}{wr:List Addr}{G:Array GenState->Array GenState->Prop}{P:Nat->Value->Prop}{St:Nat->Shared->Prop}
theorem jec (W:WalksS prog w A.in1 I fp wr G n P St) (D:Addr) (hD:D∉fp) (val:Nat->Int) (hv:∀ i v,P i v->∃ t,v=.int (val i) t) (hb:n+1<scanBound) :
  ∀ (k i:Nat) (s:Shared),n-i=k->i<=n->St i s->SetX prog w s.heap D (fun z=>(firstMet val i).any (·==z)) (firstMet val i).length ->
   (∀ s',Moved (D::wr) G s s'->SetX prog w s'.heap D (fun z=>(firstMet val n).any (·==z)) (firstMet val n).length->R (.ok (.ret .none)) s') ->
   codeAny (model prog w) A (.builtin "set.update.loop" ⟨[.ref D,.ref I],[]⟩) R s:=by
 have hw:D∉wr:=fun z=>hD (W.sub _ z);have up:∀ b∈wr,b∈D::wr:=fun b hb=>Xf _ hb;intro k
 induction k with
 | zero=>
  intro i s hk hi st hS q;obtain rfl:i=n:=by omega
  refine codeAny_builtin F.entry_set_update_loop ?_;rw[Around.under_plainId F.plain_set_update_loop _];show wpAny _ A.in1 (pyNext (.ref I) >>= _) _ _ s;refine Xa (W.done s _ _ st fun s' hm=>?_);show wpAny _ A.in1 (ret Value.none) _ _ s';exact Xb (q s' (hm.mono up) (hS.keep fun o e=>hm.heap D _ hw e))
 | succ k ih=>
  intro i s hk hi st hS q;have hlt:i<n:=by omega
  refine codeAny_builtin F.entry_set_update_loop ?_;rw[Around.under_plainId F.plain_set_update_loop _];show wpAny _ A.in1 (pyNext (.ref I) >>= _) _ _ s;refine Xa (W.item i s _ _ hlt st fun v s' hP st' hm=>?_);obtain⟨tk,rfl⟩:=hv i v hP;have hS':=hS.keep fun o e=>hm.heap D _ hw e;show wpAny _ A.in1 (holding [Value.int (val i) tk] (setAdd D (.int (val i) tk)) >>= _) _ _ s';refine Xa (X2 ?_);unfold setAdd;refine X2 (Xa ((intKind prog w).pyHash (k:=val i) (intKind_is _ _ _ _) ?_));have room:(firstMet val i).length+1<scanBound:=by have:=firstMet_length_le val i; omega
  refine jga (s:={ s' with toks:=s'.toks+1 }) hS' room fun h' b sb hS2=>?_
  have hS3:=hS2.congr (S':=fun z=>(firstMet val (i+1)).any (·==z)) (n':=(firstMet val (i+1)).length) (fun z=>by rw[firstMet_succ,step_any]) (by rw[firstMet_succ,step_length]);refine Xb ⟨plainId_quiet F.plain_set_update_loop _,ih (i+1) _ (by omega) hlt (W.frame _ s' _ _ st' (wy _) fun b hb o e=>?_) hS3 fun s'' m2 hS4=>?_⟩
  ·rw[sb.2 b (fun z:b=D=>hD (z ▸ hb))]; exact e
  ·refine q s'' (Moved.trans W.gtrans ((hm.mono up).then_heap (wy _) fun b o hb e=>?_) m2) hS4;rw[sb.2 b (fun z:b=D=>hb (z ▸ Xi))]; exact e
end
abbrev yX (w:World):Obj:={ cls:=.type "set",dict:=none,data:=.set #[] 0 (.fresh 0 0 (jcd w)) }
theorem jim (e:h.get? a=some (yX w)):SetX prog w h a (fun _=>false) 0:=
 ⟨yX w,#[],0,.fresh 0 0 (jcd w),{ loc:=e,ex:=⟨rfl,rfl,rfl⟩,dat:=rfl,el:=(fun y hy=>by simp at hy),mem:=(fun k=>by simp),bd:=(by decide),fit:=rfl,num:=rfl,tab:=TabOk.fresh _ }⟩
section
theorem jed (v:Value) (h:Q (.ref s.heap.objs.size) { s with heap:=s.heap.push (yX w) }) :
  codeAny (model prog w) A (.call (.builtin "set.__new__") ⟨[.type "set",v],[]⟩) (wants Q E) s:=by
 refine codeAny_of_tree ?_;show wpAny _ A.in1 (do checkBuiltinCall "set.__new__" ⟨[.type "set",v],[]⟩; again (.builtin "set.__new__" ⟨[.type "set",v],[]⟩)) _ _ s;refine Xa (wpAny_of_eq (F.newCall_set_1 v) (Xb ⟨plainId_quiet F.plain_set_new _,codeAny_builtin F.entry_set_new ?_⟩));rw[Around.under_plainId F.plain_set_new _];unfold Builtin.«set.__new__» Builtin.Frozenset.newClass;have hsub:=sub_set_self;obtain⟨hp,g,d,tk,os⟩:=s;dsimp only
 wp_walk
 refine wpAny_askSetting (Xb ?_);dsimp only;simp only[newObj];refine Xa (wpAny_alloc (Xb ?_));exact Xb h
set_option maxHeartbeats 3200000 in
theorem Zj {l:Addr} (hh:A.handled=none) (hl:s.heap.IsList l items) (hi:IntsAre items.toList ns) (hb:items.size+1<scanBound)
  (h:∀ (h':Heap) (tk:Nat),SetX prog w h' s.heap.objs.size (fun z=>(firstMet (fun i=>ns.getD i 0) items.size).any (·==z)) (firstMet (fun i=>ns.getD i 0) items.size).length ->
   (∀ b o,s.heap.get? b=some o->h'.get? b=some o)->Q (.ref s.heap.objs.size) { s with heap:=h',toks:=tk }) :
  wpAny (model prog w) A (call (.type "set") [.ref l]) Q E s:=by
 obtain⟨c,tl,hmro⟩:=F.called_set.mro;have hmade:=F.called_set.made;have hsub:=F.called_set.sub;refine wpAny_call (codeAny_of_tree ?_);show wpAny _ _ (callAny (.type "set") _) _ _ _;refine Xb ⟨Code.quiet_builtin _ (by decide +kernel),codeAny_builtin F.entry_type_call ?_⟩;rw[Around.under_plain (weight_type_call_type "set" [.ref l] []) rfl];have h1:=F.called_set.notType;have h2:=F.called_set.canCreate;have hct:=F.typeCall_set_1 (.ref l)
 repeat (any_goals (first | assumption | wp_step))
 refine codeAny_mono (jed (.ref l) (E:=E) (Q:=fun obj s₁=>obj=.ref s.heap.objs.size/\s₁={ s with heap:=s.heap.push (yX w) }) ⟨rfl,rfl⟩) fun r s₁ hr=>?_
 cases r with
 | error e=>exact hr
 | ok fl=>
  cases fl with
  | next=>exact (show False from hr).elim
  | brk=>exact (show False from hr).elim
  | cont=>exact (show False from hr).elim
  | ret obj=>
   obtain⟨rfl,rfl⟩:=hr;have hS:(s.heap.push (yX w)).get? s.heap.objs.size=some (yX w):=Xn _ rfl;have hT:Shared.TypeIs { s with heap:=s.heap.push (yX w) } (.ref s.heap.objs.size) "set":=⟨_,hS,rfl⟩
   have hli:=F.called_set.init.lookup;have hbi:=F.called_set.init.bind (.ref s.heap.objs.size)
   repeat (any_goals (first | assumption | wp_step))
   refine codeAny_mono (codeAny_call_builtin (R:=wants (fun r s₂=>r=.none/\∃ h' tk,s₂={ s with heap:=h',toks:=tk } /\
     SetX prog w h' s.heap.objs.size (fun z=>(firstMet (fun i=>ns.getD i 0) items.size).any (·==z)) (firstMet (fun i=>ns.getD i 0) items.size).length /\
     (∀ b o,s.heap.get? b=some o->h'.get? b=some o)) E) F.called_set.init.plain F.entry_set_init (check_set_init_1 hT ?_)) fun r₂ s₂ hr₂=>?_
   ·obtain⟨ol,hol,hcl,nl,hdl⟩:=hl;obtain⟨ocls,odict,odata,oslots⟩:=ol;simp only at hcl hdl;subst hcl; subst hdl;have hol':(s.heap.push (yX w)).get? l=some { cls:=.type "list",dict:=odict,data:=.seq items nl,slots:=oslots }:=Xc _ hol;have hsls:=F.sub_list_set;have hslf:=F.sub_list_frozenset;have hne:(Value.type "list"==Value.type "dict")=false:=by decide
    have hl1:(s.heap.push (yX w)).IsList l items:=⟨_,hol',rfl,nl,rfl⟩;unfold Builtin.«set.__init__» noKeywords Builtin.Frozenset.updateFrom;generalize hPI:pyIter=PI
    wp_walk
    subst hPI;refine wpAny_pyIter_list hl1 ?_;refine Xa (wpAny_runValue ?_);have hlS:l<s.heap.objs.size:=Xo hol;have hh3:A.in1.in1.in1.handled=none:=by simp[hh]
    have hneI:l≠(s.heap.push (yX w)).objs.size:=by
     rw[wf]; exact XA (wK hlS)
    have hSf:s.heap.objs.size∉[(s.heap.push (yX w)).objs.size,l]:=by
     rw[wf]; simp only[Xk,XQ,List.not_mem_nil,or_false,not_or];exact⟨XA (Nat.lt_succ_self _),wQ hlS⟩
    have hval:∀ (i:Nat) (v:Value),items[i]?=some v->∃ t,v=.int ((fun i=>ns.getD i 0) i) t:=fun i v hv=>
     IntsAre.int_at hi i v (by rw[Array.getElem?_toList]; exact hv)
    refine jec ((Walks.list hh3 _ l hneI items).toS) s.heap.objs.size hSf (fun i=>ns.getD i 0) hval hb (items.size-0) 0 _ (by omega) (wH _)
     ⟨⟨_,Xn _ rfl,rfl,rfl⟩,(hl1.push _)⟩ ?hS0 ?hR
    case hS0=>exact jim (Xc _ hS)
    case hR=>
     intro s' hm hS';obtain⟨h',g',d',tk',os'⟩:=s';have eg:g'=s.gens:=hm.gens;have ed:d'=s.drawn:=hm.drawn;have eo:os'=s.os:=hm.os;subst eg; subst ed; subst eo;show wpAny _ _ _ _ _ _;refine Xb ?_;show wpAny _ _ (ret Value.none) _ _ _;refine Xb ⟨rfl,h',tk',rfl,hS',fun b o e=>?_⟩;have lt:=Xo e;refine hm.heap b o ?_ (Xc _ (Xc _ e));rw[wf];simp only[Xk,List.not_mem_nil,or_false,not_or];exact⟨XA lt,XA (wK lt)⟩
   ·cases r₂ with
    | error e=>exact hr₂
    | ok fl₂=>
     cases fl₂ with
     | next=>exact (show False from hr₂).elim
     | brk=>exact (show False from hr₂).elim
     | cont=>exact (show False from hr₂).elim
     | ret r=>
      obtain⟨rfl,h',tk,rfl,hS',hk'⟩:=hr₂
      repeat (any_goals (first | assumption | wp_step))
      exact h _ _ hS' hk'
end
section
theorem QT:∀ {l:List α}{i:Nat} (h:i<l.length),(l[i]::l.eraseIdx i).Perm l
 | y::l,0,h=>List.Perm.refl _
 | y::l,i+1,h=>by
  rw[List.getElem_cons_succ,List.eraseIdx_cons_succ];exact(List.Perm.swap _ _ _).trans (List.Perm.cons _ (QT (Nat.lt_of_succ_lt_succ h)))
theorem Zk (next:Nat->Nat):∀ (f k:Nat) (left:List α) (out:Array α),left.length<=f->(pickOrder.go next f k left out).toList.Perm (out.toList++left)
 | 0,k,left,out,h=>by
  have e:left=[]:=List.length_eq_zero_iff.mp (Nat.le_zero.mp h);subst e;unfold pickOrder.go;rw[wM]
 | f+1,k,left,out,h=>by
  unfold pickOrder.go;cases left with
  | nil=>simp
  | cons y l=>
   have hi:next k % (y::l).length<(y::l).length:=Nat.mod_lt _ (Nat.succ_pos _);rw[Xe hi];dsimp only;refine(Zk next f (k+1) _ _ (by rw[List.length_eraseIdx_of_lt hi]; omega)).trans ?_;rw[Array.toList_push,List.append_assoc];exact List.Perm.append_left _ (QT hi)
theorem VV (next:Nat->Nat) (xs:Array α):(pickOrder next xs).toList.Perm xs.toList:=by
 unfold pickOrder;simpa using Zk next xs.size 0 xs.toList #[] (by simp)
end
section
theorem Zl {src:Source}{m:Nat}{Q:Nat->Shared->Prop} (hm:m≠0) (q:∀ i d,i<m->Q i { s with drawn:=d }):wpAny M A (choose src m) Q E s:=fun Γ p h=>by
 unfold choose;rw[Sem.wp_choose];exact⟨hm,q _ _ (Nat.mod_lt _ (Nat.pos_of_ne_zero hm))⟩
theorem G1:∀ (n:Nat) (xs:List α) {s:Shared}{Q:List α->Shared->Prop},xs.length=n->(∀ ys d,ys.Perm xs->Q ys { s with drawn:=d })->wpAny M A (drawOrder n xs) Q E s
 | 0,xs,s,Q,h,q=>by
  have e:xs=[]:=List.length_eq_zero_iff.mp h;subst e;exact Xb (q [] s.drawn (List.Perm.refl _))
 | n+1,[],s,Q,h,q=>by cases h
 | n+1,y::l,s,Q,h,q=>by
  unfold drawOrder;refine Xa (Zl (by rw[Xm]; omega) fun i d hi=>?_);rw[Xe hi];dsimp only;refine Xa (G1 n _ (by rw[List.length_eraseIdx_of_lt hi]; omega) fun ys d' hp=>?_);refine Xb (q _ d' ?_);exact(List.Perm.cons _ hp).trans (QT hi)
end
section
variable {es:Array (Int×Value)}{t:SetTable}
theorem JA {Q:Bool->Shared->Prop} (h:Q (w.params.followText "set-order") s):wpAny (model prog w) A setsByText Q E s:=by
 unfold setsByText;exact Xa (wpAny_askSetting (Xb h))
theorem Zm {Q:Option (Value×Nat)->Shared->Prop} (x:SetT prog w s.heap a S n o es ep t) (ht:w.params.followText "set-order"=true) {f:Nat}
  (q:Q (((pickOrder (w.params.setOrder a ep) es)[g]?).map fun e=>(e.2,f)) s):wpAny (model prog w) A (setNext a f g ep) Q E s:=by
 unfold setNext;refine Xa (wpAny_setState_of x.loc x.dat x.fit ?_);dsimp only;refine Xa (JA ?_);rw[ht];simp only[if_true,bne_self_eq_false,XI,wD];unfold setWalk;refine Xa (Xa (wpAny_setState_of x.loc x.dat x.fit ?_));dsimp only;refine Xa (JA ?_);rw[ht];simp only[if_true];refine Xa (wpAny_askSetting (Xb (Xb q)))
theorem Wl {Q:Option (Value×Nat)->Shared->Prop} (x:SetT prog w s.heap a S n o es ep t) (ht:w.params.followText "set-order"=false) (nd:(!t.plain&&decide (es.size > 1))=false) {f:Nat}
  (q:Q (match es[SetTable.below t.place f]?,t.place[SetTable.below t.place f]? with | some (_,v),some j=>some (v,j+1) | _,_=>none) s):wpAny (model prog w) A (setNext a f g ep) Q E s:=by
 have led:t.led=true:=by rw[x.tab.1]; unfold jcd; rw[ht]; rfl
 unfold setNext;refine Xa (wpAny_setState_of x.loc x.dat x.fit ?_);dsimp only;refine Xa (JA ?_);rw[ht];simp only[XI,wD];split
 ·rename_i z
  exact absurd (show (!t.plain&&decide (es.size > 1))=true from z) (by rw[nd]; decide)
 ·refine Xa ?_;show wpAny _ _ (if (!t.led&&!es.isEmpty)=true then unsupported "set:maker-not-led" else pure ()) _ _ _;rw[led];simp only[XE,Bool.false_and,XI,wD];exact Xb (Xb q)
inductive Mode (w:World) (a:Addr) (es:Array (Int×Value)) (ep:Nat) (t:SetTable) (tp:Addr) (h:Heap) (ws:List Value) (i:Nat) (first:Value):Prop where
 | text (ht:w.params.followText "set-order"=true) (f:Nat) (e:first=.int f 0) (ew:ws=(pickOrder (w.params.setOrder a ep) es).toList.map (·.2))
 | plain (ht:w.params.followText "set-order"=false) (nd:(!t.plain&&decide (es.size > 1))=false) (up:Up t.place) (f:Nat) (e:first=.int f 0) (ef:SetTable.below t.place f=i) (ew:ws=es.toList.map (·.2))
 | drawn (ps:List Nat) (e:first=.ref tp) (ot:Obj) (nt:Nat) (et:h.get? tp=some ot) (ed:ot.data=.seq (ps.map fun (i:Nat)=>rawInt i).toArray nt) (pp:ps.Perm (List.range es.size)) (ew:ws=ps.map fun p=>(es.getD p (0,.none)).2)
theorem Mode.perm (m:Mode w a es ep t tp h ws i first):ws.Perm (es.toList.map (·.2)):=by
 cases m with
 | text ht f e ew=>rw[ew]; exact (VV _ _).map _
 | plain ht nd up f e ef ew=>rw[ew]
 | drawn ps e ot nt et ed pp ew=>
  rw[ew];refine(pp.map _).trans ?_;have q:((List.range es.size).map fun p=>(es.getD p (0,.none)).2)=es.toList.map (·.2):=by
   refine List.ext_getElem (by simp) fun i h1 h2=>?_;simp at h1;simp[Array.getD,h1]
  rw[q]
theorem Mode.keep (m:Mode w a es ep t tp h ws i first) (k:∀ o,h.get? tp=some o->h'.get? tp=some o):Mode w a es ep t tp h' ws i first:=by
 cases m with
 | text ht f e ew=>exact .text ht f e ew
 | plain ht nd up f e ef ew=>exact .plain ht nd up f e ef ew
 | drawn ps e ot nt et ed pp ew=>exact .drawn ps e ot nt (k _ et) ed pp ew
theorem slot_seti_next:Slot "set_iterator" "__next__" "set_iterator.__next__":=
 .of (owner:="set_iterator") (n:="__next__") (by rw[typeLookup_type,builtinLookup_eq_fast]; kernel_rfl) (by decide +kernel) (by decide +kernel) (by decide +kernel)
  (by first | exact .inl (by decide +kernel) | exact .inr (by decide +kernel)) (by rw[isSubtype_type]; kernel_rfl)
theorem G2:entryFor table "set_iterator.__next__"=some Builtin.«set_iterator.__next__»:=entryFor_of_tree (by kernel_rfl)
theorem JI (v:Value):argsOk "set_iterator.__next__" ⟨[v],[]⟩:=by unfold argsOk; kernel_rfl
theorem JJ:Slot "set_iterator" "__iter__" "set_iterator.__iter__":=
 .of (owner:="set_iterator") (n:="__iter__") (by rw[typeLookup_type,builtinLookup_eq_fast]; kernel_rfl) (by decide +kernel) (by decide +kernel) (by decide +kernel)
  (by first | exact .inl (by decide +kernel) | exact .inr (by decide +kernel)) (by rw[isSubtype_type]; kernel_rfl)
theorem Vb:entryFor table "set_iterator.__iter__"=some Builtin.«dict_keyiterator.__iter__»:=
 entryFor_alias (id':="dict_keyiterator.__iter__") (by kernel_rfl) rfl (by decide +kernel) (by kernel_rfl)
theorem VW (v:Value):argsOk "set_iterator.__iter__" ⟨[v],[]⟩:=by unfold argsOk; kernel_rfl
structure Wk (prog:Program) (w:World) (a:Addr) (S:Int->Bool) (n:Nat) (o:Obj) (es:Array (Int×Value)) (ep:Nat) (t:SetTable) (it tp:Addr) (ws:List Value) (i:Nat) (s:Shared):Prop where
 set:SetT prog w s.heap a S n o es ep t
 itr:∃ first oi,s.heap.get? it=some oi/\oi.cls=.type "set_iterator"/\oi.data=.fields #[first,.int i 0,.ref a,.int n 0,.int ep 0]/\Mode w a es ep t tp s.heap ws i first
theorem Wk.typeIs (x:Wk prog w a S n o es ep t it tp ws i s):s.TypeIs (.ref it) "set_iterator":=by
 obtain⟨f,oi,e,c,_⟩:=x.itr;exact⟨oi,e,c⟩
theorem Mode.len (m:Mode w a es ep t tp h ws i first):ws.length=es.size:=by
 rw[m.perm.length_eq,Xr,Xv]
theorem jin {Q:Option Value->Shared->Prop} (hne:it≠a) (hnt:it≠tp) (x:Wk prog w a S n o es ep t it tp ws i s) (hv:ws[i]?=some v)
  (q:∀ h',Wk prog w a S n o es ep t it tp ws (i+1) { s with heap:=h' }->(∀ b o,b≠it->s.heap.get? b=some o->h'.get? b=some o)->Q (some v) { s with heap:=h' }) :
  wpAny (model prog w) A (pyNext (.ref it)) Q E s:=by
 obtain⟨xs,first,oi,ho,hc,hd,m⟩:=x;have hT:s.TypeIs (.ref it) "set_iterator":=⟨oi,ho,hc⟩;have hlt:i<es.size:=by
  have:=m.len;obtain⟨z,_⟩:=List.getElem?_eq_some_iff.mp hv;omega
 have num:=xs.num;unfold pyNext;refine Xa (wpAny_attempt (wpAny_callSpecial?_slot (name:=Str.ofString "__next__") hT slot_seti_next (wx slot_seti_next hT G2 ?_ (JI _))));show wpAny _ _ (fieldsOf (.ref it) >>= _) _ _ s;refine Xa (wpAny_fieldsOf ho hd ?_);show wpAny _ _ (setEntries a >>= _) _ _ s;refine Xa (wpAny_setEntries_of xs.loc xs.dat xs.fit ?_);rw[num];simp only[bne_self_eq_false,XI,wD];have keep:∀ {h':Heap},(∀ b o,b≠it->s.heap.get? b=some o->h'.get? b=some o)->SetT prog w h' a S n o es ep t:=fun k=>{ xs with loc:=k _ _ (Ne.symm hne) xs.loc }
 have sb:∀ g:Obj->Obj,∀ b o,b≠it->s.heap.get? b=some o->(s.heap.update it g).get? b=some o:=fun g b o hb e=>(XH _ _ (Ne.symm hb)).trans e;have put2:∀ (f:Nat) (E':Value->Shared->Prop),(∀ h',(∀ b o,b≠it->s.heap.get? b=some o->h'.get? b=some o)->Mode w a es ep t tp h' ws (i+1) (.int f 0)) ->
   wpAny (model prog w) A.in1 (do
    setField (.ref it) 0 (rawInt f)
    setField (.ref it) 1 (rawInt ((i:Int)+1))
    ret v) (fun fin s'=>∃ v,fin=Fin.done (Flow.ret v)/\wpAny (model prog w) A (pure (some v)) Q E s') E' s:=by
  intro f E' hm;refine Xa (wpAny_setField ho hd (by simp) ?_);have ho1:=XZ (Obj.mapFields (·.setIfInBounds 0 (rawInt f))) ho (wX (we hd _));have hd1:=we hd (·.setIfInBounds 0 (rawInt f));refine Xa (wpAny_setField ho1 hd1 (by simp) (Xb ⟨_,rfl,Xb ?_⟩));have ho2:=XZ (Obj.mapFields (·.setIfInBounds 1 (rawInt ((i:Int)+1)))) ho1 (wX (we hd1 _));have hd2:=we hd1 (·.setIfInBounds 1 (rawInt ((i:Int)+1)));have kk:∀ b o,b≠it->s.heap.get? b=some o->((s.heap.update it (Obj.mapFields (·.setIfInBounds 0 (rawInt f)))).update it (Obj.mapFields (·.setIfInBounds 1 (rawInt ((i:Int)+1))))).get? b=some o:=
   fun b o hb e=>(XH _ _ (Ne.symm hb)).trans (sb _ b o hb e)
  refine q _ ⟨keep kk,.int f 0,_,ho2,((Obj.cls_mapFields ..).trans (Obj.cls_mapFields ..)).trans hc,?_,hm _ kk⟩ kk;rw[hd2];simp[rawInt]
 cases m with
 | text ht f e ew=>
  subst e;show wpAny _ _ (setNext a f i ep >>= _) _ _ _;refine Xa (Zm xs ht ?_);have e2:(pickOrder (w.params.setOrder a ep) es)[i]?.map (·.2)=some v:=by
   rw[ew,Xy,Array.getElem?_toList] at hv;exact hv
  obtain⟨y,ey,rfl⟩:=Option.map_eq_some_iff.mp e2;rw[ey];exact put2 f _ fun h' _=>.text ht f rfl ew
 | plain ht nd up f e ef ew=>
  subst e;show wpAny _ _ (setNext a f i ep >>= _) _ _ _;refine Xa (Wl xs ht nd ?_);have pz:t.place.size=es.size:=by
   have:=xs.fit;simp only[SetTable.fits,XB,wj] at this;exact this.1
  have e2:es[i]?.map (·.2)=some v:=by
   rw[ew,Xy,Array.getElem?_toList] at hv;exact hv
  obtain⟨y,ey,rfl⟩:=Option.map_eq_some_iff.mp e2;have ep':t.place[i]?=some (t.place[i]'(by omega)):=wc (by omega);rw[ef,ey,ep'];exact put2 _ _ fun h' _=>.plain ht nd up _ rfl (jcc up ep') ew
 | drawn ps e ot nt et ed pp ew=>
  subst e;show wpAny _ _ (seqItems? (.ref tp) >>= _) _ _ _;refine Xa (wpAny_seqItems et ed ?_);rw[ew,Xy] at hv;obtain⟨p,epp,rfl⟩:=Option.map_eq_some_iff.mp hv;have hp:p<es.size:=by
   have:=pp.mem_iff.mp (XG epp);simpa using this
  have e3:(ps.map fun (i:Nat)=>rawInt i).toArray[i]?=some (.int p 0):=by
   rw[List.getElem?_toArray,Xy,epp]; rfl
  simp only[kb,e3];show wpAny _ _ (setNextDrawn a p ep >>= _) _ _ _;unfold setNextDrawn;refine Xa (Xa (wpAny_setState_of xs.loc xs.dat xs.fit ?_));dsimp only;simp only[bne_self_eq_false,XI,wD];rw[wc hp];refine Xb ?_;refine Xa (wpAny_setField ho hd (by simp) (Xb ⟨_,rfl,Xb ?_⟩));have ho1:=XZ (Obj.mapFields (·.setIfInBounds 1 (rawInt ((i:Int)+1)))) ho (wX (we hd _));have hd1:=we hd (·.setIfInBounds 1 (rawInt ((i:Int)+1)));have ev:(es.getD p (0,.none)).2=es[p].2:=by simp[Array.getD,hp]
  show Q (some es[p].2) _;rw[<- ev];refine q _ ⟨keep (sb _),.ref tp,_,ho1,(Obj.cls_mapFields ..).trans hc,?_,.drawn ps rfl ot nt (sb _ _ _ (Ne.symm hnt) et) ed pp ew⟩ (sb _);rw[hd1];simp[rawInt]
theorem Zn {Q:Option Value->Shared->Prop} (hh:A.handled=none) (q:∀ h',(∀ b o,h1.get? b=some o->h'.get? b=some o)->Q none { s with heap:=h' }) :
  wpAny (model prog w) A.in1 (do
   let x <- newExc (Value.type "StopIteration") []
   raiseNew x:Sem Fin) (fun fin s'=>∃ v,fin=Fin.done (Flow.ret v)/\wpAny (model prog w) A (pure (some v)) Q E s')
   (fun e s'=>wpAny (model prog w) A (do
     let b <- isInstance e (Value.type "StopIteration")
     if b=true then pure none else throw e) Q E s') { s with heap:=h1 }:=by
 refine Xa ?_;simp only[newExc,newTuple];refine Xa (wq ?_ (by size_fits));refine Xa (m:=firstArgMember _ _) (wpAny_of_eq (a:=Value.none) (by first | rfl | (simp only[firstArgMember]; rfl)) ?_)
 refine wq ?_ (by size_fits);simp only[raiseNew];refine Xa (wpAny_handled ?_);rw[show A.in1.handled=none from hh];refine Xa (Xb (wpAny_throw ?_));refine Xa (wpAny_isInstance (T:="StopIteration") (b:=true) ⟨_,Xn _ rfl,rfl⟩ isSubtype_stop ?_);exact Xb (q _ fun b o e=>Xc _ (Xc _ e))
theorem jio {Q:Option Value->Shared->Prop} (hh:A.handled=none) (x:Wk prog w a S n o es ep t it tp ws i s) (hi:i=n)
    (q:∀ h',(∀ b o,b≠it->s.heap.get? b=some o->h'.get? b=some o)->Q none { s with heap:=h' }) :
    wpAny (model prog w) A (pyNext (.ref it)) Q E s:=by
  obtain⟨xs,first,oi,ho,hc,hd,m⟩:=x;have hT:s.TypeIs (.ref it) "set_iterator":=⟨oi,ho,hc⟩;have num:=xs.num;have hl:=m.len;unfold pyNext;refine Xa (wpAny_attempt (wpAny_callSpecial?_slot (name:=Str.ofString "__next__") hT slot_seti_next (wx slot_seti_next hT G2 ?_ (JI _))));show wpAny _ _ (fieldsOf (.ref it) >>= _) _ _ s;refine Xa (wpAny_fieldsOf ho hd ?_);show wpAny _ _ (setEntries a >>= _) _ _ s;refine Xa (wpAny_setEntries_of xs.loc xs.dat xs.fit ?_);rw[num];simp only[bne_self_eq_false,XI,wD];have sb:∀ g:Obj->Obj,∀ b o,b≠it->s.heap.get? b=some o->(s.heap.update it g).get? b=some o:=fun g b o hb e=>(XH _ _ (Ne.symm hb)).trans e;have put:wpAny (model prog w) A.in1 (do
        setField (.ref it) 2 Value.none
        let x <- newExc (Value.type "StopIteration") []
        raiseNew x:Sem Fin) (fun fin s'=>∃ v,fin=Fin.done (Flow.ret v)/\wpAny (model prog w) A (pure (some v)) Q E s')
      (fun e s'=>wpAny (model prog w) A (do
          let b <- isInstance e (Value.type "StopIteration")
          if b=true then pure none else throw e) Q E s') s:=by
    refine Xa (wpAny_setField ho hd (by simp) ?_);exact Zn (s:=s) hh fun h' k=>q h' fun b o hb e=>k _ _ (sb _ b o hb e)
  cases m with
  | text ht f e ew=>
    subst e;show wpAny _ _ (setNext a f i ep >>= _) _ _ _;refine Xa (Zm xs ht ?_);have e2:(pickOrder (w.params.setOrder a ep) es)[i]?=none:=by
      rw[ew,Xr,Xv] at hl;exact Array.getElem?_eq_none (by omega)
    rw[e2];exact put
  | plain ht nd up f e ef ew=>
    subst e;show wpAny _ _ (setNext a f i ep >>= _) _ _ _;refine Xa (Wl xs ht nd ?_);have e2:es[i]?=none:=Array.getElem?_eq_none (by omega);rw[ef,e2];exact put
  | drawn ps e ot nt et ed pp ew=>
    subst e;show wpAny _ _ (seqItems? (.ref tp) >>= _) _ _ _;refine Xa (wpAny_seqItems et ed ?_);have hl2:=pp.length_eq;rw[XJ] at hl2;have e3:(ps.map fun (i:Nat)=>rawInt i).toArray[i]?=none:=Array.getElem?_eq_none (by simp; omega);simp only[kb,e3];refine Xa (wpAny_setField ho hd (by simp) ?_);have ho1:=XZ (Obj.mapFields (·.setIfInBounds 0 (rawInt 0))) ho (wX (we hd _));have hd1:=we hd (·.setIfInBounds 0 (rawInt 0));refine Xa (wpAny_setField ho1 hd1 (by simp) ?_);exact Zn (s:=s) hh fun h' k=>q h' fun b o hb e=>k _ _ ((XH _ _ (Ne.symm hb)).trans (sb _ b o hb e))
theorem jip (x:Wk prog w a S n o es ep t it tp ws i s) (q:Q (.ref it) s):wpAny (model prog w) A (pyIter (.ref it)) Q E s:=by
 refine wpAny_pyIter_slot x.typeIs JJ (wx JJ x.typeIs Vb ?_ (VW _));show wpAny _ _ (ret (.ref it)) _ _ s;exact Xb ⟨_,rfl,"set_iterator",_,x.typeIs,slot_seti_next.lookup,q⟩
theorem jgb (hh:A.handled=none) (hne:it≠a) (hnt:it≠tp) (hl:ws.length=n) :
  WalksS prog w A it [it,a,tp] [it] (fun x y=>y=x) n (fun i v=>ws[i]?=some v) (fun i s=>Wk prog w a S n o es ep t it tp ws i s) where
 sub:=fun b hb=>by simp at hb; simp[hb]
 grefl:=fun _=>rfl
 gtrans:=fun _ _ _ h1 h2=>h2.trans h1
 frame:=fun i s h' tk x _ k=>by
  obtain⟨xs,first,oi,ho,hc,hd,m⟩:=x;exact⟨{ xs with loc:=k a (by simp) _ xs.loc },first,oi,k it (by simp) _ ho,hc,hd,m.keep fun o e=>k tp (by simp) _ e⟩
 item:=fun i s Q E hi x q=>by
  have e:ws[i]?=some (ws[i]'(by omega)):=Xe (by omega);exact jin hne hnt x e fun h' x' k=>q _ _ e x' ⟨fun b o hb z=>k b o (fun y=>hb (by simp[y])) z,rfl,rfl,rfl,Xh _⟩
 done:=fun s Q E x q=>jio hh x rfl fun h' k=>q _ ⟨fun b o hb z=>k b o (fun y=>hb (by simp[y])) z,rfl,rfl,rfl,Xh _⟩
 self:=fun i s Q E x q=>jip x q
end
section
variable {es:Array (Int×Value)}{t:SetTable}
theorem Vc:Slot "set" "__iter__" "set.__iter__":=
 .of (owner:="set") (n:="__iter__") (by rw[typeLookup_type,builtinLookup_eq_fast]; kernel_rfl) (by decide +kernel) (by decide +kernel) (by decide +kernel)
  (by first | exact .inl (by decide +kernel) | exact .inr (by decide +kernel)) (by rw[isSubtype_type]; kernel_rfl)
theorem Zo:entryFor table "set.__iter__"=some Builtin.«frozenset.__iter__»:=
 entryFor_alias (id':="frozenset.__iter__") (by kernel_rfl) rfl (by decide +kernel) (by kernel_rfl)
theorem jav (v:Value):argsOk "set.__iter__" ⟨[v],[]⟩:=by unfold argsOk; kernel_rfl
theorem jce:typeLookup (.type "set") "__len__"=pure (some (.builtin "set.__len__")):=by rw[typeLookup_type,builtinLookup_eq_fast]; kernel_rfl
theorem SetT.typeIs (x:SetT prog w s.heap a S n o es ep t):s.TypeIs (.ref a) "set":=⟨o,x.loc,x.ex.1⟩
theorem jgc {Q:Bool->Shared->Prop} (hT:s.TypeIs (.ref a) "set") (h:Q false s):wpAny (model prog w) A (Builtin.List.listLengthHint (.ref a)) Q E s:=by
 unfold Builtin.List.listLengthHint;refine Xa (wpAny_specialOf hT jce ?_);generalize hid:("set.__len__":String)=id0
 wp_delta
 rw[show splitId id0=some ("set","__len__") from by subst hid; decide +kernel];subst hid;refine Xa (wpAny_isInstance (T:="set") (b:=true) hT (by rw[isSubtype_type]; kernel_rfl) ?_);refine wpAny_ite_split (fun hab=>absurd hab (by decide)) (fun _=>?_);refine wpAny_ite_split (fun _=>?_) (fun hab=>absurd (by decide +kernel) hab);refine Xa (wpAny_typeOf hT ?_);exact Xb h
theorem jgd {xs:Array Nat} (h:xs.size<=1):Up xs:=by
 unfold Up;obtain⟨l⟩:=xs
 match l,h with
 | [],_=>exact List.Pairwise.nil
 | [_],_=>exact List.pairwise_singleton _ _
 | _::_::_,h=>simp at h
theorem jge (x:SetT prog w s.heap a S n o es ep t)
  (q:∀ it tp ws h' d,Wk prog w a S n o es ep t it tp ws 0 { s with heap:=h',drawn:=d }->(∀ b o,s.heap.get? b=some o->h'.get? b=some o)->s.heap.objs.size<=it->it≠tp->(tp=a \/ s.heap.objs.size<=tp)->Q (.ref it) { s with heap:=h',drawn:=d }) :
  wpAny (model prog w) A (pyIter (.ref a)) Q E s:=by
 refine wpAny_pyIter_slot x.typeIs Vc (wx Vc x.typeIs Zo ?_ (jav _));have num:=x.num;have hlt:=Xo x.loc;unfold Builtin.«frozenset.__iter__»;refine Xa (Xb ?_);refine Xa ?_;unfold Builtin.Frozenset.sizeOf;refine Xa (wpAny_setEntries_of x.loc x.dat x.fit (Xb ?_));refine Xa ?_;unfold setDrawn;refine Xa (wpAny_setState_of x.loc x.dat x.fit ?_);dsimp only;refine Xa (JA (Xb ?_));have fin0:∀ first,Mode w a es ep t a (s.heap.push { cls:=.type "set_iterator",data:=.fields #[first,.int 0 0,.ref a,.int n 0,.int ep 0] }) (es.toList.map (·.2)) 0 first \/ (∃ ws,Mode w a es ep t a (s.heap.push { cls:=.type "set_iterator",data:=.fields #[first,.int 0 0,.ref a,.int n 0,.int ep 0] }) ws 0 first) ->
   wpAny (model prog w) A.in1 (do
    let e <- setEpoch a
    let r <- newFields "set_iterator" [first,rawInt 0,.ref a,rawInt es.size,rawInt e]
    ret r:Sem Fin) (fun fin s'=>∃ v,fin=Fin.done (Flow.ret v)/\∃ T' r,s'.TypeIs v T'/\typeLookup (.type T') "__next__"=pure (some r)/\Q v s') E s:=by
  intro first hm;obtain⟨ws,hm⟩:∃ ws,Mode w a es ep t a (s.heap.push { cls:=.type "set_iterator",data:=.fields #[first,.int 0 0,.ref a,.int n 0,.int ep 0] }) ws 0 first:=by
   rcases hm with hm | hm
   ·exact⟨_,hm⟩
   ·exact hm
  refine Xa (wpAny_setEpoch_of x.loc x.dat x.fit ?_);rw[num];refine Xa (wq (Xb ⟨_,rfl,"set_iterator",_,⟨_,Xn _ rfl,rfl⟩,slot_seti_next.lookup,?_⟩));refine q _ a ws _ s.drawn ⟨{ x with loc:=Xc _ x.loc },first,_,Xn _ rfl,rfl,rfl,hm⟩ (fun b o e=>Xc _ e) (Xh _) (wQ hlt) (.inl rfl)
 cases ht:w.params.followText "set-order" with
 | true=>
  simp only[XE,Bool.false_and,XI,wD];refine Xa (Xb ?_);exact fin0 (.int 0 0) (.inr ⟨_,.text ht 0 rfl rfl⟩)
 | false=>
  cases hd:(!t.plain&&decide (es.size > 1)) with
  | false=>
   refine wpAny_ite_split (fun z=>absurd (show (!false&&(!t.plain&&decide (es.size > 1)))=true from z) (by rw[hd]; decide)) fun _=>?_;refine Xa (Xb ?_);have pz:t.place.size=es.size:=by
    have:=x.fit;simp only[SetTable.fits,XB,wj] at this;exact this.1
   have up:Up t.place:=by
    cases hp:t.plain with
    | true=>exact x.tab.2 hp
    | false=>
     rw[hp] at hd;simp at hd;exact jgd (by omega)
   exact fin0 (.int 0 0) (.inr ⟨_,.plain ht hd up 0 rfl (jau up) rfl⟩)
  | true=>
   refine wpAny_ite_split (fun _=>?_) fun z=>absurd (show (!false&&(!t.plain&&decide (es.size > 1)))=true from by rw[hd]; decide) z;refine Xa (G1 es.size _ XJ fun ps d hp=>?_);refine Xa (wpAny_newTuple ?_ (by rw[Xr,hp.length_eq,XJ]; exact fits_of_scanBound x.bd));refine Xa (wpAny_setEpoch_of (Xc _ x.loc) x.dat x.fit ?_);rw[num];refine Xa (wq (Xb ⟨_,rfl,"set_iterator",_,⟨_,Xn _ rfl,rfl⟩,slot_seti_next.lookup,?_⟩));refine q _ s.heap.objs.size _ _ d ⟨{ x with loc:=Xc _ (Xc _ x.loc) },.ref s.heap.objs.size,_,Xn _ rfl,rfl,rfl,.drawn ps rfl _ _ (Xc _ (Xn _ rfl)) rfl hp rfl⟩
    (fun b o e=>Xc _ (Xc _ e)) ?_ ?_ (.inr (Xh _))
   ·rw[wf]; exact wy _
   ·rw[wf]; exact Nat.succ_ne_self _
theorem jaw {Q:List Value->Shared->Prop} (hh:A.handled=none) (x:SetT prog w s.heap a S n o es ep t)
  (q:∀ ws h' d tk,ws.Perm (es.toList.map (·.2))->(∀ b o,s.heap.get? b=some o->h'.get? b=some o)->s.heap.objs.size<=h'.objs.size->Q ws { s with heap:=h',drawn:=d,toks:=tk }):wpAny (model prog w) A (collect (.ref a)) Q E s:=by
 have num:=x.num;have hn:n<=sizeLine:=by rw[<- num]; exact fits_of_scanBound x.bd
 have hlt:=Xo x.loc;unfold collect;refine Xa (wpAny_runValue (codeAny_builtin F.entry_proto_collect ?_));rw[Around.under_plainId F.plain_proto_collect _];show wpAny _ A.in1 (newList [] >>= fun l=>again (.builtin "list.__iadd__" ⟨[l,.ref a],[]⟩)) _ _ s;refine Xa (wq ?_);refine Xb ⟨plainId_quiet F.plain_list_iadd _,codeAny_builtin F.entry_list_iadd ?_⟩;rw[Around.under_plainId F.plain_list_iadd _];show wpAny _ A.in1 (Builtin.List.listExtendWith (.ref s.heap.objs.size) (.ref a) (.ref s.heap.objs.size)) _ _ _;have oth0:∀ b o,s.heap.get? b=some o->(s.heap.push { cls:=.type "list",data:=.seq ([]:List Value).toArray }).get? b=some o:=fun b o e=>Xc _ e;have hL:(s.heap.push { cls:=.type "list",data:=.seq ([]:List Value).toArray }).get? s.heap.objs.size=some { cls:=.type "list",data:=.seq ([]:List Value).toArray }:=Xn _ rfl;generalize hh1:s.heap.push { cls:=.type "list",data:=.seq ([]:List Value).toArray }=h1 at oth0 hL ⊢;have sz1:h1.objs.size=s.heap.objs.size+1:=by rw[<- hh1,wf]
 have x1:SetT prog w h1 a S n o es ep t:={ x with loc:=oth0 _ _ x.loc }
 have hT:Shared.TypeIs { s with heap:=h1 } (.ref a) "set":=⟨o,x1.loc,x1.ex.1⟩
 unfold Builtin.List.listExtendWith;refine Xa (wpAny_typeOf hT ?_);have e1:Builtin.List.listSameRef (.ref s.heap.objs.size) (.ref a)=false:=by simp[Builtin.List.listSameRef]; exact wQ hlt
 have e2:(Value.type "set"==Value.type "list")=false:=by decide
 have e3:(Value.type "set"==Value.type "tuple")=false:=by decide
 simp only[e1,e2,e3,Bool.or_false,XI,wD];refine Xa (jge (s:={ s with heap:=h1 }) x1 fun it tp ws h2 d W0 k2 ge1 ne1 ge2=>?_)
 dsimp only at ge1 ge2 k2 W0;have hwl:ws.length=n:=by
  obtain⟨_,f,oi,_,_,_,m⟩:=W0;rw[m.len,num]
 have hwp:ws.Perm (es.toList.map (·.2)):=by
  obtain⟨_,f,oi,_,_,_,m⟩:=W0;exact m.perm
 have hSf:s.heap.objs.size∉[it,a,tp]:=by
  simp only[Xk,List.not_mem_nil,or_false,not_or];refine⟨by omega,wQ hlt,?_⟩;rcases ge2 with rfl | z
  ·exact wQ hlt
  ·omega
 have hL2:=k2 _ _ hL;have itgt:s.heap.objs.size<it:=by omega
 have W:=jgb (prog:=prog) (w:=w) (A:=A.in1) (S:=S) (o:=o) (es:=es) (ep:=ep) (t:=t) (ws:=ws) hh (it:=it) (a:=a) (tp:=tp) (n:=n) (wQ (Nat.lt_trans hlt itgt)) ne1 hwl;have hT2:Shared.TypeIs { s with heap:=h2,drawn:=d } (.ref a) "set":=⟨o,k2 _ _ x1.loc,x1.ex.1⟩
 have key:∀ (h3:Heap) (c:Nat),Wk prog w a S n o es ep t it tp ws 0 { s with heap:=h3,drawn:=d }->(∀ b o,b≠s.heap.objs.size->h2.get? b=some o->h3.get? b=some o) ->
   h3.get? s.heap.objs.size=some { cls:=.type "list",data:=.seq #[] c } ->
   codeAny (model prog w) A (.builtin "list.extend.loop" ⟨[.ref s.heap.objs.size,.ref it,.ref s.heap.objs.size],[]⟩) (fun r s'=>r=.ok (.ret (.ref s.heap.objs.size))/\∃ h4 tk c4,s'={ s with heap:=h4,drawn:=d,toks:=tk }/\(∀ b o,s.heap.get? b=some o->h4.get? b=some o)/\h4.get? s.heap.objs.size=some { cls:=.type "list",dict:=none,data:=.seq ws.toArray c4,slots:=#[] }) { s with heap:=h3,drawn:=d }:=by
  intro h3 c st k3 hL3;refine codeAny_extend_loopS W hn _ hSf _ n 0 _ #[] c rfl (wH _) st hL3 (ItemsOf.nil _) fun s' acc c' hm hS' hacc=>?_;have eacc:acc.toList=ws:=List.ext_getElem? fun j=>by
   rw[Array.getElem?_toList];cases z:acc[j]? with
   | some v=>exact (hacc.2 j v z).symm
   | none=>
    have:=Array.getElem?_eq_none_iff.mp z;have h1:=hacc.1;exact(List.getElem?_eq_none (by omega)).symm
  have eacc2:acc=ws.toArray:=by rw[<- eacc]
  subst eacc2;refine⟨rfl,s'.heap,s'.toks,c',?_,fun b o e=>?_,hS'⟩
  ·obtain⟨a1,a2,a3,a4,a5⟩:=s';have g1:a2=s.gens:=hm.gens;have g2:a3=d:=hm.drawn;have g3:a5=s.os:=hm.os;subst g1; subst g2; subst g3; rfl
  ·have lt:=Xo e;refine hm.heap b o ?_ (k3 b o (XA lt) (k2 _ _ (oth0 _ _ e)));simp only[Xk,List.not_mem_nil,or_false,not_or];exact⟨XA lt,XA (Nat.lt_trans lt itgt)⟩
 refine Xa (X2 (jgc hT2 ?_));refine wpAny_ite_split (fun _=>?_) (fun _=>Xb ⟨plainId_quiet F.plain_extend_loop _,codeAny_mono (key h2 _ W0 (fun b o _ e=>e) hL2) fun r s' z=>?_⟩)
 rotate_left
 ·obtain⟨rfl,h4,tk,c4,rfl,k4,e4⟩:=z;show wpAny _ _ (load s.heap.objs.size >>= _) _ _ _;refine Xa (wpAny_load e4 ?_);exact Xb (q ws h4 d tk hwp k4 (wG (Xo e4)))
 refine Xa (wpAny_rule (Xa ?_));show wpAny _ A.in1 (updateSeq s.heap.objs.size (·.push .none) >>= fun _=>updateSeq s.heap.objs.size (·.pop)) _ _ _;refine Xa (wpAny_updateSeq hL2 rfl ?_);have hL3:=XZ (Obj.mapSeq (·.push Value.none)) hL2 rfl;refine wpAny_updateSeq hL3 rfl ?_;have hL4:=XZ (Obj.mapSeq (·.pop)) hL3 rfl;have oth:∀ b o,b≠s.heap.objs.size->h2.get? b=some o->((h2.update s.heap.objs.size (Obj.mapSeq (·.push Value.none))).update s.heap.objs.size (Obj.mapSeq (·.pop))).get? b=some o:=
  fun b o hb e=>(XH _ _ (Ne.symm hb)).trans ((XH _ _ (Ne.symm hb)).trans e)
 refine Xb ⟨plainId_quiet F.plain_extend_loop _,codeAny_mono (key _ _ (W.frame 0 _ _ s.toks W0 (Xh _) fun b hb o e=>oth b o (fun z=>hSf (z ▸ hb)) e) oth hL4) fun r s' z=>?_⟩;obtain⟨rfl,h4,tk,c4,rfl,k4,e4⟩:=z;show wpAny _ _ (load s.heap.objs.size >>= _) _ _ _;refine Xa (wpAny_load e4 ?_);exact Xb (q ws h4 d tk hwp k4 (wG (Xo e4)))
theorem jcf (hh:A.handled=none) (x:SetT prog w s.heap a S n o es ep t) (hI:∀ ws:List Value,ws.Perm (es.toList.map (·.2))->∃ ms,IntsAre ws ms/\ms.Perm ns) (h64:n<64)
  (q:∀ l h' d tk out e ns',(∀ b o,s.heap.get? b=some o->h'.get? b=some o)->s.heap.objs.size<=l->h'.get? l=some (seqObj "list" out e)->IntsAre out.toList ns'->ns'.Perm ns->ns'.Pairwise (·<=·)->Q (.ref l) { s with heap:=h',drawn:=d,toks:=tk }) :
  wpAny (model prog w) A (call (.builtin "sorted") [.ref a]) Q E s:=by
 have num:=x.num;refine Calls.call_function_entry kind_sorted plain_sorted entry_sorted (args_sorted1 _) ?_;unfold Builtin.«sorted»;refine Xa (m:=checkCount "sorted" 1 1 _) (Xb ?_);refine Xa (jaw hh x fun ws h1 d tk hp k ge=>?_);obtain⟨ms,ims,pms⟩:=hI ws hp;have wl:ws.length<64:=by rw[hp.length_eq,Xr,Xv]; omega
 refine Xa (wpAny_newList ?_);have hoL:(h1.push (seqObj "list" ws.toArray 0)).get? h1.objs.size=some (seqObj "list" ws.toArray 0):=Xn _ rfl;refine Xa (X2 (wx slot_list_sort ⟨_,hoL,rfl⟩ entry_list_sort (list_sort_tree hoL ims wl fun out ns' a1 a2 a3=>⟨_,rfl,?_⟩) (args_list_sort _)));obtain⟨e,he⟩:=sortedHeap_at (vs:=ws) (out:=out) hoL;refine Xb ⟨_,rfl,q _ _ d tk out e ns' (fun b o z=>?_) ge he a1 (a2.trans pms) a3⟩;have lt:=Xo (k b o z);rw[sortedHeap_old (XA lt) (by rw[size_push']; exact wK lt)];exact Xc _ (k b o z)
end
section
def dd (l:List Int):List Int:=l.foldl step_dedup []
theorem jgf:∀ (l σ:List Int),σ.Nodup->(l.foldl step_dedup σ).Nodup/\∀ x,x∈l.foldl step_dedup σ ↔ x∈σ \/ x∈l
 | [],σ,h=>⟨h,fun x=>by simp⟩
 | y::l,σ,h=>by
  rw[List.foldl_cons];by_cases hy:y∈σ
  ·have e:step_dedup σ y=σ:=by
    unfold step_dedup;rw[if_pos (by simpa using hy)]
   rw[e];obtain⟨h1,h2⟩:=jgf l σ h;refine⟨h1,fun x=>(h2 x).trans ?_⟩;rw[Xk];constructor
   ·rintro (z | z)
    ·exact .inl z
    ·exact .inr (.inr z)
   ·rintro (z | rfl | z)
    ·exact .inl z
    ·exact .inl hy
    ·exact .inr z
  ·have e:step_dedup σ y=σ++[y]:=by
    unfold step_dedup;rw[if_neg (by simpa using hy)]
   rw[e];obtain⟨h1,h2⟩:=jgf l (σ++[y]) (List.nodup_append.mpr ⟨h,by simp,fun a ha b hb=>by simp at hb; subst hb; intro q; subst q; exact hy ha⟩);refine⟨h1,fun x=>(h2 x).trans ?_⟩;rw[List.mem_append,XQ,Xk,or_assoc]
theorem jbw (l:List Int):(dd l).Nodup:=(jgf l [] List.nodup_nil).1
theorem jjL {l:List Int}{x:Int}:x∈dd l ↔ x∈l:=((jgf l [] List.nodup_nil).2 x).trans (by simp)
theorem jax (h:ns.length=n):firstMet (fun i=>ns.getD i 0) n=dd ns:=by
 subst h;unfold firstMet dd;congr 1;refine List.ext_getElem (by simp) fun i h1 h2=>?_;simp at h1;simp[h1]
theorem JV:∀ {l ms:List Int},l.Nodup->(∀ z,z∈l->z∈ms)->ms.length=l.length->ms.Perm l
 | [],ms,_,_,h=>by
  have e:ms=[]:=List.length_eq_zero_iff.mp h;subst e; exact List.Perm.refl _
 | y::l,ms,nd,sub,h=>by
  have hy:=sub y Xi;obtain⟨ny,nl⟩:=List.nodup_cons.mp nd;refine(List.perm_cons_erase hy).trans (List.Perm.cons _ (JV nl (fun z hz=>?_) ?_))
  ·exact(List.mem_erase_of_ne (a:=z) (b:=y) (fun e=>ny (by rw[<- e]; exact hz))).mpr (sub z (Xf _ hz))
  ·rw[List.length_erase_of_mem hy,h]; rfl
def jhn (P:Program) (w:World) (a:Addr) (l:List Int):HO:=.ext fun h=>SetX P w h a (fun z=>(dd l).any (·==z)) (dd l).length
theorem jgg (hc:X.calm=true):GN X (.type "set") (fun xs H Q=>∃ p ns,xs=[.ref p]/\SqL X.K H p (ns.map V.int)/\ns.length<4000/\∀ l,H l=none->Q (.ref l) (upd H l (jhn X.prog X.w l ns))):=by
 intro pins s σ H xs us Q I r h;obtain⟨p,ns,rfl,hq,hn,q⟩:=h;obtain⟨u,rfl,rx⟩:=WH r;cases rx;obtain⟨its,rv,pl,hz⟩:=I.list hq;have hlen:=rv.length;rw[Xr] at hlen;have hsz:its.toArray.size=ns.length:=by simp; omega
 refine Zj (I.ok.hd hc) pl.isList (yP rv) (by rw[hsz]; show ns.length+1<4096; omega) fun h' tk hS k=>?_;rw[hsz,jax rfl] at hS;refine⟨.ref _,_,I.laid (o:=jhn X.prog X.w s.heap.objs.size ns) (t':=tk) k (Xh _) ⟨hS,?_,fun h1 h2 z k=>z.keep k⟩,rfl,q _ (I.hok.fresh (Xh _))⟩;obtain⟨o,es,ep,t,x⟩:=hS;exact⟨o,x.loc⟩
theorem Inv.drew {σ:List (Option V)} (I:Inv X pins σ H s) (d:Drawn):Inv X pins σ H { s with drawn:=d }:=
 ⟨I.ok,I.os,I.bare,I.base,I.loc,I.cell,I.free,I.freeC,I.pin,I.hok,I.len⟩
theorem jee {P:Program}{w:World}:∀ {ws:List Value},(∀ v∈ws,∃ k,(intKind P w).is k v=true)->∃ ms,IntsAre ws ms/\∀ z,z∈ms ↔ ∃ v∈ws,(intKind P w).is z v=true
 | [],h=>⟨[],.nil,fun z=>by simp⟩
 | v::ws,h=>by
  obtain⟨ms,h1,h2⟩:=jee (P:=P) (w:=w) (ws:=ws) fun v hv=>h v (Xf _ hv);obtain⟨k,hk⟩:=h v Xi;obtain⟨t,rfl⟩:=Value.isInt_shape hk;refine⟨k::ms,.cons k t h1,fun z=>?_⟩;rw[Xk,h2 z];constructor
  ·rintro (rfl | ⟨v,m,i⟩)
   ·exact⟨_,Xi,hk⟩
   ·exact⟨v,Xf _ m,i⟩
  ·rintro⟨v,m,i⟩;rcases Xk.mp m with rfl | m
   ·exact .inl ((intKind P w).inj _ _ _ i hk)
   ·exact .inr ⟨v,m,i⟩
theorem jbx:∀ {us:List Value}{ns:List Int},IntsAre us ns->us.length=ns.length
 | _,_,.nil=>rfl
 | _,_,.cons n t h=>by rw[Xm,Xm,jbx h]
theorem Zp (hc:X.calm=true):GN X (.builtin "sorted") (fun xs H Q=>∃ p ns,xs=[.ref p]/\H p=some (jhn X.prog X.w p ns)/\(dd ns).length<64/\∀ l,H l=none->Q (.ref l) (upd H l (.lst ((srt (dd ns)).map V.int)))):=by
 intro pins s σ H xs us Q I r h;obtain⟨p,ns,rfl,hq,hn,q⟩:=h;obtain⟨u,rfl,rx⟩:=WH r;cases rx;obtain⟨hS,_,_⟩:=I.hok p _ hq;obtain⟨o,es,ep,t,x⟩:=hS;have num:=x.num;refine jcf (ns:=dd ns) (I.ok.hd hc) x (fun ws hp=>?_) hn fun l h' d tk out e ns' k ge he a1 a2 a3=>?_
 ·have hall:∀ v∈ws,∃ k,(intKind X.prog X.w).is k v=true:=fun v hv=>by
   obtain⟨y,my,rfl⟩:=wn.mp (hp.mem_iff.mp hv);obtain⟨⟨k,hk,_⟩,_⟩:=x.el y my;exact⟨k,hk⟩
  obtain⟨ms,i1,i2⟩:=jee hall;refine⟨ms,i1,?_⟩;have mem:∀ z,z∈ms ↔ z∈dd ns:=fun z=>by
   rw[i2 z];have:=x.mem z;rw[List.any_eq_true] at this;constructor
   ·rintro⟨v,mv,iv⟩;obtain⟨y,my,rfl⟩:=wn.mp (hp.mem_iff.mp mv);obtain⟨a,ma,ea⟩:=this.mpr ⟨y,my,iv⟩;rw[<- (wj.mp ea)];exact ma
   ·intro hz;obtain⟨y,my,iy⟩:=this.mp ⟨z,hz,by simp⟩;exact⟨y.2,hp.mem_iff.mpr (wn.mpr ⟨y,my,rfl⟩),iy⟩
  have len:ms.length=(dd ns).length:=by
   have h1:ws.length=es.size:=by rw[hp.length_eq,Xr,Xv]
   have h2:ws.length=ms.length:=jbx i1;omega
  exact JV (jbw ns) (fun z hz=>(mem z).mpr hz) len
 ·have e':=jd_ a2 a3;subst e';refine⟨.ref l,_,(I.laid (o:=.lst ((srt (dd ns)).map V.int)) (t':=tk) k ge ⟨?_,out.toList,e,G0 a1,by simpa using he⟩).drew d,rfl,q _ (I.hok.fresh ge)⟩;rw[Xr,(Qk _).length_eq];have:=x.bd;have:=fits_of_scanBound x.bd;omega
end
end L2
namespace L3
open PySem PySem.Spec L2
section
variable {F:Hp}{t:TE}{d:Cd β}{p:Pm α}{rs:Rs γ}{i j:Int}
@[irreducible] def jcg (l:List Int):Option (List Int):=if l.length<4000/\(dd l).length<64 then some (srt (dd l)) else none
theorem jef {P:Program}{m:Option (List Int)} (h:Ev K σ F H t (pR cI).rs m) (e':mm_=(m.bind fun l=>jcg l)) :
  Ev K σ F H (tCB (fun xs H Q=>∃ p ns,xs=[.ref p]/\H p=some (jhn P w p ns)/\(dd ns).length<64/\∀ l,H l=none->Q (.ref l) (upd H l (.lst ((srt (dd ns)).map V.int))))
   (jJ (tCB (fun xs H Q=>∃ p ns,xs=[.ref p]/\SqL K H p (ns.map V.int)/\ns.length<4000/\∀ l,H l=none->Q (.ref l) (upd H l (jhn P w l ns))) (jJ t xb)) xb)) (rO cI) mm_:=by
 subst e';intro F1 H1 E z e Q k;obtain⟨n,en,e⟩:=bind_some e;unfold jcg at e;obtain⟨⟨h1,h2⟩,rfl⟩:=kI e;refine h F1 H1 E n en _ fun v F2 H2 E2 hv=>?_;obtain⟨p,xs,rfl,g1,g2⟩:=hv;rw[paired_ints g2] at g1;refine⟨p,n,rfl,g1,h1,fun x hx=>⟨x,n,rfl,jV,h2,fun l hl=>?_⟩⟩;have E3:Ext F2 H2 F2 (upd H2 x (jhn P w x n)):=Ext.newO E2.sub hx;exact zg (c:=cI) E3.sub (zH (srt (dd n))) (fun v F5 H5 E5 hr=>k v F5 H5 (E2.trans (E3.trans E5)) ((rO cI).back (E2.h.trans E3.h) hr)) l hl
theorem jay {P:Program}{m:List Int} (h:Ev K σ F H t (pR cI).rs (some m)) (e':mm_=jcg m) :
  Ev K σ F H (tCB (fun xs H Q=>∃ p ns,xs=[.ref p]/\H p=some (jhn P w p ns)/\(dd ns).length<64/\∀ l,H l=none->Q (.ref l) (upd H l (.lst ((srt (dd ns)).map V.int))))
   (jJ (tCB (fun xs H Q=>∃ p ns,xs=[.ref p]/\SqL K H p (ns.map V.int)/\ns.length<4000/\∀ l,H l=none->Q (.ref l) (upd H l (jhn P w l ns))) (jJ t xb)) xb)) (rO cI) mm_:=jef h e'
end
end L3
namespace L2
open PySem PySem.Spec PyProof.Rows
section
theorem Zq {l:Addr}{Q:List Value->Shared->Prop} (ho:s.heap.get? l=some o) (hc:o.cls=.type "tuple") (hd:o.data=.seq vs.toArray n)
  (h:Q vs { s with heap:=(s.heap.push (seqObj "list" #[] 0)).update s.heap.objs.size (Obj.mapSeq (·++vs.toArray)) }) (hsz:vs.length<=sizeLine) :
  wpAny (model prog w) A (collect (.ref l)) Q E s:=by
 unfold collect;refine Xa (wpAny_runValue (codeAny_builtin entry_proto_collect' ?_));show wpAny _ _ (do again (.builtin "list.__iadd__" ⟨[<- newList [],.ref l],[]⟩)) _ _ s;refine Xa (wpAny_newList (Xb ⟨Code.quiet_builtin _ (by decide +kernel),codeAny_builtin entry_list_iadd' ?_⟩));show wpAny _ _ (Builtin.List.listExtendWith (.ref s.heap.objs.size) (.ref l) (.ref s.heap.objs.size)) _ _ { s with heap:=s.heap.push (seqObj "list" #[] 0) }
 unfold Builtin.List.listExtendWith;have ho':(s.heap.push (seqObj "list" #[] 0)).get? l=some o:=Xc _ ho;refine Xa (wpAny_typeOf (T:="tuple") ⟨o,ho',hc⟩ ?_);have ht:(Value.type "tuple"==Value.type "tuple")=true:=by rfl
 rw[if_pos (by rw[ht]; simp)];refine Xa (listItems_at ho' hd ?_);refine Xa (listItems_at (xs:=#[]) (n:=0) (Xn _ rfl) rfl ?_);rw[if_neg (by simp)];refine Xa (listUpdate_at (xs:=#[]) (n:=0) (Xn _ rfl) rfl ?_ (wH _) (by show (#[]++vs.toArray).size<=sizeLine+1; simp only[Array.size_append,Xq,List.length_nil]; omega));refine Xb ?_;show wpAny (model prog w) A (load s.heap.objs.size >>= _) Q E _;refine Xa (wpAny_load (get?_update_seq (Xn _ rfl) _) ?_);show wpAny _ _ (pure ((#[]:Array Value)++vs.toArray).toList) Q E _;rw[show ((#[]:Array Value)++vs.toArray).toList=vs by simp];exact Xb h
theorem jaz {l:Addr} (ho:s.heap.get? l=some o) (hc:o.cls=.type "tuple") (hd:o.data=.seq vs.toArray n) (hI:IntsAre vs ns) (h64:vs.length<64)
  (h:∀ (out:Array Value) (ns':List Int),IntsAre out.toList ns'->ns'.Perm ns->ns'.Pairwise (·<=·)->Q (.ref (s.heap.objs.size+1)) { s with heap:=sortedAll s.heap vs out }) :
  wpAny (model prog w) A (call (.builtin "sorted") [.ref l]) Q E s:=by
 refine Calls.call_function_entry kind_sorted plain_sorted entry_sorted (args_sorted1 _) ?_;unfold Builtin.«sorted»;refine Xa (m:=checkCount "sorted" 1 1 _) (Xb ?_);refine Xa (Zq ho hc hd ?_ (by rw[wa]; omega));refine Xa (wpAny_newList ?_);have sz:((s.heap.push (seqObj "list" #[] 0)).update s.heap.objs.size (Obj.mapSeq (·++vs.toArray))).objs.size=s.heap.objs.size+1:=by
  rw[Heap.size_update,size_push']
 have hL:(((s.heap.push (seqObj "list" #[] 0)).update s.heap.objs.size (Obj.mapSeq (·++vs.toArray))).push (seqObj "list" vs.toArray 0)).get? (s.heap.objs.size+1)=some (seqObj "list" vs.toArray 0):=by
  rw[<- sz]; exact Xn _ rfl
 show wpAny _ _ _ _ _ { s with heap:=((s.heap.push (seqObj "list" #[] 0)).update s.heap.objs.size (Obj.mapSeq (·++vs.toArray))).push (seqObj "list" vs.toArray 0) }
 rw[sz];refine Xa (X2 (wx slot_list_sort ⟨_,hL,rfl⟩ entry_list_sort (list_sort_tree hL hI h64 fun out ns' a1 a2 a3=>⟨_,rfl,?_⟩) (args_list_sort _)));exact Xb ⟨_,rfl,h out ns' a1 a2 a3⟩
end
section
theorem Zr:GN X (.builtin "sorted") (fun xs H Q=>∃ p ns,xs=[.ref p]/\SqT X.K H p (ns.map V.int)/\ns.length<64/\∀ l,H l=none->Q (.ref l) (upd H l (.lst ((srt ns).map V.int)))):=by
 intro pins s σ H xs us Q I r h;obtain⟨p,ns,rfl,hq,hn,q⟩:=h;obtain⟨u,rfl,rx⟩:=WH r;cases rx;obtain⟨its,rv,pl,hz⟩:=I.tuple hq;have hlen:=rv.length;rw[Xr] at hlen;obtain⟨o,ho,hc,n,hd⟩:=pl;refine jaz ho hc hd (yP rv) (by omega) fun out ns' a1 a2 a3=>?_;obtain⟨e,he⟩:=sortedAll_at s.heap its out;have e':=jd_ a2 a3;subst e';refine⟨.ref _,_,I.laid (o:=.lst ((srt ns).map V.int)) (t':=s.toks) (fun b o eb=>sortedAll_old eb) (wy _) ⟨?_,out.toList,e,G0 a1,by simpa using he⟩,rfl,q _ (I.hok.fresh (wy _))⟩;rw[Xr,(Qk ns).length_eq];rw[Xr] at hz;exact hz
end
end L2
namespace L3
open PySem PySem.Spec L2
section
variable {F:Hp}{t:TE}{d:Cd β}{p:Pm α}{rs:Rs γ}{i j:Int}
theorem jeg:Op1 K (fun x H Q=>∃ p ns,[x]=[V.ref p]/\SqT K H p (ns.map V.int)/\ns.length<64/\∀ l,H l=none->Q (.ref l) (upd H l (.lst ((srt ns).map V.int)))) (pF (cT cI)) (rO cI) (fun l=>jf9 l):=by
 intro F H l x s hx z hz Q k;obtain⟨p,xs,rfl,h1,h2⟩:=hx;unfold jf9 at hz;obtain⟨hn,rfl⟩:=kI hz;rw[paired_ints h2] at h1;exact⟨p,l,rfl,SqT.of (s _ _ h1),hn,fun a ha=>zg s (zH (srt l)) k a ha⟩
end
end L3
namespace HT
open PySem PyProof.Rows
section
theorem cat_tup0 {t b:Addr} (ht:IsTup s.heap t vs.toArray) (hb:IsTup s.heap b ws.toArray) (hv:vs=[]) (h:Q (.ref b) s) :
  wpAny (model prog w) A (binaryOp .Add (.ref t) (.ref b)) Q E s:=by
 obtain⟨⟨cls,dd,data,sl⟩,ho,hc,n,hd⟩:=id ht;obtain⟨⟨cls2,dd2,data2,sl2⟩,ho2,hc2,n2,hd2⟩:=id hb;simp only at hc hd hc2 hd2;subst hc hd hc2 hd2;exact concat_meets ⟨_,ho,rfl⟩ ⟨_,ho2,rfl⟩ noFill_tuple_add seq_tuple_add PySem.F.slot_tuple_add PySem.F.entry_tuple_add (PySem.F.args_tuple_add_2 _ _)
  (tuple_addW0 t b vs.toArray ws.toArray n n2 dd dd2 sl sl2 (by simp[hv])) ⟨ho,ho2,h⟩
theorem getItem_tuple_whole {t sl:Addr} (ht:IsTup s.heap t items) (hs:s.heap.IsSliceOf sl vl vu .none) (pl:IsPart vl lo) (pu:IsPart vu hi)
  (hw:sIx items.size 0 lo=0/\sIx items.size items.size hi=items.size) (h:Q (.ref t) s):wpAny (model prog w) A (getItem (.ref t) (.ref sl)) Q E s:=by
 obtain⟨os,hos,hcs,hds⟩:=id hs;have hTs:s.TypeIs (.ref sl) "slice":=⟨os,hos,hcs⟩;unfold getItem
 try with_reducible refine wpAny_holding ?_
 first | refine wpAny_bind (wpAny_pure ?_) | skip
 refine wpAny_bind (wpAny_sequenceKey ht.typeIs (by decide) ?_);refine wpAny_bind (wpAny_callSpecial?_slot (name:=Str.ofString "__getitem__") ht.typeIs PyProof.Rows.slot_tuple_getitem
  (wpAny_call_entry PyProof.Rows.slot_tuple_getitem ht.typeIs entry_tuple_getitem ?_ (args_tuple_getitem _ _)))
 show wpAny _ _ (Builtin.Tuple.tupleItemsOf (.ref t) >>= _) _ _ s;refine wpAny_bind (tupleItemsOf_ ht ?_);refine wpAny_bind (wpAny_typeOf hTs ?_);rw[if_pos (by decide)];refine wpAny_bind (GC hs pl pu ?_);have hyes:(((sIx items.size 0 lo:Nat):Int)==0&&(1:Int)==1&&(sIx items.size items.size hi-sIx items.size 0 lo)==items.size)=true:=by
  rw[hw.1,hw.2,Nat.sub_zero];simp
 show wpAny _ _ (if (((sIx items.size 0 lo:Nat):Int)==0&&(1:Int)==1&&(sIx items.size items.size hi-sIx items.size 0 lo)==items.size)=true then _ else _) _ _ s;rw[if_pos hyes];refine wpAny_bind ?_;unfold Builtin.Tuple.tupleIsExact;refine wpAny_bind (wpAny_typeOf ht.typeIs (wpAny_pure ?_));rw[if_pos (by decide)];exact wpAny_bind (wpAny_rule (wpAny_pure ⟨_,rfl,wpAny_pure h⟩))
end
end HT
namespace L2
open PySem PySem.Spec PyProof.Rows
section
def jho (K:W.Frag):R2:=fun x y H Q=>∃ a b xs ys,x=.ref a/\y=.ref b/\SqT K H a xs/\SqT K H b ys/\xs.length+ys.length<=sizeLine /\
 (xs=[]->Q (.ref b) H)/\(ys=[]->Q (.ref a) H)/\∀ p,H p=none->Q (.ref p) (upd H p (.tup (xs++ys)))
theorem zj:OpR X (binaryOp .Add) (jho X.K):=by
 intro pins s σ H x y v u Q I rx ry h;obtain⟨a,b,xs,ys,rfl,rfl,ha,hb,hz,q0,q1,q2⟩:=h;by_cases hx:xs=[]
 ·cases rx;cases ry;obtain⟨its,r1,p1,_⟩:=I.tuple ha;obtain⟨its2,r2,p2,_⟩:=I.tuple hb;exact HT.cat_tup0 p1 p2 (r1.nil_iff.mpr hx) ⟨.ref b,H,I,rfl,q0 hx⟩
 ·exact jhO pins s σ H (.ref a) (.ref b) v u Q I rx ry ⟨a,b,xs,ys,rfl,rfl,ha,hb,hx,hz,q1,fun _=>q2⟩
def jiq (K:W.Frag):V->Option Int->Option Int->Hp->VK->Prop:=fun x lo hi H Q=>∃ a xs,x=.ref a/\SqT K H a xs /\
 ((HT.sIx xs.length 0 lo=0/\HT.sIx xs.length xs.length hi=xs.length)->Q (.ref a) H)/\∀ p,H p=none->Q (.ref p) (upd H p (.tup (jfD xs lo hi)))
theorem yz:SlR X (jiq X.K):=by
 intro pins s σ H x v vl vu lo hi sl Q I rx hs pl pu h;obtain⟨a,xs,rfl,hx,q0,q⟩:=h;by_cases hw:HT.sIx xs.length 0 lo=0/\HT.sIx xs.length xs.length hi=xs.length
 ·cases rx;obtain⟨its,r,ht,hz⟩:=I.tuple hx;have hlen:its.toArray.size=xs.length:=by rw[Xq]; exact r.length.symm
  refine⟨"tuple",_,PyProof.Rows.slot_tuple_getitem.lookup,ht.typeIs,?_⟩;exact HT.getItem_tuple_whole ht hs pl pu (by rw[hlen]; exact hw) ⟨.ref a,H,I,rfl,q0 hw⟩
 ·exact jjn pins s σ H (.ref a) v vl vu lo hi sl Q I rx hs pl pu ⟨a,xs,rfl,hx,hw,q⟩
end
end L2
namespace L3
open PySem PySem.Spec L2
section
variable {F:Hp}{t:TE}{d:Cd β}{p:Pm α}{rs:Rs γ}{i j:Int}
theorem Ua:Op2 K (jho K) (pF (cT c)) (pF (cT c)) (rF (cT c)) Um:=by
 intro F H l m x y s hx hy z hz Q k;obtain⟨a,xs,rfl,h1,h2⟩:=hx;obtain⟨b,ys,rfl,h3,h4⟩:=hy;unfold Um at hz;obtain⟨hc,rfl⟩:=kI hz;rw[h2.length,h4.length] at hc;refine⟨a,b,xs,ys,rfl,rfl,SqT.of (s _ _ h1),SqT.of (s _ _ h3),by rw[wa]; exact hc,fun e=>?_,fun e=>?_,fun p hp=>WT s (Paired.app h2 h4) k p hp⟩
 ·have el:l=[]:=List.length_eq_zero_iff.mp (by rw[h2.length,e]; rfl);subst el;exact k _ F H (Ext.refl s) ⟨b,ys,rfl,h3,h4⟩
 ·have el:m=[]:=List.length_eq_zero_iff.mp (by rw[h4.length,e]; rfl);subst el;rw[wM] at k;exact k _ F H (Ext.refl s) ⟨a,xs,rfl,h1,h2⟩
theorem jeh (h:HT.sIx l.length 0 lo=0/\HT.sIx l.length l.length hi=l.length):cut l lo hi=l:=by
 unfold cut;rw[h.1,h.2,List.drop_zero,Nat.sub_zero,List.take_length]
theorem jgh {mm_:Option (List α)} (h:Ev K σ F H t (pF (cT c)).rs m) (hl:Eo K σ F H tl ml) (hh:Eo K σ F H th mh)
  (e':mm_=(m.bind fun l=>ml.bind fun i=>mh.bind fun j=>some (cut l i j))):Ev K σ F H (tSl (jiq K) t tl th) (rF (cT c)) mm_:=by
 subst e';intro F1 H1 E z hz Q k;obtain⟨l,el,hz⟩:=bind_some hz;obtain⟨i,ei,hz⟩:=bind_some hz;obtain⟨j,ej,hz⟩:=bind_some hz;cases hz;refine h F1 H1 E l el _ ?_;intro v F2 H2 E2 hv;refine hl F2 H2 (E.trans E2) i ei _ fun F3 H3 E3=>hh F3 H3 ((E.trans E2).trans E3) j ej _ fun F4 H4 E4=>?_;obtain⟨a,xs,rfl,h1,h2⟩:=(pF (cT c)).mono (E3.trans E4) hv;refine⟨a,xs,rfl,SqT.of (E4.sub _ _ h1),fun hw=>?_,fun p hp=>?_⟩
 ·rw[<- h2.length] at hw;rw[jeh hw] at k;exact k _ F4 H4 (E2.trans (E3.trans E4)) ⟨a,xs,rfl,h1,h2⟩
 ·exact WT (c:=c) E4.sub (Paired.cutP i j h2) (fun v F5 H5 E5 hr=>k v F5 H5 (E2.trans (E3.trans (E4.trans E5))) ((rF (cT c)).back (E2.h.trans (E3.h.trans E4.h)) hr)) p hp
theorem ql {mm_:Option (List α)}{x:Option Int} (h:Ev K σ F H t (pF (cT c)).rs (some l)) (hl:Eo K σ F H tl (some x)) (hh:Eo K σ F H th (some y)) (e':mm_=(some (cut l x y))) :
  Ev K σ F H (tSl (jiq K) t tl th) (rF (cT c)) mm_:=jgh h hl hh e'
end
end L3
namespace L2
open PySem PySem.Spec PyProof.Rows
section
theorem jei {t:Addr}{k:Int}{tk:Tok} 
  (ho:s.heap.get? t=some o) (hc:o.cls=.type "tuple") (hd:o.data=.seq its.toArray n) (hI:IntsAre its ns) (hj:ns[j]?=some k) (hb:∀ i a,i<j->ns[i]?=some a->a≠k)
  (q:Q (.int j s.toks) { s with toks:=s.toks+1 }):wpAny (model prog w) A (call (.builtin "tuple.index") [.ref t,.int k tk]) Q E s:=by
 refine wx PySem.F.slot_tuple_index ⟨o,ho,hc⟩ PySem.F.entry_tuple_index ?_ (PySem.F.args_tuple_index_2 _ _);show wpAny _ _ (Builtin.Tuple.tupleItemsOf (.ref t) >>= _) _ _ s;have ht:IsTup s.heap t its.toArray:=⟨o,ho,hc,n,hd⟩;refine Xa (tupleItemsOf_ ht ?_);refine Xa (Xb ?_);refine Xa (Xb ?_);dsimp only;rw[Std.Legacy.Range.forIn_eq_forIn_range'];have hlen:=IntsAre.length hI;obtain⟨hjl,ejk⟩:=List.getElem?_eq_some_iff.mp hj;refine Xa (wpAny_forIn_list _ (fun rest b s'=>b=(none,())/\s'=s/\∃ i,i<=j/\rest=List.range' i (its.length-i)) _ ?turn ?fin _ _ ?h)
 case turn=>
  rintro x rest b s' ⟨rfl,rfl,i,hi,e⟩;obtain⟨m,em⟩:∃ m,its.length-i=m+1:=⟨its.length-i-1,by omega⟩;rw[em,List.range'_succ] at e;injection e with e1 e2
  subst e1; subst e2;have hx:x<its.length:=by omega
  have ei:its.toArray[x]?=some its[x]:=by rw[List.getElem?_toArray]; exact Xe hx
  obtain⟨tx,ex⟩:=IntsAre.int_at hI x its[x] (Xe hx);have hxn:x<ns.length:=by omega
  have ex2:ns.getD x 0=ns[x]:=by simp[List.getD,hxn]
  rw[ei];dsimp only;rw[ex,ex2];refine Xa ((intKind prog w).eqBool (a:=ns[x]) (b:=k) (intKind_is _ _ _ _) (intKind_is _ _ _ _) ?_);by_cases hxj:x=j
  ·subst hxj;rw[if_pos (by simp[ejk])];unfold retInt;refine Xa (Xa (wpAny_mkInt (Xb (Xb ?_))));exact Xb ⟨_,rfl,q⟩
  ·have hne:ns[x]≠k:=hb x ns[x] (by omega) (Xe hxn);rw[if_neg (by simp[hne])];refine Xb ⟨rfl,rfl,x+1,by omega,?_⟩;congr 1;omega
 case fin=>
  rintro b s' ⟨rfl,rfl,i,hi,e⟩;have:=congrArg List.length e;rw[List.length_range'] at this;simp at this;omega
 case h=>
  refine⟨rfl,rfl,0,wH _,?_⟩;simp[Std.Legacy.Range.size]
end
section
def jjM (H:Hp) (x:V):Prop:=∃ p xs,x=.ref p/\Rd H p (.tup xs)
theorem jgi {x:V} (I:Inv X pins σ H s) (r:RelV x v) (ty:jjM H x) :
  s.TypeIs v "tuple"/\∀ a,v=.ref a->∃ ob,s.heap.get? a=some ob/\ob.dict=none:=by
 obtain⟨p,xs,rfl,h⟩:=ty;cases r;obtain⟨_,its,_,o,e,c,_⟩:=h.ok I.hok;exact⟨⟨o,e,c.1⟩,fun a z=>by cases z; exact ⟨o,e,c.2⟩⟩
def tBT (r:V->List V->Hp->VK->Prop) (to:TE) (t:TA):TE:=fun σ H Q=>to σ H fun x H1=>jjM H1 x/\t σ H1 fun xs H2=>r x xs H2 Q
variable {o:Expr}{to:TE}{t:TA}{id:String}{r:V->List V->Hp->VK->Prop}
theorem jjN (slot:Slot "tuple" name id) (hty:typeOf (.builtin id)=pure (.type "method_descriptor")) (hm:MtR X id r) (ho:PE X o to) (ha:PA X (e::es) t)
  (hbase:attributeBase o name X.env (eval o X.env)=eval o X.env:=by rfl)
  (hfew:((backTo cpos (starEach (e::es) X.env)).all (fun x=>!x.1)&&(backToKw cpos (keywordEach [] X.env)).all (fun x=>x.1.isSome)
  &&decide ((e::es).length+([]:List Keyword).length+(if ([]:List Keyword).isEmpty then 0 else 1)<30))=true:=by rfl)
  (hline:(apos.endLine==cpos.line)=true:=by rfl) (hs:starEach (e::es) X.env=(false,eval e X.env)::starEach es X.env:=by rfl) (hplain:(backTo cpos (starEach es X.env)).any (·.1)=false:=by rfl) :
  PE X (.Call (.Attribute o name apos) (e::es) [] cpos) (tBT r to t):=by
 intro pins s σ H Q I h;refine wpAny_Call_method_late hbase hfew hline rfl (thn (ho pins s σ H _ I h) fun v s1 ⟨x,H1,I1,r1,ty,q1⟩=>?_);obtain⟨h1,h2⟩:=jgi I1 r1 ty;refine⟨"tuple",id,PySem.F.plainAttrs_tuple,slot,hty,h1,h2,?_⟩;have hA:=ha cpos pins s1 σ H1 _ I1 q1;rw[hs] at hA ⊢;refine Calls.callWith_builtin (by show (false||(backTo cpos (starEach es X.env)).any (·.1))=false; rw[hplain] <;> rfl) (Calls.evalArgs_plain ?_)
 exact thn hA fun us s2 ⟨vs,H2,I2,r2,q2⟩=>hm pins s2 σ H2 x vs v us Q I2 r1 r2 q2
def jaA (K:W.Frag):V->List V->Hp->VK->Prop:=fun x vs H Q=>∃ (l:Addr) (ns:List Int) (k:Int) (j:Nat),x=.ref l/\vs=[.int k]/\SqT K H l (ns.map V.int)/\ns[j]?=some k/\(∀ i a,i<j->ns[i]?=some a->a≠k)/\Q (.int j) H
theorem Zs:MtR X "tuple.index" (jaA X.K):=by
 intro pins s σ H x vs v us Q I rx rv h;obtain⟨l,ns,k,j,rfl,rfl,hH,hj,hb,q⟩:=h;cases rx;obtain⟨u,rfl,t,rfl⟩:=rv.one;obtain⟨its,r,⟨o,ho,hc,n,hd⟩,hz⟩:=I.tuple hH;exact jei ho hc hd (yP r) hj hb ⟨.int j,H,I.tok _,⟨_,rfl⟩,q⟩
theorem jej (hc:X.calm=true):GN X (.builtin "min") (fun xs H Q=>∃ p ns,xs=[.ref p]/\SqL X.K H p (ns.map V.int)/\ns≠[]/\∀ m,m∈ns->(∀ a∈ns,m<=a)->Q (.int m) H):=by
 intro pins s σ H xs us Q I r h;obtain⟨p,ns,rfl,hq,hn,q⟩:=h;obtain⟨u,rfl,rx⟩:=WH r;cases rx;obtain⟨its,rv,pl,hz⟩:=I.list hq;have hi:=yP rv;have hpl:=pl.isList;have hall:=hi.allInts;have hnum:=hi.numsOf;obtain⟨ys,ey⟩:=hall.items;rw[ey] at hpl;have e2:numsOf its=ys.toList.map (·.1):=by
  have:=nums_intItems ys;rw[<- ey] at this;exact this
 rw[hnum] at e2;have hsz:0<ys.size:=by
  rcases Nat.eq_zero_or_pos ys.size with z | z
  ·exact absurd (List.length_eq_zero_iff.mp (by rw[e2,Xr,Xv,z])) hn
  ·exact z
 refine min_intList (I.ok.hd hc) hpl hsz fun v h' tk hv hk=>?_;obtain⟨t,rfl⟩:=intItems_at hv;obtain⟨h1,h2⟩:=argBest_lt (numAt ys) (ys.size-1);refine⟨.int _,H,I.kept (t':=tk) hk,⟨_,rfl⟩,q _ ?_ fun a ha=>?_⟩
 ·rw[numAt_eq,e2];exact PySem.getD_mem (by rw[Xr,Xv]; omega)
 ·rw[e2] at ha;obtain⟨j,hj,rfl⟩:=PySem.mem_getD ha;rw[Xr,Xv] at hj;rw[<- numAt_eq];exact h2 j (by omega)
theorem jek (hc:X.calm=true):GN X (.builtin "max") (fun xs H Q=>∃ p ns,xs=[.ref p]/\SqL X.K H p (ns.map V.int)/\ns≠[]/\∀ m,m∈ns->(∀ a∈ns,a<=m)->Q (.int m) H):=by
 intro pins s σ H xs us Q I r h;obtain⟨p,ns,rfl,hq,hn,q⟩:=h;obtain⟨u,rfl,rx⟩:=WH r;cases rx;obtain⟨its,rv,pl,hz⟩:=I.list hq;have hi:=yP rv;have hpl:=pl.isList;have hall:=hi.allInts;have hnum:=hi.numsOf;obtain⟨ys,ey⟩:=hall.items;rw[ey] at hpl;have e2:numsOf its=ys.toList.map (·.1):=by
  have:=nums_intItems ys;rw[<- ey] at this;exact this
 rw[hnum] at e2;have hsz:0<ys.size:=by
  rcases Nat.eq_zero_or_pos ys.size with z | z
  ·exact absurd (List.length_eq_zero_iff.mp (by rw[e2,Xr,Xv,z])) hn
  ·exact z
 refine max_intList (I.ok.hd hc) hpl hsz fun v h' tk hv hk=>?_;obtain⟨t,rfl⟩:=intItems_at hv;obtain⟨h1,h2⟩:=argBest_gt (numAt ys) (ys.size-1);refine⟨.int _,H,I.kept (t':=tk) hk,⟨_,rfl⟩,q _ ?_ fun a ha=>?_⟩
 ·rw[numAt_eq,e2];exact PySem.getD_mem (by rw[Xr,Xv]; omega)
 ·rw[e2] at ha;obtain⟨j,hj,rfl⟩:=PySem.mem_getD ha;rw[Xr,Xv] at hj;rw[<- numAt_eq];exact h2 j (by omega)
end
end L2
namespace L3
open PySem PySem.Spec L2
section
variable {F:Hp}{t:TE}{d:Cd β}{p:Pm α}{rs:Rs γ}{i j:Int}
theorem jaB {mm_:Option Int}{m:Option (List Int)}{mk:Option Int} (h:Ev K σ F H t (pF (cT cI)).rs m) (hk:Ev K σ F H ta (rF cI) mk) (e':mm_=(m.bind fun l=>mk.bind fun k=>jaq l k)):Ev K σ F H (tBT (jaA K) t (jJ ta xb)) (rF cI) mm_:=by
 subst e';intro F1 H1 E z e Q k;obtain⟨l,el,e⟩:=bind_some e;obtain⟨n,en,e⟩:=bind_some e;obtain⟨x,rfl,hx,hb⟩:=jd8 e;refine h F1 H1 E l el _ ?_;rintro v F2 H2 E2 ⟨a,xs,rfl,h1,h2⟩;have exs:=jbr h2;subst exs;refine⟨⟨a,_,rfl,.inl (E2.sub _ _ h1)⟩,hk F2 H2 (E.trans E2) n en _ fun w F3 H3 E3 hw=>?_⟩;have ew:w=.int n:=hw;subst ew;exact⟨a,l,n,x,rfl,rfl,SqT.of (E3.h _ _ (E2.sub _ _ h1)),hx,hb,k _ F3 H3 (E2.trans E3) rfl⟩
theorem Qm {mm_:Option Int}{l:List Int}{n:Int} (h:Ev K σ F H t (pF (cT cI)).rs (some l)) (hk:Ev K σ F H ta (rF cI) (some n)) (e':mm_=jaq l n):Ev K σ F H (tBT (jaA K) t (jJ ta xb)) (rF cI) mm_:=jaB h hk e'
def jch:List Int->Int
 | []=>0
 | [a]=>a
 | a::l=>if a<jch l then a else jch l
def jci:List Int->Int
 | []=>0
 | [a]=>a
 | a::l=>if jci l<a then a else jci l
theorem Vd:∀ {l:List Int},l≠[]->jch l∈l/\∀ a∈l,jch l<=a
 | [],h=>absurd rfl h
 | [a],_=>⟨by simp[jch],by simp[jch]⟩
 | a::b::l,_=>by
  obtain⟨h1,h2⟩:=Vd (l:=b::l) (by simp);show (if a<jch (b::l) then a else jch (b::l))∈_/\∀ x∈_,(if a<jch (b::l) then a else jch (b::l))<=x;split
  ·refine⟨Xi,fun x hx=>?_⟩;rcases Xk.mp hx with rfl | hx
   ·exact Int.le_refl _
   ·have:=h2 x hx; omega
  ·refine⟨Xf _ h1,fun x hx=>?_⟩;rcases Xk.mp hx with rfl | hx
   ·omega
   ·exact h2 x hx
theorem Ve:∀ {l:List Int},l≠[]->jci l∈l/\∀ a∈l,a<=jci l
 | [],h=>absurd rfl h
 | [a],_=>⟨by simp[jci],by simp[jci]⟩
 | a::b::l,_=>by
  obtain⟨h1,h2⟩:=Ve (l:=b::l) (by simp);show (if jci (b::l)<a then a else jci (b::l))∈_/\∀ x∈_,x<=(if jci (b::l)<a then a else jci (b::l));split
  ·refine⟨Xi,fun x hx=>?_⟩;rcases Xk.mp hx with rfl | hx
   ·exact Int.le_refl _
   ·have:=h2 x hx; omega
  ·refine⟨Xf _ h1,fun x hx=>?_⟩;rcases Xk.mp hx with rfl | hx
   ·omega
   ·exact h2 x hx
@[irreducible] def jel (l:List Int):Option Int:=if l=[] then none else some (jch l)
@[irreducible] def jem (l:List Int):Option Int:=if l=[] then none else some (jci l)
theorem jjO:Op1 K (fun x H Q=>∃ p ns,[x]=[V.ref p]/\SqL K H p (ns.map V.int)/\ns≠[]/\∀ m,m∈ns->(∀ a∈ns,m<=a)->Q (.int m) H) (pR cI) (rF cI) (fun l=>jel l):=by
 intro F H l x s hx z hz Q k;obtain⟨p,xs,rfl,h1,h2⟩:=hx;unfold jel at hz;dsimp only at hz;by_cases hl:l=[]
 ·rw[if_pos hl] at hz; cases hz
 ·rw[if_neg hl] at hz;cases hz;rw[paired_ints h2] at h1;obtain⟨g1,g2⟩:=Vd hl;refine⟨p,l,rfl,h1,hl,fun m hm hle=>?_⟩;have e:m=jch l:=Int.le_antisymm (hle _ g1) (g2 _ hm);subst e;exact k _ F H (Ext.refl s) rfl
theorem jjP:Op1 K (fun x H Q=>∃ p ns,[x]=[V.ref p]/\SqL K H p (ns.map V.int)/\ns≠[]/\∀ m,m∈ns->(∀ a∈ns,a<=m)->Q (.int m) H) (pR cI) (rF cI) (fun l=>jem l):=by
 intro F H l x s hx z hz Q k;obtain⟨p,xs,rfl,h1,h2⟩:=hx;unfold jem at hz;dsimp only at hz;by_cases hl:l=[]
 ·rw[if_pos hl] at hz; cases hz
 ·rw[if_neg hl] at hz;cases hz;rw[paired_ints h2] at h1;obtain⟨g1,g2⟩:=Ve hl;refine⟨p,l,rfl,h1,hl,fun m hm hle=>?_⟩;have e:m=jci l:=Int.le_antisymm (g2 _ hm) (hle _ g1);subst e;exact k _ F H (Ext.refl s) rfl
end
end L3
namespace L2
open PySem PySem.Spec PyProof.Rows
def Exc (h:Heap) (e C:Addr) (d:Option Addr) (T:Option (Addr×Value)):Prop:=
 ∃ oe vs,h.get? e=some oe/\oe.cls=.ref C/\oe.dict=d/\oe.data=.fields vs/\vs[1]?=some (T.elim .none fun p=>.ref p.1) /\
  ∀ p,T=some p->p.1≠e/\∃ oT ts,h.get? p.1=some oT/\oT.data=.fields ts/\ts[3]?=some p.2
structure Mv (fs ch:List Addr) (h h':Heap):Prop where
 keep:∀ b o,h.get? b=some o->b∉fs->b∉ch->h'.get? b=some o
 slot:∀ b o,h.get? b=some o->b∉ch->∃ sl,h'.get? b=some { o with slots:=sl }
 there:∀ b o,h.get? b=some o->∃ o',h'.get? b=some o'
theorem Mv.trans {fs:List Addr}{h2:Heap} (x:Mv fs ch h h1) (y:Mv fs ch h1 h2):Mv fs ch h h2:=
 ⟨fun b o e m n=>y.keep b o (x.keep b o e m n) m n,fun b o e n=>by
  obtain⟨s1,e1⟩:=x.slot b o e n;obtain⟨s2,e2⟩:=y.slot b _ e1 n;exact⟨s2,e2⟩,fun b o e=>by
  obtain⟨o1,e1⟩:=x.there b o e;exact y.there b o1 e1⟩
theorem Mv.mono {fs ch':List Addr} (x:Mv fs ch h h1) (k:∀ b∈ch,b∈ch'):Mv fs ch' h h1:=
 ⟨fun b o e m n=>x.keep b o e m fun z=>n (k b z),fun b o e n=>x.slot b o e fun z=>n (k b z),x.there⟩
theorem Mv.fields {fs:List Addr}{vs:Array Value} (f:Array Value->Array Value) (e:h.get? a=some o) (d:o.data=.fields vs) :
  Mv fs [a] h (h.update a (Obj.mapFields f)):=by
 have self:=XZ (Obj.mapFields f) e (wX (we d f));refine⟨fun b o' e' _ n=>?_,fun b o' e' n=>⟨o'.slots,?_⟩,fun b o' e'=>?_⟩
 ·rw[XH _ _ (fun q=>n (by simp[q]))]; exact e'
 ·rw[XH _ _ (fun q=>n (by simp[q]))]; exact e'
 ·by_cases q:a=b
  ·subst q; exact ⟨_,self⟩
  ·exact⟨o',by rw[XH _ _ q]; exact e'⟩
theorem Mv.of_slots {S:List Addr} (x:Heap.SlotsOnly S h h'):Mv S ch h h':=
 ⟨fun b o e m _=>(x.2.1 b m).trans e,fun b o e _=>x.2.2 b o e,fun b o e=>let ⟨_,q⟩:=x.2.2 b o e; ⟨_,q⟩⟩
theorem Mv.push {fs:List Addr} (o:Obj):Mv fs ch h (h.push o):=
 ⟨fun b u e _ _=>Xc _ e,fun b u e _=>⟨u.slots,Xc _ e⟩,fun b u e=>⟨u,Xc _ e⟩⟩
theorem Mv.frames {fs:List Addr}{l:List Env} (x:Mv fs ch h h') (hc:∀ b∈ch,∀ o,h.get? b=some o->∃ vs,o.data=.fields vs) (hl:h.FunFrames base l):h'.FunFrames base l:=
 hl.of_keeps fun b o e d=>by
  obtain⟨sl,q⟩:=x.slot b o e fun z=>by
   obtain⟨vs,q⟩:=hc b z o e;exact d vs q
  exact⟨_,q,rfl⟩
section
theorem Zt {L e:Addr}{oe:Obj}{vs:Array Value}{head:Value}{hadNext:Bool}{Q:Unit->Shared->Prop}
  (hfr:A.frames=some (env::outer)) (hl:s.heap.FunFrames base (env::outer)) (hf:env.frame=some L)
  (he:s.heap.get? e=some oe) (hc:oe.cls=.ref C) (hdc:oe.dict=d) (hd:oe.data=.fields vs) (hsz:1<vs.size)
  (k:∀ h' t,Exc h' e C d (some (t,rawInt L))->Mv (frs (env::outer)) [e] s.heap h'->s.heap.objs.size<=t->Q () { s with heap:=h' }) :
  wpAny M A (do let a <- frameOf env; let pl <- entryPlaceOf L hadNext; let b <- EntryCells.newEntry head a .none (rawInt L) .none pl; setField (.ref e) 1 b) Q E s:=by
 have hene:e∉(env::outer).filterMap (·.frame):=fun hm=>by
  obtain⟨_,o,ho,hnf⟩:=hl.mem hm;rw[he] at ho; injection ho with ho; subst ho; exact hnf vs hd
 refine Xa (wpAny_frameOf_fun hfr hl hf fun h₁ hs₁=>?_);refine Xa (wpAny_entryPlaceOf fun pl hpl=>?_);unfold EntryCells.newEntry newFields;refine Xa (wq ?_ (hpl.sizeOk5 _ _ _ _ _));have he₁:h₁.get? e=some oe:=(hs₁.2.1 e hene).trans he;generalize hO:({ cls:=.type "traceback",dict:=none,data:=.fields ([head,.ref L,.none,rawInt L,.none]++(if pl.isEmpty then List.replicate 6 Value.none else pl)).toArray }:Obj)=oT;have he₂:=Xc (h:=h₁) oT he₁;have m1:Mv (frs (env::outer)) [e] s.heap h₁:=Mv.of_slots hs₁;have m2:Mv (frs (env::outer)) [e] h₁ (h₁.push oT):=Mv.push oT;refine wpAny_setField he₂ hd hsz (k _ h₁.objs.size ?_ ((m1.trans m2).trans (Mv.fields _ he₂ hd)) (by rw[hs₁.1]; exact Xh _));have hTe:h₁.objs.size≠e:=wQ (Xo he₁);have hd₃:=we hd (·.setIfInBounds 1 (Value.ref h₁.objs.size));have he₃:=XZ (Obj.mapFields (·.setIfInBounds 1 (Value.ref h₁.objs.size))) he₂ (wX hd₃);have hnf:oT.isFreed=false:=by rw[<- hO]; rfl
 have hT₃:=(XH (h₁.push oT) (Obj.mapFields (·.setIfInBounds 1 (Value.ref h₁.objs.size))) (Ne.symm hTe)).trans (Xn h₁ hnf);refine⟨_,_,he₃,(Obj.cls_mapFields _ _).trans hc,?_,hd₃,by simp[hsz],fun p hp=>?_⟩
 ·obtain⟨c0,d0,dt0,s0⟩:=oe;cases dt0 <;> first | exact hdc | (cases hd)
 ·cases hp;refine⟨hTe,_,_,hT₃,by rw[<- hO],?_⟩
  first | (simp; done) | (rcases hpl with rfl | ⟨_,_,_,_,_,_,_,rfl⟩ <;> simp)
theorem jgj {L e:Addr}{Q:Unit->Shared->Prop}
  (hfr:A.frames=some (env::outer)) (hl:s.heap.FunFrames base (env::outer)) (hf:env.frame=some L) (x:Exc s.heap e C d T) (hT:∀ p,T=some p->p.2=.none)
  (k:∀ h' t,Exc h' e C d (some (t,rawInt L))->Mv (frs (env::outer)) (e::(T.map (·.1)).toList) s.heap h'->s.heap.objs.size<=t->Q () { s with heap:=h' }) :
  wpAny M A (noteFrame (.ref e) env) Q E s:=by
 obtain⟨oe,vs,he,hc,hdc,hd,h1,hp⟩:=x;have hsz:1<vs.size:=(Array.getElem?_eq_some_iff.mp h1).1;unfold noteFrame;simp only[hf];refine Xa (wpAny_field he hd h1 ?_);cases T with
 | none=>
  show wpAny M A (if (Value.none != Value.none)=true then _ else _) Q E s;rw[if_neg (by decide)];exact Zt hfr hl hf he hc hdc hd hsz fun h' t x m n=>k h' t x (m.mono (by simp)) n
 | some p=>
  obtain⟨hTe,oT,ts,hT₀,hdT,h3⟩:=hp p rfl;have hp2:=hT p rfl;obtain⟨T,fl⟩:=p;cases hp2;show wpAny M A (if (Value.ref T != Value.none)=true then _ else _) Q E s;rw[if_pos (show (Value.ref T != Value.none)=true from by simp)];refine Xa (wpAny_field hT₀ hdT h3 ?_);rw[if_neg (show ¬ ((Value.none==rawInt L)=true) from by simp[rawInt])];have m1:=Mv.fields (fs:=frs (env::outer)) (·.setIfInBounds 3 Value.none) hT₀ hdT;refine Xa (wpAny_setField hT₀ hdT (Array.getElem?_eq_some_iff.mp h3).1 ?_);refine Zt hfr (m1.frames (fun b hb o ho=>?_) hl) hf ((XH _ _ hTe).trans he) hc hdc hd hsz fun h' t x m n=>k h' t x ((m1.mono (by simp)).trans (m.mono (by simp))) ?_
  ·have e0:b=T:=by simpa using hb
   subst e0;rw[hT₀] at ho; cases ho;exact⟨ts,hdT⟩
  ·rw[Heap.size_after_update] at n; exact n
theorem VX {L e T:Addr}{Q:Unit->Shared->Prop} (hf:env.frame=some L) (x:Exc s.heap e C d (some (T,rawInt L))) (k:Q () s) :
  wpAny M A (noteFrame (.ref e) env) Q E s:=by
 obtain⟨oe,vs,he,hc,hdc,hd,h1,hp⟩:=x;obtain⟨hTe,oT,ts,hT₀,hdT,h3⟩:=hp _ rfl;unfold noteFrame;simp only[hf];refine Xa (wpAny_field he hd h1 ?_);show wpAny M A (if (Value.ref T != Value.none)=true then _ else _) Q E s;rw[if_pos (show (Value.ref T != Value.none)=true from by simp)];refine Xa (wpAny_field hT₀ hdT h3 ?_);rw[if_pos (show (rawInt L==rawInt L)=true from by simp)];exact Xb k
theorem jcj {e T:Addr}{fl:Value}{fr:Option Addr}{fs:List Addr}{Q:Unit->Shared->Prop} (x:Exc s.heap e C d (some (T,fl)))
  (k:∀ h',Exc h' e C d (some (T,fr.elim .none fun f=>rawInt f))->Mv fs [T] s.heap h'->Q () { s with heap:=h' }):wpAny M A (setFlight (.ref e) fr) Q E s:=by
 obtain⟨oe,vs,he,hc,hdc,hd,h1,hp⟩:=x;obtain⟨hTe,oT,ts,hT₀,hdT,h3⟩:=hp _ rfl;have hsz3:3<ts.size:=(Array.getElem?_eq_some_iff.mp h3).1;unfold setFlight;refine Xa (wpAny_field he hd h1 ?_);show wpAny M A (if (Value.ref T != Value.none)=true then _ else _) Q E s;rw[if_pos (show (Value.ref T != Value.none)=true from by simp)];refine wpAny_setField hT₀ hdT hsz3 (k _ ⟨oe,vs,(XH _ _ hTe).trans he,hc,hdc,hd,h1,fun p hp=>?_⟩ (Mv.fields _ hT₀ hdT));cases hp;exact⟨hTe,_,_,XZ _ hT₀ (wX (we hdT _)),we hdT _,by simp[hsz3]⟩
end
section
theorem Inv.nopins (I:Inv X pins σ H s) (hpn:X.pn=[]):Inv X [] σ H s:=
 ⟨I.ok,I.os,I.bare,I.base,I.loc,I.cell,I.free,I.freeC,fun p hp=>by rw[hpn] at hp; exact absurd hp (by simp),I.hok,I.len⟩
theorem Inv.mv (I:Inv X [] σ H s) (hpn:X.pn=[]) (m:Mv (frs X.stack) ch s.heap h')
  (hch:∀ b∈ch,X.s₀.heap.get? b=none/\H b=none/\∃ o vs,s.heap.get? b=some o/\o.data=.fields vs):Inv X [] σ H { s with heap:=h' }:=by
 have neL:∀ b o,X.s₀.heap.get? b=some o->b≠X.env.locals:=fun b o e=>XA (Xt (Xo e) I.ok.above);have neC:∀ b o,X.s₀.heap.get? b=some o->b∉ch:=fun b o e hb=>by
  have:=(hch b hb).1;rw[e] at this; cases this
 have data:∀ b o,s.heap.get? b=some o->(∀ vs,o.data≠.fields vs)->b∉ch:=fun b o e d hb=>by
  obtain⟨_,_,o',vs,e',d'⟩:=hch b hb;rw[e] at e'; cases e';exact d vs d'
 have cellK:∀ c v,s.heap.IsCell c v->h'.IsCell c v:=fun c v ⟨o,ho,hd⟩=>by
  obtain⟨sl,q⟩:=m.slot c o ho (data c o ho fun vs z=>by rw[hd] at z; cases z);exact⟨_,q,hd⟩
 refine⟨I.ok,I.os,I.bare,⟨fun b o e n hb hx=>?_,fun b o e n hb hx=>?_,fun b o e n hx=>I.base.free b o e n hx,fun b o e hx=>?_,I.base.tups,I.base.frzs,I.base.tbls⟩,?_,fun x c e=>?_,I.free,I.freeC,fun p hp=>?_,fun b u e=>?_,I.len⟩
 ·refine m.keep b o (I.base.keep b o e n hb hx) (fun z=>?_) (neC b o e);rcases Xk.mp (I.stkSub b z) with q | q
  ·exact neL b o e q
  ·exact hb q
 ·obtain⟨sl,e1⟩:=I.base.slot b o e n hb hx;obtain⟨sl',e2⟩:=m.slot b _ e1 (neC b o e);exact⟨sl',e2⟩
 ·obtain⟨o',e1⟩:=I.base.there b o e hx;exact m.there b o' e1
 ·obtain⟨mm,⟨o,es,ep,ho,hd,r⟩,hl⟩:=I.loc;obtain⟨sl,q⟩:=m.slot _ o ho (data _ o ho fun vs z=>by rw[hd] at z; cases z);refine⟨mm,⟨_,es,ep,q,hd,r⟩,fun i x v e1 e2 e3=>?_⟩;obtain⟨u,rr,l⟩:=hl i x v e1 e2 e3;refine⟨u,rr,?_⟩;rcases l with l | ⟨k,c,e,z⟩
  ·exact .inl l
  ·exact .inr ⟨k,c,e,cellK c _ z⟩
 ·obtain⟨v,z⟩:=I.cell x c e;exact⟨v,cellK c v z⟩
 ·rw[hpn] at hp; exact absurd hp (by simp)
 ·refine(I.hok b u e).stay (fun c v hc q=>m.keep c v q (fun z=>?_) fun z=>?_) (fun _ q=>q) fun _ _ q=>q
  ·have n:=I.stkFree c z;rcases hc with hc | hc
   ·rw[hc,e] at n; cases n
   ·rw[hc] at n; cases n
  ·have n:=(hch c z).2.1;rcases hc with hc | hc
   ·rw[hc,e] at n; cases n
   ·rw[hc] at n; cases n
end
def CX1 (P:Program) (w:World):CXT:=fun outer H s E e s'=>
 ∃ a C d t H',e=.ref a/\Exc s'.heap a C d (some (t,.none))/\s.heap.get? a=none/\s.heap.get? t=none/\H' a=none/\H' t=none /\
  s'.os=s.os/\AllBare s'.gens/\Un (frs outer) [] H H' s.heap s'.heap/\HOk P w H' s'.heap/\E (.ref C) d H'
def Fly (X:Cx) (E:St->XK) (e:Value) (s':Shared):Prop:=
 ∃ a C d T σ H,e=.ref a/\Exc s'.heap a C d T/\(∀ p,T=some p->p.2=.none \/ p.2=rawInt X.env.locals)/\X.s₀.heap.get? a=none/\H a=none /\
  (∀ p,T=some p->X.s₀.heap.get? p.1=none/\H p.1=none)/\Inv X [] σ H s'/\E σ (.ref C) d H
structure Cx.Def (X:Cx):Prop where
 st:X.stack=X.env::X.outer
 fr:X.env.frame=some X.env.locals
 pn:X.pn=[]
 ex:X.ex=[]
section
variable {E:St->XK}{e:Value} 
theorem Exc.fieldsE (x:Exc h a C d T):∃ o vs,h.get? a=some o/\o.data=.fields vs:=by
 obtain⟨oe,vs,he,_,_,hd,_⟩:=x;exact⟨oe,vs,he,hd⟩
theorem Exc.fieldsT {p:Addr×Value} (x:Exc h a C d (some p)):∃ o vs,h.get? p.1=some o/\o.data=.fields vs:=by
 obtain⟨oe,vs,he,_,_,hd,_,k⟩:=x;obtain⟨_,oT,ts,h1,h2,_⟩:=k p rfl;exact⟨oT,ts,h1,h2⟩
theorem Inv.old (I:Inv X pins σ H s) (hex:X.ex=[]) {b:Addr} (n:s.heap.get? b=none):X.s₀.heap.get? b=none:=by
 cases q:X.s₀.heap.get? b with
 | none=>rfl
 | some o=>obtain⟨o',e'⟩:=I.base.there b o q (by rw[hex]; simp); rw[n] at e'; cases e'
theorem UD (D:X.Def) {Q:Unit->Shared->Prop} (x:Exc s.heap a C d T) (hT:∀ p,T=some p->p.2=.none \/ p.2=rawInt X.env.locals)
  (ha:X.s₀.heap.get? a=none) (hn:H a=none) (ht:∀ p,T=some p->X.s₀.heap.get? p.1=none/\H p.1=none) (I:Inv X [] σ H s)
  (k:∀ h' t,Exc h' a C d (some (t,rawInt X.env.locals))->X.s₀.heap.get? t=none->H t=none->Inv X [] σ H { s with heap:=h' }->Q () { s with heap:=h' }) :
  wpAny (model X.prog X.w) X.A (noteFrame (.ref a) X.env) Q Ex s:=by
 by_cases c:∃ t,T=some (t,rawInt X.env.locals)
 ·obtain⟨t,rfl⟩:=c;exact VX D.fr x (k s.heap t x (ht _ rfl).1 (ht _ rfl).2 I)
 ·have hfr:X.A.frames=some (X.env::X.outer):=by rw[<- D.st]; exact I.ok.frames
  have hl:s.heap.FunFrames X.base (X.env::X.outer):=by rw[<- D.st]; exact I.stack
  refine jgj hfr hl D.fr x (fun p hp=>?_) fun h' t x' m n=>k h' t x' (I.old D.ex (Heap.get?_none_of_le n)) (I.hok.fresh n) (I.mv D.pn (by rw[D.st]; exact m) fun b hb=>?_)
  ·rcases hT p hp with q | q
   ·exact q
   ·exact absurd ⟨p.1,by rw[hp,<- q]⟩ c
  ·rcases Xk.mp hb with q | q
   ·subst q; exact ⟨ha,hn,x.fieldsE⟩
   ·cases T with
    | none=>simp at q
    | some p=>
     have e0:b=p.1:=by simpa using q
     subst e0;exact⟨(ht p rfl).1,(ht p rfl).2,x.fieldsT⟩
theorem yQ (D:X.Def) {t:Addr}{fl:Value}{fr:Option Addr}{Q:Unit->Shared->Prop} (x:Exc s.heap a C d (some (t,fl))) (h1:X.s₀.heap.get? t=none) (h2:H t=none) (I:Inv X [] σ H s)
  (k:∀ h',Exc h' a C d (some (t,fr.elim .none fun f=>rawInt f))->Inv X [] σ H { s with heap:=h' }->Q () { s with heap:=h' }) :
  wpAny (model X.prog X.w) X.A (setFlight (.ref a) fr) Q Ex s:=by
 refine jcj (fs:=frs X.stack) x fun h' x' m=>k h' x' (I.mv D.pn m fun b hb=>?_);have e0:b=t:=by simpa using hb
 subst e0;exact⟨h1,h2,x.fieldsT⟩
theorem jck {E:XK} (D:X.Def) (f:Fly X (fun _=>E) e s):wpAny (model X.prog X.w) X.A (leaving X.env e) (fun _ s'=>CX1 X.prog X.w X.outer X.H₀ X.s₀ E e s') Ex s:=by
 obtain⟨a,C,d,T,σ,H,rfl,x,hT,ha,hn,ht,I,q⟩:=f;unfold leaving;refine Xa (UD D x hT ha hn ht I fun h' t x1 n1 n2 I1=>?_);refine yQ (s:={ s with heap:=h' }) (fr:=none) D x1 n1 n2 I1 fun h2 x2 I2=>?_
 refine⟨a,C,d,t,H,rfl,x2,ha,n1,hn,n2,I2.os,I2.bare,?_,I2.hok,q⟩;have u:=I2.base;rw[D.ex] at u;exact u
theorem jgk {E:XK} (D:X.Def) (I:Inv X pins σ H s) (c:CX1 X.prog X.w X.stack H s E e s'):Fly X (fun σ' cl d H'=>σ'=σ/\E cl d H') e s':=by
 obtain⟨a,C,d,t,H',rfl,x,h1,h2,n1,n2,os,bare,un,hok,q⟩:=c;exact⟨a,C,d,some (t,.none),σ,H',rfl,x,fun p hp=>by cases hp; exact .inl rfl,I.old D.ex h1,n1,fun p hp=>by cases hp; exact ⟨I.old D.ex h2,n2⟩,
  (I.call' os un hok bare (fun b z=>absurd z (by simp))).nopins D.pn,rfl,q⟩
theorem jir (D:X.Def):PassesOwn (model X.prog X.w) X.A X.env (Fly X E):=by
 intro e s f;obtain⟨a,C,d,T,σ,H,rfl,x,hT,ha,hn,ht,I,q⟩:=f;refine UD D x hT ha hn ht I fun h' t x1 n1 n2 I1=>?_;unfold cameBackBy;obtain⟨oe,vs,he,hc,hdc,hd,h1,hp⟩:=id x1;refine Xa (wpAny_field (s:={ s with heap:=h' }) he hd h1 ?_)
 show wpAny _ _ (if (Value.ref t==Value.none)=true then _ else _) _ _ _;rw[if_neg (by simp)];show wpAny (model X.prog X.w) X.A (setFlight (.ref a) X.env.frame) _ _ _;refine yQ (s:={ s with heap:=h' }) D x1 n1 n2 I1 fun h2 x2 I2=>?_
 rw[D.fr] at x2;exact⟨a,C,d,_,σ,H,rfl,x2,fun p hp=>by cases hp; exact .inr rfl,ha,hn,fun p hp=>by cases hp; exact ⟨n1,n2⟩,I2,q⟩
theorem Fly.imp {E':St->XK} (k:∀ σ c d H,E σ c d H->E' σ c d H) (f:Fly X E e s):Fly X E' e s:=by
 obtain⟨a,C,d,T,σ,H,rfl,x,hT,ha,hn,ht,I,q⟩:=f;exact⟨a,C,d,T,σ,H,rfl,x,hT,ha,hn,ht,I,k _ _ _ _ q⟩
end
def jkJ:Value->Bool
 | .ref _=>true
 | _=>false
def mroVE:List Value:=[.type "ValueError",.type "Exception",.type "BaseException",.type "object"]
def Zu (l:List Value):Bool:=l.dropWhile jkJ==mroVE
theorem Vf (self:Value) (what:Str):∀ l:List Value,refuseLoop self what l=refuseLoop self what (l.dropWhile jkJ)
 | []=>rfl
 | v::r=>by
  rw[List.dropWhile_cons];by_cases h:jkJ v=true
  ·rw[if_pos h];cases v with
   | ref c=>rw[refuseLoop_ref]; exact Vf self what r
   | _=>cases h
  ·rw[if_neg h]
theorem W2 (self:Value) {l:List Value} (e:Zu l=true):refuseLoop self "__setattr__" l=pure ():=by
 rw[Vf,wj.mp e]; exact PySem.F.store_ValueError.passes self
theorem QU (hv:mroVE.contains v=true) {l:List Value} (e:Zu l=true):l.contains v=true:=by
 have h:v∈l.dropWhile jkJ:=by rw[wj.mp e]; exact List.contains_iff_mem.mp hv
 exact List.contains_iff_mem.mpr ((List.dropWhile_sublist _).subset h)
structure XCls (K:W.Frag) (C:Addr):Prop where
 over:(W.clsIn K C).any (fun cd=>Zu cd.mro)=true
 hd:W.hasDictIn K C=true
 sa:W.findIn K (.ref C) "__setattr__"=some (some (.builtin "object.__setattr__"))
section
variable {R:Result->Shared->Prop}{x:Addr}
open PySem.W in
theorem jby {tk:Tok} (X:K.In s.heap) (I:InstAt s.heap x ox C od) (c:XCls K C) (n:NoAttr K C name)
  (h:∀ b,wpAny (model prog w) A.in1 (Builtin.ObjectAttr.storeInOwnDict (.ref x) (.ref C) (.str name tk) name v b)
   (fun fin s'=>match fin with | .done f=>R (.ok f) s' | .again c'=>c'.quiet=true/\codeAny (model prog w) A c' R s') (fun e s'=>R (.error e) s') s) :
  codeAny (model prog w) A (.call (.builtin "object.__setattr__") ⟨[.ref x,.str name tk,v],[]⟩) R s:=by
 have SF:=PySem.F.store_object;obtain⟨cd,hc,ho⟩:=any_some c.over;have ht:=n.taker;have ne:cd.mro.isEmpty=false:=by cases q:cd.mro with | nil=>rw[q] at ho; cases ho | cons _ _=>rfl
 have sub:Looks (model prog w) s.heap (isInstance (.ref x) (.type "object")) true:=I.type.andThen (looks_mroIn X (by unfold mroIn; rw[hc,Option.bind_some,if_neg (by rw[ne]; decide),QU (v:=.type "object") (by decide) ho]));refine codeAny_call_builtin SF.slot.plain SF.entry (@check_slot (model prog w) _ _ s "object.__setattr__" "object" "__setattr__" (.ref x) [.str name tk,v] [] _ SF.kind SF.split sub (SF.args (.ref x) (.str name tk) v) ?_);obtain⟨attr,ha,hr⟩:=Option.bind_eq_some_iff.mp ht;have hm:Looks (model prog w) s.heap (mroOf (.ref C)) cd.mro:=(looks_clsIn X hc).andThen .now;have L3:Looks (model prog w) s.heap (Builtin.ObjectAttr.storeTaker? attr) none:=by
  cases attr with
  | none=>exact .now
  | some a=>
   obtain⟨b,hb,q⟩:=Option.map_eq_some_iff.mp hr;refine(looks_takesIn X hb).andThen ?_;cases b
   ·exact .now
   ·cases q
 rw[osa_eq,refuse_eq];refine Xa (Xa (I.type.here (Xa (hm.here ?_))));rw[W2 _ ho];refine Xb (Xa (I.type.here (Xa ((looks_findIn X ha).here (Xa (L3.here ?_))))));exact h _
theorem jcl {Q:Unit->Shared->Prop} (X:K.In s.heap) (hx:s.heap.get? x=some ox) (hcl:ox.cls=.ref C) (hdn:ox.dict=none) (hnc:W.notCls ox=true) (c:XCls K C) (n:NoAttr K C name)
  (h:∀ h',h'.get? x=some { ox with dict:=some s.heap.objs.size }->h'.Ns1 s.heap.objs.size (fun y=>if y=name then some v else none)->(∀ b o,b≠x->s.heap.get? b=some o->h'.get? b=some o) ->
   Q () { s with heap:=h',toks:=s.toks+2 }):wpAny (model prog w) A (setAttr (.ref x) name v) Q E s:=by
 have J:W.InstAt s.heap x ox C none:=⟨hx,hcl,hnc,by rw[hdn]; trivial⟩;refine W.set_plain X J c.sa (jby (s:={ s with toks:=s.toks+1 }) X J c n fun b=>?_)
 obtain⟨cd,hc,hd'⟩:=W.any_some c.hd;obtain⟨oc,odi,oda,osl⟩:=ox;dsimp only at hcl hdn;subst hcl hdn;obtain⟨hp,g,dr,tk,os⟩:=s;refine Xa (Xb (Xa (Xa (wpAny_loadPart hx (Xa (W.Looks.here (s:=⟨hp,g,dr,tk+1,os⟩) (W.looks_clsIn X hc) ?_))))));rw[hd'];have hxs:x≠hp.objs.size:=XA (Xo hx);have hfr:=(Heap.get?_some_iff.mp hx).2;have hx₁:(hp.push { cls:=.type "dict",data:=.dict #[] }).get? x=some ⟨.ref C,none,oda,osl⟩:=Xc _ hx;have hfr':(⟨.ref C,some hp.objs.size,oda,osl⟩:Obj).isFreed=false:=by cases oda <;> first | rfl | exact hfr
 have hx₂:=XZ (fun o=>{ cls:=o.cls,dict:=some hp.objs.size,data:=o.data,slots:=o.slots }) hx₁ hfr';have hgd:((hp.push { cls:=.type "dict",data:=.dict #[] }).update x fun o=>{ cls:=o.cls,dict:=some hp.objs.size,data:=o.data,slots:=o.slots }).get? hp.objs.size
  =some { cls:=.type "dict",data:=.dict #[] }:=(Heap.get?_update_ne _ _ _ _ hxs.symm).trans (Heap.get?_push_at rfl rfl)
 have hnd:((hp.push { cls:=.type "dict",data:=.dict #[] }).update x fun o=>{ cls:=o.cls,dict:=some hp.objs.size,data:=o.data,slots:=o.slots }).Ns hp.objs.size (fun _=>none):=
  ⟨_,#[],_,hgd,rfl,fun e he=>absurd he (by simp),fun _=>rfl⟩
 have go:wpAny (model prog w) A.in1 (Builtin.ObjectAttr.storeInDict hp.objs.size (.str name tk) name v)
   (fun fin s'=>match fin with | .done f=>(match (Except.ok f:Result) with | .ok (.ret _)=>Q () s' | .ok _=>False | .error e=>E e s') | .again c'=>c'.quiet=true/\codeAny (model prog w) A c' (fun r s'=>match r with | .ok (.ret _)=>Q () s' | .ok _=>False | .error e=>E e s') s') (fun e s'=>E e s')
   ⟨(hp.push { cls:=.type "dict",data:=.dict #[] }).update x fun o=>{ cls:=o.cls,dict:=some hp.objs.size,data:=o.data,slots:=o.slots },g,dr,tk+1,os⟩:=by
  unfold Builtin.ObjectAttr.storeInDict Builtin.ObjectAttr.newKeyGuard;refine Xa (Xb (Xa (wpAny_nsSet1 (Heap.Ns1.of_empty hnd) fun h' hn' hs=>?_)));obtain⟨oD,esD,epD,hoD,hdD,hcD⟩:=hn'.count (Within.cons name v Within.nil);refine Xa (wpAny_lookBehind hoD (by rw[hdD]; exact pastItsLine_dict (X6 hcD (by rw[Xm,List.length_nil,wa]; omega))) ?_);refine Xb (h h' ((hs.2 x hxs).trans hx₂) hn' fun b ob hbx hb=>?_);exact(hs.2 b (XA (Xo hb))).trans ((Heap.get?_update_ne _ _ _ _ hbx).trans (Xc _ hb))
 rw[if_neg (by decide)];show wpAny _ _ (if (!true||!typeHasDict (Value.ref C))=true then _ else _) _ _ _
 rw[if_neg (by simp[typeHasDict])];cases oda with
 | cls k=>cases hnc
 | _=>exact Xa (wpAny_alloc' (Xa (wpAny_update' hx₁ (Xb go))))
theorem jen {ns:List Str}{Q:Unit->Shared->Prop} (X:K.In s.heap) (hx:s.heap.get? x=some ox) (hcl:ox.cls=.ref C) (hdn:ox.dict=some dx) (hnc:W.notCls ox=true)
  (c:XCls K C) (n:NoAttr K C name) (hn:s.heap.Ns1 dx mA) (hw:PySem.Within mA ns) (hsz:ns.length<sizeLine)
  (h:∀ h',h'.Ns1 dx (fun y=>if y=name then some v else mA y)->Heap.SameBut dx s.heap h'->Q () { s with heap:=h',toks:=s.toks+2 }):wpAny (model prog w) A (setAttr (.ref x) name v) Q E s:=by
 obtain⟨od,ho,_⟩:=Qf hn;have J:W.InstAt s.heap x ox C (some od):=⟨hx,hcl,hnc,by rw[hdn]; exact ho⟩;refine W.set_plain X J c.sa (jby (s:={ s with toks:=s.toks+1 }) X J c n fun b=>?_)
 obtain⟨cd,hc,hd'⟩:=W.any_some c.hd;obtain⟨oc,odi,oda,osl⟩:=ox;dsimp only at hcl hdn;subst hcl hdn;refine Xa (Xb (Xa (Xa (wpAny_loadPart hx (Xa (W.Looks.here (s:={ s with toks:=s.toks+1 }) (W.looks_clsIn X hc) ?_))))))
 rw[hd'];refine Xb (a:=some dx) (Xa (Xb (Xa ?_)));refine wpAny_nsSet1 (s:={ s with toks:=s.toks+1 }) hn fun h' hn2 hs2=>?_
 obtain⟨oD,esD,epD,hoD,hdD,hcD⟩:=hn2.count (PySem.Within.cons name v hw);refine Xa (wpAny_lookBehind hoD (by rw[hdD]; exact pastItsLine_dict (X6 hcD (by rw[Xm]; omega))) ?_);exact Xb (h _ hn2 hs2)
end
def XO (x C:Addr) (d:Option Addr) (fr:Bool):HO:=.ext fun h=>∃ o vs,h.get? x=some o/\o.cls=.ref C/\o.dict=d/\o.data=.fields vs/\(fr=true->vs[1]?=some .none)
def XD (dx:Addr) (fs:List (Str×V)):HO:=.ext fun h=>∃ mA,h.Ns1 dx mA/\(∀ f,RelO (fs.lookup f) (mA f))/\PySem.Within mA (fs.map (·.1))
theorem XO.ok {P:Program}{x:Addr}{vs:Array Value} (e:h.get? x=some o) (h1:o.cls=.ref C) (h2:o.dict=d) (h3:o.data=.fields vs) (h4:fr=true->vs[1]?=some .none) :
  ObjOk P w H h x (XO x C d fr):=⟨⟨o,vs,e,h1,h2,h3,h4⟩,⟨o,e⟩,fun _ _ ⟨o,vs,e,r⟩ k=>⟨o,vs,k o e,r⟩⟩
theorem XD.ok {P:Program}{fs:List (Str×V)} (n:h.Ns1 dx mA) (r:∀ f,RelO (fs.lookup f) (mA f)) (wi:PySem.Within mA (fs.map (·.1))) :
  ObjOk P w H h dx (XD dx fs):=⟨⟨mA,n,r,wi⟩,let ⟨o,_,_,e,_⟩:=n; ⟨o,e⟩,fun _ _ ⟨mA,n,r⟩ k=>⟨mA,n.at k,r⟩⟩
section
variable {fs:List (Str×V)}{f:Str}{v:V} 
theorem x9 {vs:Array Value} (d:o.data=.fields vs):W.notCls o=true:=by unfold W.notCls; rw[d]
theorem jaC {y:V}{Q:Unit->Shared->Prop} (I:Inv X pins σ H s) (e:H a=some (XO a C none fr)) (c:XCls X.K C) (n:NoAttr X.K C f) (ry:RelV y u)
  (h:∀ dx s',H dx=none->dx≠a->Inv X pins σ (upd (upd H dx (XD dx [(f,y)])) a (XO a C (some dx) fr)) s'->Q () s'):wpAny (model X.prog X.w) A (setAttr (.ref a) f u) Q E s:=by
 obtain⟨⟨o,vs,ho,h1,h2,h3,h4⟩,_⟩:=I.hok a _ e;have ne:s.heap.objs.size≠a:=wQ (Xo ho);have hf:=I.hok.fresh (Xh s.heap.objs.size);refine jcl I.kIn ho h1 h2 (x9 h3) c n fun h' e1 e2 e3=>h s.heap.objs.size _ hf ne ?_;have kp:∀ b q,b≠a->s.heap.get? b=some q->h'.get? b=some q:=fun b q nb z=>e3 b q nb z;have wi:PySem.Within (fun g=>if g=f then some u else none) (([(f,y)]:List (Str×V)).map (·.1)):=fun g hg=>by
  by_cases q:g=f
  ·rw[q]; simp
  ·exact absurd (if_neg q) hg
 have rl:∀ g,RelO (([(f,y)]:List (Str×V)).lookup g) (if g=f then some u else none):=fun g=>by
  have z:=jF f g y [];rw[show ([(f,y)]:List (Str×V)).lookup g=if g=f then some y else none from z];by_cases q:g=f
  ·rw[if_pos q,if_pos q]; exact ry
  ·rw[if_neg q,if_neg q]; exact True.intro
 have mu:Mut (H a):=by rw[e]; exact True.intro
 have I1:Inv X pins σ (upd H a (XO a C (some s.heap.objs.size) fr)) { s with heap:=h',toks:=s.toks+2 }:=
  I.write (x:=a) (e:=a) mu (.inl rfl) kp ⟨_,e1⟩ (XO.ok e1 h1 rfl h3 h4)
 have ok2:HOk X.prog X.w (upd (upd H s.heap.objs.size (XD s.heap.objs.size [(f,y)])) a (XO a C (some s.heap.objs.size) fr)) h':=fun b q z=>by
  by_cases hb:b=a
  ·subst hb; rw[jV] at z; cases z; exact XO.ok e1 h1 rfl h3 h4
  ·rw[jM hb] at z;by_cases hb2:b=s.heap.objs.size
   ·subst hb2; rw[jV] at z; cases z; exact XD.ok e2 rl wi
   ·rw[jM hb2] at z;have:=I1.hok b q (by rw[jM hb]; exact z);refine this.stay (fun _ _ _ r=>r) (fun c' r=>?_) fun c' xs r=>?_
    ·by_cases q1:c'=a
     ·subst q1; rw[jV] at r ⊢; exact r
     ·rw[jM q1] at r ⊢;have q2:c'≠s.heap.objs.size:=fun z2=>by rw[z2,hf] at r; cases r
      rw[jM q2]; exact r
    ·by_cases q1:c'=a
     ·subst q1; rw[jV] at r ⊢; exact r
     ·rw[jM q1] at r ⊢;have q2:c'≠s.heap.objs.size:=fun z2=>by rw[z2,hf] at r; cases r
      rw[jM q2]; exact r
 refine I.un (t':=s.toks+2) (H':=upd (upd H s.heap.objs.size (XD s.heap.objs.size [(f,y)])) a (XO a C (some s.heap.objs.size) fr)) (h':=h') ⟨fun b q z nb _ _=>?_,fun b q z nb _ _=>⟨q.slots,?_⟩,fun b q z nb _=>?_,fun b q z _=>?_,fun b xs z=>?_,fun b q u z=>?_,fun b ps z=>⟨#[],?_⟩⟩ ok2
 ·exact kp b q (fun z2=>by rw[z2,e] at nb; cases nb) z
 ·exact kp b q (fun z2=>by rw[z2,e] at nb; cases nb) z
 ·rw[jM (fun z2=>by rw[z2,e] at nb; cases nb),jM (XA (Xo z))]; exact nb
 ·by_cases hb:b=a
  ·rw[hb]; exact ⟨_,e1⟩
  ·exact⟨q,kp b q hb z⟩
 ·rw[jM (fun z2=>by rw[z2,e] at z; cases z),jM (fun z2=>by rw[z2,hf] at z; cases z)]; exact z
 ·rw[jM (fun z2=>by rw[z2,e] at z; cases z),jM (fun z2=>by rw[z2,hf] at z; cases z)]; exact z
 ·rw[jM (fun z2=>by rw[z2,e] at z; cases z),jM (fun z2=>by rw[z2,hf] at z; cases z),z]; simp
theorem jcm {y:V}{Q:Unit->Shared->Prop} (I:Inv X pins σ H s) (e:H a=some (XO a C (some dx) fr)) (ed:H dx=some (XD dx fs)) (nd:dx≠a) (c:XCls X.K C) (n:NoAttr X.K C f) (hl:fs.length<1000) (ry:RelV y u)
  (h:∀ s',Inv X pins σ (upd H dx (XD dx (QM f y fs))) s'->Q () s'):wpAny (model X.prog X.w) A (setAttr (.ref a) f u) Q E s:=by
 obtain⟨⟨o,vs,ho,h1,h2,h3,h4⟩,_⟩:=I.hok a _ e;obtain⟨⟨mA,hn,r,wi⟩,_⟩:=I.hok dx _ ed;refine jen I.kIn ho h1 h2 (x9 h3) c n hn wi (by rw[Xr,wa]; omega) fun h' e1 e2=>h _ ?_;have mu:Mut (H dx):=by rw[ed]; exact True.intro
 refine I.write (x:=dx) (e:=dx) mu (.inl rfl) (fun b q hb z=>(e2.2 b hb).trans z) (let ⟨o,_,_,e',_⟩:=e1; ⟨o,e'⟩) (XD.ok e1 (fun g=>?_) fun g hg=>?_)
 ·rw[jF];by_cases q:g=f
  ·rw[if_pos q,if_pos q]; exact ry
  ·rw[if_neg q,if_neg q]; exact r g
 ·by_cases q:g=f
  ·rw[q]; exact (GT f y fs).1
  ·refine(GT f y fs).2 g (wi g fun z=>hg ?_);show (if g=f then some u else mA g)=none;rw[if_neg q]; exact z
end
def sX (K:W.Frag) (ta tv:TE) (f:Str):TS:=fun D σ H=>tv σ H fun y H1=>ta σ H1 fun x H2=>∃ a C,x=.ref a/\XCls K C/\NoAttr K C f /\
  ((H2 a=some (XO a C none true)/\∀ dx,H2 dx=none->dx≠a->D.nx σ (upd (upd H2 dx (XD dx [(f,y)])) a (XO a C (some dx) true))) \/
   ∃ dx fs,H2 a=some (XO a C (some dx) true)/\H2 dx=some (XD dx fs)/\dx≠a/\fs.length<1000/\D.nx σ (upd H2 dx (XD dx (QM f y fs))))
section
variable {f:Str}{o:Expr} 
theorem jlU (ha:PE X o ta) (hv:PE X value tv) (hs:swapsWith value (some (.Attribute o f pos')) pos.line X.env=pure false):PS X (.Assign [.Attribute o f pos'] value pos) (sX X.K ta tv f):=by
 intro pins s σ H D I h;refine plainObj_wpAny_Assign_Attribute (thn (hv pins s σ H _ I h) fun u s1 ⟨y,H1,I1,ry,q⟩=>thn (ha pins s1 σ H1 _ I1 q) fun ov s2 ⟨x,H2,I2,rx,a,C,ex,c,n,q2⟩=>?_) hs;subst ex;obtain rfl:ov=Value.ref a:=rx;rcases q2 with⟨e,k⟩ | ⟨dx,fs,e,ed,nd,l,k⟩
 ·exact jaC I2 e c n ry fun dx s3 n1 n2 I3=>⟨σ,_,I3,k dx n1 n2⟩
 ·exact jcm I2 e ed nd c n l ry fun s3 I3=>⟨σ,_,I3,k⟩
end
open PySem.W in
def zK (K:Frag) (C:Addr) (fo:Option Addr):Bool:=match K.lookup C with
 | some ⟨.type "type",_,.cls cd,sl⟩=>(match cd.mro,sl.toList with
  | .ref C'::bm,[_,_,_,_,some (.builtin n),_]=>C'==C&&n=="ValueError.__new__"&&!cd.hasDel&&tailIn K mroVE bm&&nsOkIn K cd.ns&&nsIn K cd.ns "__init__"==some (fo.map .ref)
  | _,_=>false)
 | _=>false
open PySem.W in
theorem jeo {K:Frag}{N:Addr}{n:Str}{r:Option Value} (X:K.In h) (G:h.Ns N mg) (e:nsIn K N n=some r):mg n=r:=by
 obtain⟨o,es,ep,ho,hd,_,hf⟩:=G;unfold nsIn at e;split at e
 ·rename_i c d es' n' sl q
  have:=X _ _ q;rw[ho] at this;cases this;cases hd;rw[<- hf];unfold nsFind findBy;rw[<- Array.find?_toList];split at e
  ·rename_i y he
   rw[he];cases e; rfl
  ·rename_i he
   rw[he]
   first | (cases e; rfl) | (split at e <;> first | (cases e; rfl) | cases e)
 ·cases e
structure ExcC (h:Heap) (C:Addr) (fo:Option Addr) (nm q:Str) (N:Addr) (bs bm:List Value) (hdct:Bool) (sn:List Str) (sub:List Value) (ab:Bool) (col:Option Bool) (dd:Option Addr) (k0 k1 k2 k3 k5:Option Value) (mN:Str->Option Value):Prop where
 obj:h.get? C=some (excClassObj nm q C N bs bm hdct sn sub ab col dd k0 k1 k2 k3 k5 "ValueError.__new__")
 ns:h.Ns N mN
 init:mN "__init__"=fo.map .ref
 tail:OwnTail h mroVE bm
open PySem.W in
theorem QV {K:Frag} (X:K.In h) (e:zK K C fo=true):∃ nm q N bs bm hdct sn sub ab col dd k0 k1 k2 k3 k5 mN,ExcC h C fo nm q N bs bm hdct sn sub ab col dd k0 k1 k2 k3 k5 mN:=by
 unfold zK at e;split at e
 ·rename_i dd cd sl ho
  split at e
  ·rename_i C' bm k0 k1 k2 k3 n k5 hm hs
   simp only[XB,wj,Bool.not_eq_true'] at e;obtain⟨⟨⟨⟨⟨rfl,rfl⟩,hdel⟩,ht⟩,hok⟩,hni⟩:=e;obtain⟨nm,bs,mro,ns,qn,hd,sn,sub,ab,col,del⟩:=cd;dsimp only at hm hdel hok hni;subst hm hdel;have hsl:sl=#[k0,k1,k2,k3,some (.builtin "ValueError.__new__"),k5]:=by
    obtain⟨l⟩:=sl;simp only at hs;rw[hs]
   subst hsl;exact⟨nm,qn,ns,bs,bm,hd,sn,sub,ab,col,dd,k0,k1,k2,k3,k5,_,X _ _ ho,.of_isNs (isNs_of_in X hok),jeo X (.of_isNs (isNs_of_in X hok)) hni,tail_of_in X ht⟩
  ·cases e
 ·cases e
section
variable {g:Array GenState}{d:Drawn}{t:Nat}{os:OsState}
variable {q:Str}{N fI:Addr}{bs:List Value}{dd:Option Addr} 
abbrev jk4 (rest:List Value):Obj:={ cls:=.type "tuple",data:=.seq rest.toArray }
abbrev jis (C t:Addr):Obj:={ cls:=.ref C,data:=.fields #[.ref t,.none,.none,.none,.bool false,.none] }
abbrev jfh (h:Heap) (C:Addr) (rest:List Value):Heap:=(h.push (jk4 rest)).push (jis C h.objs.size)
theorem jep {rest:List Value}{oI:Obj}{Q:Fin->Shared->Prop} (c:ExcC h C (some fI) nm q N bs bm hdct sn sub ab col dd k0 k1 k2 k3 k5 mN)
  (hfI:h.get? fI=some oI) (hfc:oI.cls=.type "function")
  (hq:wpAny (model prog w) A (call (.ref fI) (.ref (h.objs.size+1)::rest)) (fun r s'=>r=.none/\Q (.done (.ret (.ref (h.objs.size+1)))) s') E ⟨jfh h C rest,g,d,t,os⟩) (hrest:rest.length<=sizeLine) :
  wpAny (model prog w) A (Builtin.«type.__call__» ⟨.ref C::rest,[]⟩) Q E ⟨h,g,d,t,os⟩:=by
 have F:=PySem.F.excBase_ValueError;have hC:=c.obj;have T:OwnTail h [.type "ValueError",.type "Exception",.type "BaseException",.type "object"] bm:=c.tail
 repeat (first | with_reducible refine wB hC ?_ | with_reducible refine wpAny_madeBy_exc hC ?_ | wp_step)
 refine codeAny_call_builtin_code (Code.quiet_builtin _ F.quiet) (wpAny_check_new_subT F T hC ?_);refine codeAny_exc_new_subT F T hC ?_ hrest;show wpAny _ _ _ _ _ _;have kp:∀ b o,h.get? b=some o->(jfh h C rest).get? b=some o:=fun b o e=>Xc _ (Xc _ e);have hC₁:=kp _ _ hC;have hfI₁:=kp _ _ hfI;have hn₁:(jfh h C rest).Ns N mN:=c.ns.keeps kp;have hget:(jfh h C rest).get? (h.objs.size+1)=some (jis C h.objs.size):=by heap_get
 have hcC:(Value.ref C::bm).contains (.ref C)=true:=by simp
 have T₁:=T.keeps kp;unfold isInstance
 repeat (first | with_reducible refine wB hget ?_ | (with_reducible refine wpAny_isSubtype_exc hC₁ ?_; rw[hcC]) | wp_step)
 show wpAny _ _ (typeLookup (.ref C) _) _ _ _;refine wpAny_typeLookup_tail hC₁ hn₁ T₁ F.mroIs F.init.lookup ?_;rw[c.init];refine X2 (Xa ?_);unfold bindSpecial;refine Xa (wpAny_typeOf (T:="function") ⟨_,hfI₁,hfc⟩ ?_);rw[if_pos (by decide)];refine Xb (Xa (wg hq (fun r s' hr=>?_) fun _ _ x=>x));obtain⟨rfl,hQ⟩:=hr
 wp_walk
 exact hQ
theorem jgl {rest:List Value}{oI:Obj} (c:ExcC h C (some fI) nm q N bs bm hdct sn sub ab col dd k0 k1 k2 k3 k5 mN)
  (hfI:h.get? fI=some oI) (hfc:oI.cls=.type "function")
  (hq:wpAny (model prog w) (A.under (.builtin "type.__call__" ⟨.ref C::rest,[]⟩)) (call (.ref fI) (.ref (h.objs.size+1)::rest)) (fun r s'=>r=.none/\Q (.ref (h.objs.size+1)) s') E ⟨jfh h C rest,g,d,t,os⟩) (hrest:rest.length<=sizeLine) :
  wpAny (model prog w) A (call (.ref C) rest) Q E ⟨h,g,d,t,os⟩:=by
 have f1:=tc_lookup;have f2:=tc_bind (.ref C);have hC:=c.obj;have hT:(⟨h,g,d,t,os⟩:Shared).TypeIs (.ref C) "type":=⟨_,hC,rfl⟩;refine wpAny_call (codeAny_of_tree ?_);show wpAny _ _ (callAny (.ref C) _) _ _ _
 repeat (any_goals (first | assumption | with_reducible refine wB hC ?_ | wp_step))
 refine⟨rfl,?_⟩;refine codeAny_call_builtin_at (Code.quiet_builtin _ (by decide +kernel)) entry_typeCall (wpAny_check_type_call_sub hC (jep c hfI hfc (wg hq (fun r s' z=>?_) fun _ _ z=>z) hrest));exact⟨z.1,z.2⟩
end
section
variable {q:Str}{N:Addr}{bs:List Value}{dd:Option Addr} 
theorem jcn {x:Sem Value}{Q:Flow->Shared->Prop} (hh:A.handled=none)
  (h:wpAny M A x (fun v s₁=>∃ e oe vs,v=.ref e/\ExcC s₁.heap C fo nm q N bs bm hdct sn sub ab col dd k0 k1 k2 k3 k5 mN/\s₁.heap.get? e=some oe/\oe.cls=.ref C/\oe.data=.fields vs/\vs[1]?=some .none/\E (.ref e) s₁) E s) :
  wpAny M A (raiseStmt env (some x) none) Q E s:=by
 unfold raiseStmt;refine Xa (wg h (fun v s₁ h₁=>?_) fun _ _ x=>x);obtain⟨e,oe,vs,rfl,c,he,hcls,hdat,hv1,hE⟩:=h₁;have hC:=c.obj;have hcB:(Value.ref C::bm).contains (.type "BaseException")=true:=by rw[List.contains_cons,c.tail.hasType (X:="BaseException") (b:=true) (by decide),Bool.or_true]
 obtain⟨hp,g,d,tk,os⟩:=s₁;obtain⟨oc,od,odt,osl⟩:=oe;dsimp only at hcls hdat;subst hcls hdat
 repeat (first | with_reducible refine wB he ?_ | with_reducible refine wB hC ?_ | (with_reducible refine wpAny_isSubtype_exc hC ?_; rw[hcB]) | wp_step)
 rw[hv1];refine Xb ?_;rw[if_neg (by decide)];exact Xb (wpAny_raiseNew_none hh hE)
theorem Wm {Q:Flow->Shared->Prop} (hh:A.handled=none)
  (h:wpAny M A (eval e env) (fun v s₁=>∃ e oe vs,v=.ref e/\ExcC s₁.heap C fo nm q N bs bm hdct sn sub ab col dd k0 k1 k2 k3 k5 mN/\s₁.heap.get? e=some oe/\oe.cls=.ref C/\oe.data=.fields vs/\vs[1]?=some .none/\E (.ref e) s₁) E s) :
  wpAny M A (exec (.Raise (some e) none pos) env) Q E s:=by
 rw[arm_exec_Raise];refine Xa (wpAny_standAt ?_);show wpAny M A (raiseStmt env (some (do let v <- eval e env; standAt pos; pure v)) none) Q E s;exact jcn hh (Xa (wg h (fun v s₁ h₁=>Xa (wpAny_standAt (Xb h₁))) fun _ _ x=>x))
end
def VY (H:Hp) (a:Addr):Hp:=fun b=>if b=a then none else H b
theorem zL:VY H a a=none:=if_pos rfl
theorem yL {b:Addr} (h:b≠a):VY H a b=H b:=if_neg h
section
theorem Inv.dropX (I:Inv X pins σ H s) (e:H a=some (XO a C d fr)):Inv X pins σ (VY H a) s:=by
 have no:∀ b u,H b=some u->(∀ φ,u≠.ext φ)->b≠a:=fun b u q n z=>by
  subst z; rw[q] at e; exact n _ (Option.some.inj e)
 have ok:HOk X.prog X.w (VY H a) s.heap:=fun b u q=>by
  have hb:b≠a:=fun z=>by subst z; rw[zL] at q; cases q
  rw[yL hb] at q;exact(I.hok b u q).stay (fun _ _ _ r=>r) (fun c r=>by rw[yL (no c _ r fun φ z=>by cases z)]; exact r) fun c xs r=>by rw[yL (no c _ r fun φ z=>by cases z)]; exact r
 have:=I.un (t':=s.toks) (H':=VY H a) (h':=s.heap) ⟨fun b q z _ _ _=>z,fun b q z _ _ _=>⟨q.slots,z⟩,fun b q z n _=>?_,fun b q z _=>⟨q,z⟩,fun b xs z=>?_,fun b o u z=>?_,fun b ps z=>⟨#[],?_⟩⟩ ok
 ·exact this
 ·by_cases hb:b=a
  ·subst hb; exact zL
  ·rw[yL hb]; exact n
 ·rw[yL (no b _ z fun φ q=>by cases q)]; exact z
 ·rw[yL (no b _ z fun φ q=>by cases q)]; exact z
 ·rw[yL (no b _ z fun φ q=>by cases q),z]; simp
end
structure XMk (K:W.Frag) (C f:Addr):Prop where
 exc:zK K C (some f)=true
 fn:W.isFn K (.ref f)=true
 kp:W.keepIn K (.ref C)=true
structure XMk0 (K:W.Frag) (C:Addr):Prop where
 exc:zK K C none=true
 kp:W.keepIn K (.ref C)=true
theorem jjQ {f:Addr} (X:K.In h) (e:W.isFn K (.ref f)=true):∃ o,h.get? f=some o/\o.cls=.type "function":=by
 have e:=wj.mp e;unfold W.typeIn at e;cases q:K.lookup f with
 | none=>simp[q] at e
 | some o=>exact ⟨o,X _ _ q,by simpa [q] using e⟩
section
variable {k:Nat}{f:Addr}{t:TA}{Er:St->XK}
theorem jit {Q:Addr->Hp->Prop}{vs:List V} (M:XMk X.K C f) (F:FnOk X.prog X.w X.K X.mg X.base CX0 k f fd ps sp) (hr:Room (k+1) X.A)
  (hb:Binds X.K fd ps []) (I:Inv X pins σ H s) (r:Vals vs us) (hl0:us.length<=sizeLine)
  (h:∀ x,H x=none->sp (.ref x::vs) (upd H x (XO x C none true)) (fun v H2=>v=.non/\Q x H2) E0) :
  wpAny (model X.prog X.w) X.A (call (.ref C) us) (fun u s'=>∃ a H',u=.ref a/\Inv X pins σ H' s'/\s.heap.objs.size<=a/\Q a H') Ex s:=by
 obtain⟨nm,q,N,bs,bm,hdct,sn,sub,ab,col,dd,k0,k1,k2,k3,k5,mN,c⟩:=QV I.kIn M.exc;obtain⟨oI,hfI,hfc⟩:=jjQ I.kIn M.fn;have hq:=h (s.heap.objs.size+1) (I.hok.fresh (wy _));have e2:(jfh s.heap C us).get? (s.heap.objs.size+1)=some (jis C s.heap.objs.size):=by
  have:=Xn (s.heap.push (jk4 us)) (o:=jis C s.heap.objs.size) rfl
  rwa [wf] at this
 have I1:Inv X pins σ H { s with heap:=s.heap.push (jk4 us) }:=I.kept (t':=s.toks) fun b u q=>Xc _ q
 have I2:Inv X pins σ (upd H (s.heap.objs.size+1) (XO (s.heap.objs.size+1) C none true)) { s with heap:=jfh s.heap C us }:=
  I1.laid (t':=s.toks) (fun b u q=>Xc _ q) (Nat.le_of_eq (wf _ _)) (XO.ok e2 rfl rfl rfl fun _=>rfl)
 have r2:Vals (V.ref (s.heap.objs.size+1)::vs) (Value.ref (s.heap.objs.size+1)::us):=.cons rfl r;have hl:(Value.ref (s.heap.objs.size+1)::us++[]).length=ps.length:=by
  have e:=r2.length;rw[F.len _ _ _ _ hq] at e;rw[wM];exact e.symm
 have hbd:=hb _ (Value.ref (s.heap.objs.size+1)::us) I2.kIn hl;rw[wM] at hbd;obtain⟨hp,g,dr,tk,os⟩:=s;refine jgl c hfI hfc (wpAny_call (codeAny_mono (F.run _ X.stack _ _ ⟨Value.ref (hp.objs.size+1)::us,[]⟩ (Value.ref (hp.objs.size+1)::us) _ _ E0 (hr.make C us [])
  (I2.env0.make C us []) hbd r2 hq) fun r s' hq'=>?_)) hl0
 cases r with
 | error e=>exact False.elim hq'
 | ok fl=>
  cases fl with
  | ret u=>
   obtain⟨v,H',I3,rv,ev,q3⟩:=I2.after hq';subst ev;exact⟨rv,hp.objs.size+1,H',rfl,I3,wy _,q3⟩
  | next=>exact False.elim hq'
  | brk=>exact False.elim hq'
  | cont=>exact False.elim hq'
def jhp (C:Addr) (sp:Sp) (Er:St->XK) (t:TA):TS:=fun _ σ H=>t σ H fun vs H1=>vs.length<=1000/\∀ x,H1 x=none ->
 sp (.ref x::vs) (upd H1 x (XO x C none true)) (fun v H2=>v=.non/\∃ d,H2 x=some (XO x C d true)/\Er σ (.ref C) d (VY H2 x)) E0
theorem jgm (D:X.Def) (hcm:X.calm=true) (hx:∀ e s,Fly X Er e s->X.xe e s) (M:XMk X.K C f) (F:FnOk X.prog X.w X.K X.mg X.base CX0 k f fd ps sp) (hr:Room (k+1) X.A) (hg:Gl X x) (hm:X.mg x=some (.ref C)) (hb:Binds X.K fd ps [])
  (ha:PA X (e::es) t) (hdb:(x==("__debug__":Str))=false:=by decide) (he:starEach (e::es) X.env=(false,eval e X.env)::starEach es X.env:=by rfl) (hpl:(backTo cpos (starEach es X.env)).any (·.1)=false:=by rfl) :
  PS X (.Raise (some (.Call (.Name x p) (e::es) [] cpos)) none pos) (jhp C sp Er t):=by
 intro pins s σ H Dd I h;obtain⟨nm,q,N,bs,bm,hdct,sn,sub,ab,col,dd,k0,k1,k2,k3,k5,mN,c0⟩:=QV I.ok.mod.kin M.exc;refine Wm (C:=C) (fo:=some f) (nm:=nm) (q:=q) (N:=N) (bs:=bs) (bm:=bm) (hdct:=hdct) (sn:=sn) (sub:=sub) (ab:=ab) (col:=col) (dd:=dd) (k0:=k0) (k1:=k1) (k2:=k2) (k3:=k3) (k5:=k5) (mN:=mN) (I.ok.hd hcm) ?_;refine wpAny_Call_Name_kw (zV I hg hm ?_ hdb);refine W.callWith_K (h₀:=X.base) I.ok.mod.kin M.kp (thn (ha cpos pins s σ H _ I h) fun us s1 ⟨vs,H1,I1,r,hln,q⟩=>⟨I1.kIn,?_⟩) he hpl;refine thn (jit (Q:=fun x H2=>∃ d,H2 x=some (XO x C d true)/\Er σ (.ref C) d (VY H2 x)) M F hr hb I1 r (by have:=r.length; show us.length<=sizeLine; rw[<- this,wa]; omega) q) fun u s2 ⟨a,H2,eu,I2,hsz,d,ea,q2⟩=>?_;subst eu;obtain⟨⟨o,vs,ho,h1,h2,h3,h4⟩,_⟩:=I2.hok a _ ea;refine⟨a,o,vs,rfl,⟨I2.bk _ _ c0.obj,c0.ns.keeps I2.bk,c0.init,c0.tail.keeps I2.bk⟩,ho,h1,h3,h4 rfl,hx _ _ ?_⟩;refine⟨a,C,d,none,σ,VY H2 a,rfl,⟨o,vs,ho,h1,h2,h3,h4 rfl,fun p hp=>(nomatch hp)⟩,fun p hp=>(nomatch hp),Heap.get?_none_of_le (X6 I1.sz hsz),zL,fun p hp=>(nomatch hp),(I2.dropX ea).nopins D.pn,q2⟩
end
section
variable {E0':Value->Shared->Prop}{E E':St->XK}{e:Value} 
theorem Fly.unwish {W:Value->Shared->Prop} (f:Fly (X.wish W) E e s):Fly X E e s:=by
 obtain⟨a,C,d,T,σ,H,rfl,x,hT,ha,hn,ht,I,q⟩:=f;exact⟨a,C,d,T,σ,H,rfl,x,hT,ha,hn,ht,I.unwish,q⟩
theorem Cx.Def.wish (D:X.Def) (W:Value->Shared->Prop):(X.wish W).Def:=⟨D.st,D.fr,D.pn,D.ex⟩
abbrev Cx.fly (X:Cx) (E:XK):Cx:=X.wish (Fly X fun _=>E)
theorem Qn {E:XK} (D:X.Def):PassesOwn (model (X.fly E).prog (X.fly E).w) (X.fly E).A (X.fly E).env (X.fly E).xe:=jir D
theorem jhq {E:XK}:∀ e s,Fly (X.fly E) (fun _=>E) e s->(X.fly E).xe e s:=fun _ _ f=>f.unwish
theorem PSs.wish {W:Value->Shared->Prop}{st:List Stmt}{t:TS} (k:∀ e s,W e s->X.xe e s) (h:PSs (X.wish W) st t):PSs X st t:=fun pins s σ H D I hw=>
 wg (h pins s σ H D (I.wish _) hw) (fun _ _ q=>q.unwish) fun _ _ z=>k _ _ z
end
section
variable {P:Program} 
theorem cxOf_def {f:Addr}{cd:Value}{E:XK}:(Z2 CX P w K mg base N qual scope f cd A outer s H E).Def:=⟨rfl,rfl,rfl,rfl⟩
theorem Fun.okE {f:Addr}{k:Nat} (F:Fun K x qual st f fd) (S:FnScope N ps (jo st)) (len:∀ vs H Q E,sp vs H Q E->vs.length=ps.length)
  (hbody:∀ (cdv:Value) (A:Around) (outer:List Env) (s:Shared) (H:Hp) (vs:List V) (Q:VK) (E:XK),Room k (A.deeper (envOfC qual (jo st) s.heap.objs.size f cdv))->sp vs H Q E ->
   ∃ t,PSs ((Z2 (CX1 P w) P w K mg base N qual (jo st) f cdv A outer s H E).fly E) (qW st) t/\t { nx:=fun _ H'=>Q .non H',rt:=Q } (zF N vs) H):FnOk P w K mg base (CX1 P w) (k+1) f fd ps sp:=by
 obtain⟨oc,od,kV,doc,pm,an,cdv,ct,osl,rfl,lk,hcd⟩:=F.ex;refine jjl lk hcd S len fun A outer s H vs Q E hr hsp=>?_;obtain⟨t,h,q⟩:=hbody cdv A outer s H vs Q E hr hsp;exact⟨t,PSs.wish (fun e s' z=>jck cxOf_def z) h,q⟩
theorem FnOk.up {k:Nat}{f:Addr} (F:FnOk P w K mg base CX0 k f fd ps sp):FnOk P w K mg base (CX1 P w) k f fd ps sp:=
 ⟨F.len,fun A outer s H args us vs Q E hr he hb hv hs=>codeAny_mono (F.run A outer s H args us vs Q E hr he hb hv hs) fun r s' z=>by
  cases r with
  | error e=>exact False.elim z
  | ok fl=>cases fl <;> exact z⟩
theorem FnOk.or {k:Nat}{f:Addr} (F:FnOk P w K mg base CX k f fd ps sp) (G:FnOk P w K mg base CX k f fd ps sp') :
  FnOk P w K mg base CX k f fd ps (fun vs H Q E=>sp vs H Q E \/ sp' vs H Q E):=
 ⟨fun vs H Q E h=>h.elim (F.len vs H Q E) (G.len vs H Q E),fun A outer s H args us vs Q E hr he hb hv hs=>hs.elim (F.run A outer s H args us vs Q E hr he hb hv) (G.run A outer s H args us vs Q E hr he hb hv)⟩
end
abbrev Cx.mark (X:Cx) (v:Value):Cx:={ X with A:=X.A.mark (some v),calm:=false,xe:=fun _ _=>False }
section
theorem Cx.Ok.mark (ok:X.Ok) (v:Value):(X.mark v).Ok:=
 ⟨ok.mod,ok.kind,ok.glob,ok.blt,ok.above,ok.inj,ok.has,ok.cab,fun z=>(nomatch z),ok.frames,ok.stk,ok.exf,ok.bs,ok.bsz,ok.noex,ok.exfs,ok.funs,ok.frf⟩
theorem Inv.mark (I:Inv X pins σ H s) (v:Value):Inv (X.mark v) pins σ H s:=⟨I.ok.mark v,I.os,I.bare,I.base,I.loc,I.cell,I.free,I.freeC,I.pin,I.hok,I.len⟩
theorem Inv.unmark (ok:X.Ok) (I:Inv (X.mark v) pins σ H s):Inv X pins σ H s:=⟨ok,I.os,I.bare,I.base,I.loc,I.cell,I.free,I.freeC,I.pin,I.hok,I.len⟩
end
def jfi (K:W.Frag) (C CT:Addr):Bool:=(W.clsIn K C).any fun cd=>cd.mro.contains (.ref CT)
section
variable {oe:Obj}{Q:Bool->Shared->Prop}
theorem jgn (X:K.In h) {b:Bool} (hs:jfi K C CT=b) {q:Str}{N:Addr}{bs:List Value}{dd:Option Addr}{newId:String}
  (hK:∃ o,K.lookup C=some o) (hC:h.get? C=some (excClassObj nm q C N bs bm hdct sn sub ab col dd k0 k1 k2 k3 k5 newId)):(Value.ref C::bm).contains (.ref CT)=b:=by
 obtain⟨o,ho⟩:=hK;have:=X _ _ ho;rw[hC] at this;cases this;unfold jfi W.clsIn at hs;rw[ho] at hs;simpa using hs
open PySem.W in
theorem Zv (e:zK K C fo=true):∃ o,K.lookup C=some o:=by
 unfold zK at e;split at e
 ·rename_i ho; exact ⟨_,ho⟩
 ·cases e
theorem JW {b:Bool} (X:K.In s.heap) (h1:zK K C fo=true) (h2:zK K CT fo'=true) (hs:jfi K C CT=b) (he:s.heap.get? a=some oe) (hc:oe.cls=.ref C) (q:Q b s) :
  wpAny M A (excMatches (.ref a) (.ref CT)) Q E s:=by
 obtain⟨nm,qn,N,bs,bm,hdct,sn,sub,ab,col,dd,k0,k1,k2,k3,k5,mN,c⟩:=QV X h1;obtain⟨nm',qn',N',bs',bm',hdct',sn',sub',ab',col',dd',k0',k1',k2',k3',k5',mN',c'⟩:=QV X h2;have hC:=c.obj;have hT:=c'.obj;have hcB:(Value.ref CT::bm').contains (.type "BaseException")=true:=by rw[List.contains_cons,c'.tail.hasType (X:="BaseException") (b:=true) (by decide),Bool.or_true]
 have hcC:=jgn X hs (Zv h1) hC;have f:=tc_notTuple;obtain⟨hp,g,d,tk,os⟩:=s;unfold excMatches
 repeat (first | (with_reducible refine wB he ?_; rw[hc]) | with_reducible refine wB hT ?_ | (with_reducible refine wpAny_isSubtype_exc hT ?_; rw[hcB]) | (with_reducible refine wpAny_isSubtype_exc hC ?_; rw[hcC]) | wp_step)
 cases b <;> (wp_walk; exact q)
end
section
theorem Inv.trackX (I:Inv X [] σ H s) (hpn:X.pn=[]) (x:Exc s.heap a C d T) (ha:X.s₀.heap.get? a=none) (hn:H a=none):Inv X [] σ (upd H a (XO a C d false)) s:=by
 obtain⟨oe,vs,he,hc,hdc,hd,h1,hp⟩:=x;have no:∀ b u,H b=some u->b≠a:=fun b u q z=>by subst z; rw[q] at hn; cases hn
 have nd:∀ b o,s.heap.get? b=some o->(∀ ws,o.data≠.fields ws)->b≠a:=fun b o e n z=>by subst z; rw[he] at e; cases e; exact n _ hd
 refine⟨I.ok,I.os,I.bare,⟨I.base.keep,I.base.slot,fun b o e n hx=>?_,I.base.there,fun b xs e=>?_,fun b o u e=>?_,fun b ps e=>?_⟩,I.loc,I.cell,?_,fun y c e=>?_,fun p hp=>?_,fun b u q=>?_,I.len⟩
 ·rw[jM (fun z=>by subst z; rw[ha] at e; cases e)]; exact I.base.free b o e n hx
 ·have:=I.base.tups b xs e; rw[jM (no b _ this)]; exact this
 ·have:=I.base.frzs b o u e; rw[jM (no b _ this)]; exact this
 ·obtain⟨more,q⟩:=I.base.tbls b ps e; exact ⟨more,by rw[jM (no b _ q)]; exact q⟩
 ·obtain⟨m,⟨o,es,ep,ho,hdd,_⟩,_⟩:=I.loc;rw[jM (nd _ o ho fun ws z=>by rw[hdd] at z; cases z)]; exact I.free
 ·obtain⟨w,o,ho,hdd⟩:=I.cell y c e;rw[jM (nd _ o ho fun ws z=>by rw[hdd] at z; cases z)]; exact I.freeC y c e
 ·rw[hpn] at hp; exact absurd hp (by simp)
 ·by_cases hb:b=a
  ·subst hb; rw[jV] at q; cases q; exact XO.ok he hc hdc hd fun z=>(nomatch z)
  ·rw[jM hb] at q;exact(I.hok b u q).stay (fun _ _ _ r=>r) (fun c r=>by rw[jM (no c _ r)]; exact r) fun c xs r=>by rw[jM (no c _ r)]; exact r
theorem Inv.unname {m:Str->Option Value}{u:Option Value} (I:Inv X [] σ H s) (hpn:X.pn=[]) (hN:X.N.Nodup) (hi:X.N[i]?=some x)
  (hm:∀ (i:Nat) (y:Str) (w:V),X.N[i]?=some y->σ[i]?=some (some w)->Vis X.env.scope y->∃ u,RelV w u/\jlq X.env s.heap m y u)
  (hn:h'.Ns X.env.locals (fun y=>if y=x then u else m y)) (hs:Heap.SameBut X.env.locals s.heap h') (hL:∃ o,s.heap.get? X.env.locals=some o):Inv X [] (σ.set i none) H { s with heap:=h' }:=by
 have ne:∀ b o,X.s₀.heap.get? b=some o->b≠X.env.locals:=fun b o e=>XA (Xt (Xo e) I.ok.above);have cl:∀ y c w,X.env.cells.lookup y=some c->s.heap.IsCell c w->h'.IsCell c w:=fun y c w e ⟨o,ho,hd⟩=>⟨o,(hs.2 c (I.cne y c e)).trans ho,hd⟩;refine⟨I.ok,I.os,I.bare,⟨fun b o e n hb hx=>(hs.2 b (ne b o e)).trans (I.base.keep b o e n hb hx),fun b o e n hb hx=>?_,I.base.free,fun b o e hx=>?_,I.base.tups,I.base.frzs,I.base.tbls⟩,⟨_,hn,fun j y w e1 e2 e3=>?_⟩,fun y c e=>?_,I.free,I.freeC,fun p hp=>?_,fun b q e=>?_,by simpa using I.len⟩
 ·obtain⟨sl,e1⟩:=I.base.slot b o e n hb hx;exact⟨sl,(hs.2 b (ne b o e)).trans e1⟩
 ·obtain⟨o',e1⟩:=I.base.there b o e hx;exact⟨o',(hs.2 b (ne b o e)).trans e1⟩
 ·have ji:j≠i:=fun z=>by
   subst z;rw[List.getElem?_set] at e2;split at e2
   ·split at e2 <;> cases e2
   ·rename_i q; exact q rfl
  rw[wI (Ne.symm ji)] at e2;obtain⟨uu,r,l⟩:=hm j y w e1 e2 e3;refine⟨uu,r,?_⟩;rcases l with⟨l1,l2⟩ | ⟨k,c,e,z⟩
  ·refine .inl ⟨l1,?_⟩;show (if y=x then u else m y)=some uu;rw[if_neg (fun z=>ji (WC hN e1 (by rw[hi,z])))]; exact l2
  ·exact .inr ⟨k,c,e,cl y c _ e z⟩
 ·obtain⟨w,z⟩:=I.cell y c e;exact⟨w,cl y c w e z⟩
 ·rw[hpn] at hp; exact absurd hp (by simp)
 ·have nL:∀ c w,H c=some w->c≠X.env.locals:=fun c w q z=>by rw[z,I.free] at q; cases q
  refine(I.hok b q e).stay (fun c w hc r=>(hs.2 c ?_).trans r) (fun _ r=>r) fun _ _ r=>r;rcases hc with hc | hc
  ·rw[hc]; exact nL b q e
  ·exact nL c _ hc
theorem Zw {Q:Unit->Shared->Prop} (I:Inv X [] σ H s) (hpn:X.pn=[]) (hN:X.N.Nodup) (hi:X.N[i]?=some x) (hk:X.env.scope.names.lookup x=some .local)
  (h:∀ s',Inv X [] (σ.set i none) H s'->Q () s'):wpAny M A (do bindName X.env x .none; unbindBehindTheSuite X.env x pos) Q E s:=by
 have hp:(X.env.scope.kind==.class||(X.env.scope.kind==.module&&X.env.locals != X.env.globals))=false:=by rw[I.ok.kind]; rfl
 refine Xa (wpAny_bindName (Qd (v:=V.non) (u:=Value.none) I hN hi (.inl hk) rfl (fun s1 I1=>?_) (.inr hk)));obtain⟨m,hn,hm⟩:=id I1.loc;have hl:i < σ.length:=by rw[I.len]; exact (List.getElem?_eq_some_iff.mp hi).1
 have hx:m x=some Value.none:=by
  obtain⟨u,r,l⟩:=hm i x .non hi (by rw[List.getElem?_set_self hl]) (.inl hk);have hu:u=Value.none:=r;rcases l with⟨_,l2⟩ | ⟨k,_⟩
  ·rw[l2,hu]
  ·have kk:X.env.kindOf x=some .local:=hk;rcases k with k | k <;> (rw[kk] at k; cases k)
 unfold unbindBehindTheSuite;refine wpAny_onRaise (wpAny_unbindName_local hk hn hx hp fun h' u hn' hs=>h _ ?_);have:=I1.unname hpn hN hi hm hn' hs (let ⟨o,_,_,ho,_⟩:=hn; ⟨o,ho⟩);rw[List.set_set] at this;exact this
end
def PS0 (X:Cx) (st:Stmt) (t:TS):Prop:=∀ (s:Shared) (σ:St) (H:Hp) (D:Ends),Inv X [] σ H s->t D σ H->wpAny (model X.prog X.w) X.A (exec st X.env) (SP X [] D) X.xe s
def PSs0 (X:Cx) (st:List Stmt) (t:TS):Prop:=∀ (s:Shared) (σ:St) (H:Hp) (D:Ends),Inv X [] σ H s->t D σ H->wpAny (model X.prog X.w) X.A (execs st X.env) (SP X [] D) X.xe s
section
variable {rest:List Stmt}{t u:TS}
theorem PS.z (h:PS X st t):PS0 X st t:=fun s σ H D I q=>h [] s σ H D I q
theorem PSs.z (h:PSs X rest t):PSs0 X rest t:=fun s σ H D I q=>h [] s σ H D I q
theorem Qo (h1:PS0 X st t) (h2:PSs0 X rest u):PSs0 X (st::rest) (Q_ t u):=by
 intro s σ H D I h;refine wpAny_execs_cons (thn (h1 s σ H { D with nx:=u D } I h) fun f s1 q=>?_)
 cases f with
 | next=>
  obtain⟨σ',H',I',q⟩:=q;exact h2 s1 σ' H' D I' q
 | ret v=>exact q
 | brk=>exact q
 | cont=>exact q
theorem PSs0.nox (h:PSs0 X.nox rest t):PSs0 X rest t:=fun s σ H D I hw=>
 wg (h s σ H D (I.wish _) hw) (fun _ _ q=>q.unwish) fun _ _ z=>False.elim z
end
def jkK (K:W.Frag) (CT:Addr) (i:Nat) (tb:(St->XK)->TS) (ts:TS):TS:=fun D σ H=>
 tb (fun σ' cl d H'=>∃ C fo,cl=.ref C/\zK K C fo=true/\jfi K C CT=true/\∀ a,H' a=none ->
  ts { nx:=fun σ2 H2=>D.nx (σ2.set i none) H2,rt:=fun _ _=>False } (σ'.set i (some (.ref a))) (upd H' a (XO a C d false))) D σ H
section
variable {P:Program} 
theorem Fun.ok0 {f:Addr}{k:Nat} (F:Fun K x qual st f fd) (S:FnScope N ps (jo st)) (len:∀ vs H Q E,sp vs H Q E->vs.length=ps.length)
  (hbody:∀ (cdv:Value) (A:Around) (outer:List Env) (s:Shared) (H:Hp) (vs:List V) (Q:VK) (E:XK),Room k (A.deeper (envOfC qual (jo st) s.heap.objs.size f cdv))->sp vs H Q E ->
   ∃ t,PSs0 (Z2 CX0 P w K mg base N qual (jo st) f cdv A outer s H E).nox (qW st) t/\t { nx:=fun _ H'=>Q .non H',rt:=Q } (zF N vs) H):FnOk P w K mg base CX0 (k+1) f fd ps sp:=by
 obtain⟨oc,od,kV,doc,pm,an,cdv,ct,osl,rfl,lk,hcd⟩:=F.ex;refine⟨len,fun A outer s H args us vs Q E hr e0 hb r hsp=>?_⟩;have hl:=len _ _ _ _ hsp;have KX:K.In s.heap:=e0.mod.kin.keeps fun b o e=>(e0.bs b o e).1;have lim:s.heap.NoLimit:=e0.mod.nolimit.keeps fun b o e=>(e0.bs b o e).1;have hkind:∀ y∈ps.zip us,(jo st).names.lookup y.1=some .local \/ ((jo st).names.lookup y.1=some .cell/\((cellsFrom (s.heap.objs.size+1) (jo st).names []).lookup y.1).isSome=true):=fun⟨n,v⟩ hy=>by
  rcases S.par n (List.of_mem_zip hy).1 with q | q
  ·exact .inl q
  ·exact .inr ⟨q,W.cellsFrom_some _ _ _ (.inl q)⟩
 refine codeAny_call_function hr.depth (KX _ _ lk) rfl S.co S.gen rfl (W.codeRec_of KX hcd) (hb _ _ _ _ ?_);refine wpAny_newFunctionEnv_cells S.kind hkind fun env he s1 x=>?_;subst he;refine⟨lim.keeps x.toInCall.keep,codeAny_func ?_⟩;obtain⟨t,ht,hq⟩:=hbody cdv A outer s H vs Q E (hr.deeper _) hsp;have I:=YZ (CX:=CX0) (E:=E) S hr.hd e0 hl r x;refine wg (ht.nox s1 (zF N vs) H _ I hq) (fun fl s' hs=>?_) fun e s' hs=>hs;have fin:∀ {σ':St}{H':Hp}{v:V}{u:Value},Inv (Z2 CX0 P w K mg base N qual (jo st) f cdv A outer s H E) [] σ' H' s'->RelV v u->Q v H'->CE outer P w H s Q u s':=
  fun {σ' H' v u} J rv q=>⟨v,H',J.os,J.bare,J.base,J.hok,rv,q⟩
 cases fl with
 | ret u=>
  obtain⟨v,σ',H',J,rv,q⟩:=hs;exact fin J rv q
 | next=>
  obtain⟨σ',H',J,q⟩:=hs;exact fin (v:=V.non) (u:=Value.none) J rfl q
 | brk=>
  obtain⟨_,_,_,q⟩:=hs;exact False.elim q
 | cont=>
  obtain⟨_,_,_,q⟩:=hs;exact False.elim q
end
structure XGet (K:W.Frag) (C:Addr):Prop where
 over:(W.clsIn K C).any (fun cd=>Zu cd.mro)=true
 hd:W.hasDictIn K C=true
 ga:W.findIn K (.ref C) "__getattribute__"=some (some (.builtin "BaseException.__getattribute__"))
 hk:W.findIn K (.ref C) "__getattr__"=some none
section
variable {x:Addr} 
theorem jbz (o:Value):bindSpecial (.builtin "BaseException.__getattribute__") o=pure (.builtin "BaseException.__getattribute__",[o]):=(PySem.F.excAttr_ValueError).ga.bind o
open PySem.W in
theorem jco (X:K.In s.heap) (I:InstAt s.heap x ox C od) (c:XGet K C) (hf:findObj K C od name=some (.value v)) (hh:handedIn v=true) (h:Q v { s with toks:=s.toks+1 }) :
  wpAny (model prog w) A (getAttr (.ref x) name expr) Q E s:=by
 obtain⟨cd,hc,ho⟩:=any_some c.over;have ne:cd.mro.isEmpty=false:=by cases q:cd.mro with | nil=>rw[q] at ho; cases ho | cons _ _=>rfl
 have sub:Looks (model prog w) s.heap (isInstance (.ref x) (.type "BaseException")) true:=I.type.andThen (looks_mroIn X (by unfold mroIn; rw[hc,Option.bind_some,if_neg (by rw[ne]; decide),QU (v:=.type "BaseException") (by decide) ho]));have L0:=I.type (M:=model prog w);have L1:=looks_findIn (M:=model prog w) X c.ga;have L2:=looks_findIn (M:=model prog w) X c.hk;have LF:=looks_find (M:=model prog w) X I hf;unfold getAttr getAttrBy;refine Xa (wpAny_mkText (X2 (Xa (L0.here (s:={ s with toks:=s.toks+1 }) (Xa (L1.here (s:={ s with toks:=s.toks+1 }) ?_))))))
 have hx2:(Value.builtin "BaseException.__getattribute__"==Value.builtin "object.__getattribute__")=false:=by decide +kernel
 show wpAny _ _ (if (onTheHeap (Value.ref C)&&(Value.builtin "BaseException.__getattribute__"==Value.builtin "object.__getattribute__"))=true then _ else _) _ _ _;rw[hx2,Bool.and_false,if_neg (by decide)];unfold getAttrByItsOwn hookBefore;rw[if_pos (show onTheHeap (.ref C)=true from rfl)];refine Xa (L2.here (s:={ s with toks:=s.toks+1 }) (Xa (wpAny_attempt (X2 ?_))))
 unfold callGetattribute;rw[if_neg (by cases expr <;> decide)];unfold boundAndCalled;rw[jbz];refine Xa (Xb ?_);show wpAny _ _ (call (.builtin "BaseException.__getattribute__") [.ref x,.str name s.toks]) _ _ _;refine wpAny_call (codeAny_call_builtin (PySem.F.excAttr_ValueError).ga.plain PySem.F.entry_bexc_ga (@check_slot (model prog w) _ _ { s with toks:=s.toks+1 } "BaseException.__getattribute__" "BaseException" "__getattribute__" (.ref x) [.str name s.toks] [] _ (by decide +kernel) (by decide +kernel) sub (PySem.F.args_bexc_ga (.ref x) (.str name s.toks)) ?_))
 unfold Builtin.«object.__getattribute__»;refine Xa (Xb (Xa (Xb (Xa (L0.here (s:={ s with toks:=s.toks+1 }) (Xa (LF.here (s:={ s with toks:=s.toks+1 }) (Xb ?_))))))))
 show wpAny _ _ (handedOut v) _ _ _;rw[handedOut_of hh]; exact Xb h
end
open PySem.W in
theorem W3 {K:Frag}{a g:Value} (hc:(clsIn K C).isSome=true) (ha:findIn K (.ref C) name=some (some a)) (hg:specialIn K a "__get__"=some (some g)) (ht:takesIn K a=some true):findObj K C od name=some (.bind g a):=by
 obtain⟨cd,hc⟩:=Option.isSome_iff_exists.mp hc;unfold findObj;rw[hc,Option.bind_some,ha,Option.bind_some];simp[hg,ht]
section
variable {x:Addr}{fill:Bool}{tk:Tok}
open PySem.W in
theorem jeq (X:K.In s.heap) (I:InstAt s.heap x ox C od) (c:XGet K C) (ha:findIn K (.ref C) "__class__"=some (some (.builtin "object.__class__")))
  (hn:specialIn K (.builtin "object.__class__") "__get__"=some (some (.builtin "getset_descriptor.__get__"))) (htk:takesIn K (.builtin "object.__class__")=some true) (hm:mroIn K C (.type "object")=some true) (h:Q (.ref C) s) :
  wpAny (model prog w) A (getAttrBy (.ref x) (.str "__class__" tk) fill expr) Q E s:=by
 obtain⟨cd,hc,ho⟩:=any_some c.over;have hf:findObj K C od "__class__"=some (.bind (.builtin "getset_descriptor.__get__") (.builtin "object.__class__")):=W3 (by rw[hc]; rfl) ha hn htk;have ne:cd.mro.isEmpty=false:=by cases q:cd.mro with | nil=>rw[q] at ho; cases ho | cons _ _=>rfl
 have sub:Looks (model prog w) s.heap (isInstance (.ref x) (.type "BaseException")) true:=I.type.andThen (looks_mroIn X (by unfold mroIn; rw[hc,Option.bind_some,if_neg (by rw[ne]; decide),QU (v:=.type "BaseException") (by decide) ho]));have L0:=I.type (M:=model prog w);have L1:=looks_findIn (M:=model prog w) X c.ga;have L2:=looks_findIn (M:=model prog w) X c.hk;have LF:=looks_find (M:=model prog w) X I hf;unfold getAttrBy;refine X2 (Xa (L0.here (Xa (L1.here ?_))));have hx2:(Value.builtin "BaseException.__getattribute__"==Value.builtin "object.__getattribute__")=false:=by decide +kernel
 show wpAny _ _ (if (onTheHeap (Value.ref C)&&(Value.builtin "BaseException.__getattribute__"==Value.builtin "object.__getattribute__"))=true then _ else _) _ _ _;rw[hx2,Bool.and_false,if_neg (by decide)];unfold getAttrByItsOwn hookBefore;rw[if_pos (show onTheHeap (.ref C)=true from rfl)];refine Xa (L2.here (Xa (wpAny_attempt (X2 ?_))));unfold callGetattribute;rw[if_neg (by cases expr <;> decide)];unfold boundAndCalled;rw[jbz];refine Xa (Xb ?_);show wpAny _ _ (call (.builtin "BaseException.__getattribute__") [.ref x,.str "__class__" tk]) _ _ _;refine wpAny_call (codeAny_call_builtin (PySem.F.excAttr_ValueError).ga.plain PySem.F.entry_bexc_ga (@check_slot (model prog w) _ _ s "BaseException.__getattribute__" "BaseException" "__getattribute__" (.ref x) [.str "__class__" tk] [] _ (by decide +kernel) (by decide +kernel) sub (PySem.F.args_bexc_ga (.ref x) (.str "__class__" tk)) ?_));unfold Builtin.«object.__getattribute__»;refine Xa (Xb (Xa (Xb (Xa (L0.here (Xa (LF.here ?_)))))));show wpAny _ _ (holding [.builtin "object.__class__"] (call (.builtin "getset_descriptor.__get__") [.builtin "object.__class__",.ref x,.ref C]) >>= ret) _ _ _;refine Xa (X2 (wpAny_call (class_get (ox:=ox) (od:=od) X I hm ?_)));refine Xb ?_;show wpAny _ _ (handedOut (.ref C)) _ _ _;rw[handedOut_of (v:=.ref C) rfl]; exact Xb h
end
structure XIs (K:W.Frag) (C:Addr):Prop extends XGet K C where
 ha:W.findIn K (.ref C) "__class__"=some (some (.builtin "object.__class__"))
 hn:W.specialIn K (.builtin "object.__class__") "__get__"=some (some (.builtin "getset_descriptor.__get__"))
 htk:W.takesIn K (.builtin "object.__class__")=some true
 hm:W.mroIn K C (.type "object")=some true
open PySem.W in
theorem jgo {K:Frag}{x D:Addr} (c:XIs K D):KitX K (.ref x) (.ref D) (fun h=>InstAt h x ox D od) where
 ty:=fun _ _ _ I=>I.type
 it:=fun _ _ X _=>by
  obtain⟨cdD,hcD,_⟩:=any_some c.hd;unfold clsIn at hcD;split at hcD
  ·rename_i c' d' cd' sl' ho
   intro A' Q' E' s' k q;unfold isType loadHead;exact Xa (wpAny_loadPart (k _ _ (X _ _ ho)) (Xb q))
  ·cases hcD
 ne:=fun h tp dd its n sl X htp=>by
  obtain⟨cdD,hcD,_⟩:=any_some c.hd;refine Bool.eq_false_iff.mpr fun q=>?_;have e:D=tp:=Value.ref.inj (wj.mp q);subst e;unfold clsIn at hcD;split at hcD
  ·rename_i c' d' cd' sl' ho
   have z:=(X _ _ ho).symm.trans htp;cases z
  ·cases hcD
 ca:=fun {prog w A E Q s} X I k=>by
  unfold getAttr? getAttrBy?;refine Xa (wpAny_mkText (Xa (wpAny_attempt (jeq (s:={ s with toks:=s.toks+1 }) X I c.toXGet c.ha c.hn c.htk c.hm (Xb k)))))
section
theorem XO.inst (I:Inv X pins σ H s) (e:H a=some (XO a C d fr)) (hd:∀ dx,d=some dx->∃ fs,H dx=some (XD dx fs)):∃ ox od,W.InstAt s.heap a ox C od/\ox.dict=d/\∀ dx,d=some dx->∃ o,od=some o/\s.heap.get? dx=some o:=by
 obtain⟨⟨o,vs,ho,h1,h2,h3,h4⟩,_⟩:=I.hok a _ e;cases d with
 | none=>exact ⟨o,none,⟨ho,h1,x9 h3,by rw[h2]; trivial⟩,h2,fun dx z=>(nomatch z)⟩
 | some dx=>
  obtain⟨fs,ed⟩:=hd dx rfl;obtain⟨⟨mA,hn,r,wi⟩,_⟩:=I.hok dx _ ed;obtain⟨od,hod,_⟩:=Qf hn;exact⟨o,some od,⟨ho,h1,x9 h3,by rw[h2]; exact hod⟩,h2,fun dx' z=>by cases z; exact ⟨od,rfl,hod⟩⟩
theorem jaD {f:Str}{v:V}{fs:List (Str×V)}{b:Bool} (I:Inv X pins σ H s) (e:H a=some (XO a C (some dx) fr)) (ed:H dx=some (XD dx fs)) (c:XGet X.K C) (n:NoAttr X.K C f) (l:fs.lookup f=some v)
  (h:∀ u s',Inv X pins σ H s'->RelV v u->Q u s'):wpAny (model X.prog X.w) A (getAttr (.ref a) f b) Q E s:=by
 obtain⟨⟨o,vs,ho,h1,h2,h3,h4⟩,_⟩:=I.hok a _ e;obtain⟨⟨mA,hn,r,wi⟩,_⟩:=I.hok dx _ ed;obtain⟨od,hod,hl⟩:=Qf hn;obtain⟨u,hu,ru⟩:=RelO.some_of (v:=v) (o:=mA f) (by rw[<- l]; exact r f);have J:W.InstAt s.heap a o C (some od):=⟨ho,h1,x9 h3,by rw[h2]; exact hod⟩;exact jco I.kIn J c (W.findObj_own c.hd n rfl (by rw[hl,hu])) (YU ru) (h u _ (I.tok _) ru)
theorem jcp {c:Value}{b:Bool} (I:Inv X pins σ H s) (e:H a=some (XO a C d fr)) (hd:∀ dx,d=some dx->∃ fs,H dx=some (XD dx fs)) (k:XIs X.K C) (ek:W.kitOne X.K (.ref C) c=some b) (h:∀ tk,Q (.bool b) { s with toks:=tk }) :
  wpAny (model X.prog X.w) A (call (.builtin "isinstance") [.ref a,c]) Q E s:=by
 obtain⟨ox,od,J,_⟩:=XO.inst I e hd;exact wv (jgo k) I.kIn J ek (fun z=>nomatch z) h
end
def tXF (K:W.Frag) (ta:TE) (f:Str):TE:=fun σ H Q=>ta σ H fun x H1=>∃ a C dx fr fs v,x=.ref a/\H1 a=some (XO a C (some dx) fr)/\H1 dx=some (XD dx fs)/\XGet K C/\NoAttr K C f/\fs.lookup f=some v/\Q v H1
section
variable {f:Str} 
theorem jiu (he:PE X e ta) (hb:attributeBase e f X.env (eval e X.env)=eval e X.env):PE X (.Attribute e f pos) (tXF X.K ta f):=by
 intro pins s σ H Q I h;refine jdb hb (thn (he pins s σ H _ I h) fun u s1 ⟨x,H1,I1,rx,a,C,dx,fr,fs,v,ex,ea,ed,c,n,l,q⟩=>?_);subst ex;obtain rfl:u=Value.ref a:=rx;exact jaD I1 ea ed c n l fun u' s2 I2 ru=>⟨v,H1,I2,ru,q⟩
theorem jer:GN X (.builtin "isinstance") (fun xs H Q=>∃ a C d fr c cv b,xs=[.ref a,c]/\(∀ u,RelV c u->u=cv)/\H a=some (XO a C d fr)/\(∀ dx,d=some dx->∃ fs,H dx=some (XD dx fs))/\XIs X.K C/\W.kitOne X.K (.ref C) cv=some b/\Q (.bl b) H):=by
 intro pins s σ H xs us Q I r h;obtain⟨a,C,d,fr,c,cv,b,e,hc,ea,hd,k,hk,q⟩:=h;subst e;obtain⟨u,v,rfl,rx,rc⟩:=r.two;have:=hc v rc;subst this;obtain rfl:u=Value.ref a:=rx;exact jcp I ea hd k hk fun tk=>⟨.bl b,H,I.tok tk,rfl,q⟩
end
end L2
namespace L3
open PySem PySem.Spec L2
structure Er where
 c:Nat
 vs:List Int
 deriving DecidableEq,Repr
abbrev Ecs:=List (Addr×List Str)
def jes (cs:Ecs) (er:Er) (cls:Value) (d:Option Addr) (F:Hp):Prop:=
 ∃ C ns,cls=.ref C/\cs[er.c]?=some (C,ns)/\er.vs.length=ns.length/\((ns=[]/\d=none) \/ ∃ dx,d=some dx/\F dx=some (XD dx (ns.zip (er.vs.map V.int))))
def cE (cs:Ecs):Cd Er:=⟨fun _ H er v=>∃ a C d ns,v=.ref a/\H a=some (XO a C d false)/\cs[er.c]?=some (C,ns)/\er.vs.length=ns.length/\((ns=[]/\d=none) \/ ∃ dx,d=some dx/\H dx=some (XD dx (ns.zip (er.vs.map V.int)))),
 fun s ⟨a,C,d,ns,h1,h2,h3,h4,h5⟩=>⟨a,C,d,ns,h1,s _ _ h2,h3,h4,h5.imp id fun⟨dx,e,z⟩=>⟨dx,e,s _ _ z⟩⟩⟩
def cOE (cs:Ecs):Cd (Option Er):=⟨fun K H o v=>match o with | none=>v=.non | some er=>(cE cs).rep K H er v,
 fun {K H H' a x} s h=>by cases a with | none=>exact h | some er=>exact (cE cs).mono (K:=K) s h⟩
def spX (C:Addr) (ns:List Str):Sp:=fun vs H Q _=>∃ (x:Addr) (is:List Int),vs=V.ref x::is.map V.int/\is.length=ns.length/\H x=some (XO x C none true) /\
 ∀ dx,H dx=none->dx≠x->Q .non (upd (upd H dx (XD dx (ns.zip (is.map V.int)))) x (XO x C (some dx) true))
section
variable {x:Addr}{f g:Str}{i j:Int}
theorem jk5 (h0:σ[0]?=some (some (.ref x))) (h1:σ[1]?=some (some (.int i))) (c:XCls K C) (n:NoAttr K C f) (e:H x=some (XO x C none true))
  (k:∀ dx,H dx=none->dx≠x->D.nx σ (upd (upd H dx (XD dx [(f,.int i)])) x (XO x C (some dx) true))):sX K (Wb 0) (Wb 1) f D σ H:=
 ⟨_,h1,_,h0,x,C,rfl,c,n,.inl ⟨e,k⟩⟩
end
section
variable {F:Hp}{f g:Str}{E:XK}{cs:Ecs}{er:Er}{c:Nat}{m1 m2:Option Int}
theorem jgp {x:Addr}{o o' u:HO} (hx:H1 x=none) (hd:dx≠x):VY (upd (upd (upd H1 x o) dx u) x o') x=upd H1 dx u:=by
 funext b
 by_cases q:b=x
 ·subst q; rw[zL,jM (Ne.symm hd),hx]
 ·rw[yL q,jM q];by_cases q2:b=dx
  ·subst q2; rw[jV,jV]
  ·rw[jM q2,jM q2,jM q]
theorem jet (h1:Ev K σ F H t1 (rF cI) m1) (X:Ext Fe He F H) (hm:(m1.bind fun a=>some (Er.mk c [a]))=some er) (hc:cs[c]?=some (C,[f]))
  (k:∀ cls d F' H',Ext Fe He F' H'->jes cs er cls d F'->E cls d H'):jhp C (spX C [f]) (fun _=>E) (jJ t1 xb) D σ H:=by
 obtain⟨a,ea,hm⟩:=bind_some hm;cases hm;refine h1 F H (Ext.refl X.sub) a ea _ fun v F1 H1 E1 r1=>?_;obtain rfl:v=.int a:=r1;refine⟨by simp,fun x hx=>⟨x,[a],rfl,rfl,jV,fun dx hdx hne=>⟨rfl,some dx,jV,?_⟩⟩⟩;rw[jgp hx hne];have hdx':H1 dx=none:=by rw[jM hne] at hdx; exact hdx
 exact k _ _ (upd F1 dx _) _ ((X.trans E1).trans (Ext.newF E1.sub hdx')) ⟨C,[f],rfl,hc,rfl,.inr ⟨dx,rfl,jV⟩⟩
end
def zY (K:W.Frag) (p1:Pm α1) (p2:Pm α2) (cs:Ecs) (e:α1->α2->Option Er):Sp:=fun vs H _ E=>∃ (x1:α1) (x2:α2) (v1 v2:V) (F:Hp) (er:Er),vs=[v1,v2]/\Same F H/\p1.rel K F H x1 v1/\p2.rel K F H x2 v2/\e x1 x2=some er /\
 ∀ cls d F' H',Ext F H F' H'->jes cs er cls d F'->E cls d H'
def EvE (K:W.Frag) (σ:St) (F H:Hp) (t:TE) (cs:Ecs) (E:XK) (m:Option Er):Prop:=
 ∀ F1 H1,Ext F H F1 H1->∀ er,m=some er->(∀ cls d F2 H2,Ext F1 H1 F2 H2->jes cs er cls d F2->E cls d H2)->∀ Q:VK,t σ H1 Q
section
variable {F:Hp}{E:XK}{cs:Ecs}{rs:Rs γ}
theorem jgq {m:Option Er}{er:Er} (he:EvE K σ F H te cs E m) (X:Ext Fe He F H) (hm:m=some er) (k:∀ cls d F' H',Ext Fe He F' H'->jes cs er cls d F'->E cls d H'):VR te D σ H:=
 he F H (Ext.refl X.sub) er hm (fun cls d F2 H2 E2 z=>k cls d F2 H2 (X.trans E2) z) _
end
end L3
variable {cs:L3.Ecs}{er:L3.Er}{ms:L3.Er->Option β}
namespace L2
open PySem PySem.Spec PyProof.Rows
def jeu (sp:Sp) (Er:St->XK) (t:TA):TE:=fun σ H Q=>t σ H fun vs H1=>sp vs H1 Q (Er σ)
def jhr (C:Addr) (m:Str) (sp:Sp) (Er:St->XK) (ta:TE) (t:TA):TE:=fun σ H Q=>ta σ H fun x H1=>∃ a dx fs,x=.ref a/\H1 a=some (.ins C dx fs)/\fs.lookup m=none/\t σ H1 fun vs H2=>sp (x::vs) H2 Q (Er σ)
structure DefE (P:Program) (w:World) (K:W.Frag) (mg:Str->Option Value) (base:Heap) (x:Str) (k:Nat) (ps:List Str) (sp:Sp):Prop where
 ex:∃ f fd,FnOk P w K mg base (CX1 P w) k f fd ps sp/\mg x=some (.ref f)/\W.keepIn K (.ref f)=true/\Binds K fd ps []
structure MthE (P:Program) (w:World) (K:W.Frag) (mg:Str->Option Value) (base:Heap) (C:Addr) (m:Str) (k:Nat) (ps:List Str) (sp:Sp):Prop where
 ex:∃ f fd,FnOk P w K mg base (CX1 P w) k f fd ps sp/\Meth K C m f/\Binds K fd ps []
 cl:Cls K C
structure XDef (P:Program) (w:World) (K:W.Frag) (mg:Str->Option Value) (base:Heap) (cs:L3.Ecs) (x:Str) (c:Nat) (k:Nat) (ns:List Str):Prop where
 ex:∃ C f fd,cs[c]?=some (C,ns)/\mg x=some (.ref C)/\XMk K C f/\FnOk P w K mg base CX0 k f fd ("self"::ns) (L3.spX C ns)/\Binds K fd ("self"::ns) []
section
variable {k:Nat}{f:Addr}{t:TA}{Er:St->XK}
theorem jev {Q:VK}{vs:List V} (D:X.Def) (F:FnOk X.prog X.w X.K X.mg X.base (CX1 X.prog X.w) k f fd ps sp) (hr:Room k X.A) (hb:Binds X.K fd ps [])
  (I:Inv (X.wish (Fly X Er)) pins σ H s) (r:Vals vs us) (h:sp vs H Q (Er σ)):wpAny (model X.prog X.w) X.A (call (.ref f) us) (EP (X.wish (Fly X Er)) pins σ Q) (Fly X Er) s:=by
 have hl:(us++[]).length=ps.length:=by rw[wM,<- r.length]; exact F.len _ _ _ _ h
 have hbd:=hb s us I.kIn hl;rw[wM] at hbd;refine wpAny_call (codeAny_mono (F.run X.A X.stack s H ⟨us,[]⟩ us vs Q (Er σ) hr I.unwish.env0 hbd r h) fun r s' hq=>?_);cases r with
 | error e=>exact (jgk D I.unwish hq).imp fun σ' cl d H' z=>by obtain⟨rfl,z⟩:=z; exact z
 | ok fl=>
  cases fl with
  | ret u=>exact I.after hq
  | next=>exact False.elim hq
  | brk=>exact False.elim hq
  | cont=>exact False.elim hq
theorem xE (DX:X.Def) (D:DefE X.prog X.w X.K X.mg X.base x k ps sp) (hr:Room k X.A) (hg:Gl X x) (ha:PA (X.wish (Fly X Er)) (e::es) t) (hdb:(x==("__debug__":Str))=false:=by decide)
  (he:starEach (e::es) X.env=(false,eval e X.env)::starEach es X.env:=by rfl) (hpl:(backTo pos (starEach es X.env)).any (·.1)=false:=by rfl):PE (X.wish (Fly X Er)) (.Call (.Name x p) (e::es) [] pos) (jeu sp Er t):=by
 obtain⟨f,fd,F,hm,hk,hb⟩:=D.ex;intro pins s σ H Q I h;refine wpAny_Call_Name_kw (zV I hg hm ?_ hdb);refine W.callWith_K (h₀:=X.base) I.ok.mod.kin hk (thn (ha pos pins s σ H _ I h) fun us s1 ⟨vs,H1,I1,r,q⟩=>⟨I1.kIn,?_⟩) he hpl;exact jev DX F hr hb I1 r q
end
end L2
namespace L3
open PySem PySem.Spec L2
def orE (a b:Option Er):Option Er:=match a with | some er=>some er | none=>b
theorem JB {a b:Option Er} (h:orE a b=some er):a=some er \/ b=some er:=by
 cases a with
 | some x=>exact .inl h
 | none=>exact .inr h
def Vg (sp sp':Sp):Sp:=fun vs H Q E=>sp vs H Q E \/ sp' vs H Q E
theorem GO {P:Program}{f:Addr}{E:XK}:((Z2 CX P w K mg base N qual scope f cdv A outer s H E).fly E).K=K:=rfl
section
variable {F:Hp}{Er':St->XK}{E:XK}{rs:Rs γ} 
theorem W4 {m:Option Er} (he:EvE K σ F H te cs E m) (X:Ext Fe He F H) (hm:m=some er) (k:∀ cls d F' H',Ext Fe He F' H'->jes cs er cls d F'->E cls d H'):jkE te D σ H:=
 he F H (Ext.refl X.sub) er hm (fun cls d F2 H2 E2 z=>k cls d F2 H2 (X.trans E2) z) _
theorem QW {m:Option Er} (he:EvE K σ F H te cs E m) (X:Ext Fe He F H) (hm:m=some er) (k:∀ cls d F' H',Ext Fe He F' H'->jes cs er cls d F'->E cls d H'):Q_ (VR te) u' D σ H:=
 jgq (D:={ D with nx:=u' D }) he X hm k
theorem zM {m:α1->α2->Option γ} (h1:Ev K σ F H t1 p1.rs m1) (h2:Ev K σ F H t2 p2.rs m2):Ev K σ F H (jeu (Vg (sp2 K p1 p2 rs m) sp') Er' (jJ t1 (jJ t2 xb))) rs (m1.bind fun x1=>m2.bind fun x2=>m x1 x2):=by
 intro F0 H0 X0 z he Q k;obtain⟨x1,e1,he⟩:=bind_some he;obtain⟨x2,e2,he⟩:=bind_some he;refine h1 F0 H0 (X0) x1 e1 _ fun v1 F1 H1 E1 r1=>?_;refine h2 F1 H1 (X0.trans E1) x2 e2 _ fun v2 F2 H2 E2 r2=>?_;exact .inl ⟨x1,x2,v1,v2,F2,z,rfl,E2.sub,(p1.mono E2 r1),r2,he,fun u F' H' E' hu=>k u F' H' (((E1).trans E2).trans E') (rs.back ((E1).trans E2).h hu)⟩
theorem kG {e:α1->α2->Option Er} (h1:Ev K σ F H t1 p1.rs m1) (h2:Ev K σ F H t2 p2.rs m2):EvE K σ F H (jeu (Vg sp (zY K p1 p2 cs e)) (fun _=>E) (jJ t1 (jJ t2 xb))) cs E (m1.bind fun x1=>m2.bind fun x2=>e x1 x2):=by
 intro F0 H0 X0 er he k Q;obtain⟨x1,e1,he⟩:=bind_some he;obtain⟨x2,e2,he⟩:=bind_some he;refine h1 F0 H0 (X0) x1 e1 _ fun v1 F1 H1 E1 r1=>?_;refine h2 F1 H1 (X0.trans E1) x2 e2 _ fun v2 F2 H2 E2 r2=>?_;exact .inr ⟨x1,x2,v1,v2,F2,er,rfl,E2.sub,(p1.mono E2 r1),r2,he,fun cls d F' H' E' z=>k cls d F' H' (((E1).trans E2).trans E') z⟩
end
section
variable {F:Hp}{rs:Rs γ}{tc:(St->XK)->TE}{me:Option Er}{mv:Option γ}{f:Option Er->Option δ} 
def jja (k i:Nat) (er:Er):Option Int:=if er.c=k then er.vs[i]? else none
def Wn (ks:List Nat) (er:Er):Bool:=decide (er.c∈ks)
variable {t:TE}{m:Option (Option Er)}{o:Option Er}
def jjR (K:W.Frag) (cs:Ecs) (k i:Nat) (f:Str):Prop:=∃ C ns,cs[k]?=some (C,ns)/\XGet K C/\NoAttr K C f/\ns.Nodup/\ns[i]?=some f
theorem Wo {f:Str}:∀ {ns:List Str}{vs:List Int}{i:Nat}{x:Int},ns.Nodup->ns[i]?=some f->vs[i]?=some x->(ns.zip (vs.map V.int)).lookup f=some (.int x)
 | [],_,_,_,_,h,_=>by simp at h
 | _::_,[],_,_,_,_,h=>by simp at h
 | n::ns,v::vs,0,x,_,h,h'=>by
  have h1:n=f:=by simpa using h
  have h2:v=x:=by simpa using h'
  subst h1; subst h2;simp[List.lookup]
 | n::ns,v::vs,i+1,x,nd,h,h'=>by
  have h1:ns[i]?=some f:=by simpa using h
  have h2:vs[i]?=some x:=by simpa using h'
  have ne:(f==n)=false:=by
   rw[beq_eq_false_iff_ne];intro z; subst z;exact(List.nodup_cons.mp nd).1 (XG h1)
  show ((n,V.int v)::ns.zip (vs.map V.int)).lookup f=_;rw[wE,ne];exact Wo (List.nodup_cons.mp nd).2 h1 h2
theorem jiv {i':Nat}{g:Str} (hf:jjR K cs k' i' g) (h:Ev K σ F H t (rF (cOE cs)) m):Ev K σ F H (tXF K t g) (rF cI) (m.bind fun o=>o.bind fun er=>jja k' i' er):=by
 intro F1 H1 E z e Q k;obtain⟨o,eo,e1⟩:=bind_some e;obtain⟨er,eer,e⟩:=bind_some e1;subst eer;refine h F1 H1 E _ eo _ fun v F2 H2 E2 hv=>?_;clear e1;obtain⟨C',ns',hc',xg,na,nd,hi'⟩:=hf;obtain⟨a,C,d,ns,ev,ha,hc,hl,hd⟩:=hv;unfold jja at e;by_cases q:er.c=k'
 ·rw[if_pos q] at e;rw[q,hc'] at hc;cases hc;rcases hd with⟨hn,_⟩ | ⟨dx,rfl,hx⟩
  ·subst hn; simp at hi'
  ·exact⟨a,_,dx,false,_,.int z,ev,E2.sub _ _ ha,E2.sub _ _ hx,xg,na,Wo nd hi' e,k _ F2 H2 E2 rfl⟩
 ·rw[if_neg q] at e; cases e
def jiw (K:W.Frag) (cs:Ecs) (cv:Value) (ks:List Nat):Prop:=∀ (i:Nat) (C:Addr) (ns:List Str),cs[i]?=some (C,ns)->XIs K C/\W.kitOne K (.ref C) cv=some (decide (i∈ks))
theorem jix {c:V} (hc:∀ u,RelV c u->u=cv) (hk:jiw K cs cv ks) (h:Ev K σ F H t (rF (cOE cs)) m) :
  Ev K σ F H (tCB (fun xs H Q=>∃ a C d fr c cv b,xs=[.ref a,c]/\(∀ u,RelV c u->u=cv)/\H a=some (XO a C d fr)/\(∀ dx,d=some dx->∃ fs,H dx=some (XD dx fs))/\XIs K C/\W.kitOne K (.ref C) cv=some b/\Q (.bl b) H) (jJ t (jJ (tC c) xb))) (rF cB) (m.bind fun o=>o.bind fun er=>some (Wn ks er)):=by
 intro F1 H1 E z e Q k;obtain⟨o,eo,e1⟩:=bind_some e;obtain⟨er,eer,e2⟩:=bind_some e1;subst eer;cases e2;refine h F1 H1 E _ eo _ fun v F2 H2 E2 hv=>?_;obtain⟨a,C,d,ns,ev,ha,hcs,hl,hd⟩:=hv;subst ev;obtain⟨x1,x2⟩:=hk _ _ _ hcs;refine⟨a,C,d,false,c,cv,Wn ks er,rfl,hc,E2.sub _ _ ha,fun dx e=>?_,x1,x2,k _ F2 H2 E2 rfl⟩;rcases hd with⟨_,hn⟩ | ⟨dx',e',hx⟩
 ·rw[hn] at e; cases e
 ·rw[e'] at e; cases e; exact ⟨_,E2.sub _ _ hx⟩
end
def XCl (K:W.Frag) (mg:Str->Option Value) (cs:Ecs) (x:Str) (ks:List Nat):Prop:=∃ C,mg x=some (.ref C)/\jiw K cs (.ref C) ks
section
variable {F:Hp}{rs:Rs γ}{tc:(St->XK)->TE}{me:Option Er}{mv:Option γ}{f:Option Er->Option δ} 
variable {t:TE}{m:Option (Option Er)}{o:Option Er}
theorem jaE {mm_:Option Int}{i':Nat}{g:Str} (hf:jjR K cs k' i' g) (h:Ev K σ F H t (rF (cOE cs)) (some o)) (e_:(o.bind fun er=>jja k' i' er)=mm_):Ev K σ F H (tXF K t g) (rF cI) mm_:=e_ ▸ jiv hf h
abbrev rXI (K:W.Frag):List V->Hp->VK->Prop:=fun xs H Q=>∃ a C d fr c cv b,xs=[.ref a,c]/\(∀ u,RelV c u->u=cv)/\H a=some (XO a C d fr)/\(∀ dx,d=some dx->∃ fs,H dx=some (XD dx fs))/\XIs K C/\W.kitOne K (.ref C) cv=some b/\Q (.bl b) H
theorem yh {mm_:Option Bool}{c:V} (hc:∀ u,RelV c u->u=cv) (hk:jiw K cs cv ks) (h:Ev K σ F H t (rF (cOE cs)) (some o)) (e_:(o.bind fun er=>some (Wn ks er))=mm_) :
  Ev K σ F H (tCB (rXI K) (jJ t (jJ (tC c) xb))) (rF cB) mm_:=e_ ▸ jix hc hk h
end
end L3
namespace L2
open PySem PySem.Spec PyProof.Rows
theorem Vh (a b:Int):Builtin.Range.rangeSize a b (-1)=if b<a then a-b else 0:=by
 unfold Builtin.Range.rangeSize;rw[if_neg (by decide),Int.neg_neg,Int.ediv_one];by_cases h:b<a
 ·rw[if_pos h,if_pos h]; omega
 ·rw[if_neg h,if_neg h]
theorem jiy {a b:Int} (ha:-(2 ^ 62)<=a) (ha':a<2 ^ 62) (hb:-(2 ^ 62)<=b) (hb':b<2 ^ 62):Builtin.Range.small a b (-1)=true:=by
 unfold Builtin.Range.small;rw[Vh];simp only[Builtin.Range.rangeFitsLong,XB,Bool.or_eq_true,Xs,wj,show ((-1:Int) > 0)=False by simp,wD];split <;> omega
def Itd (hi:Int) (n:Nat):It:=⟨fun i _=>i<n,fun i H x H'=>H'=H/\x=.int (hi-i),fun i _=>n<=i⟩
theorem jaF {P:Program} (it:Addr) (hi:Int) (n:Nat):Turn P w K tg (Itd hi n) [it] it (fun i h=>IsRangeIter h it (hi+(i:Nat) * (-1)) ((n:Int)-(i:Nat)) (-1)) where
 mem:=by simp
 obj:=fun i h st b hb=>by
  have e:b=it:=by simpa using hb
  subst e;exact⟨_,st,fun v z=>by
   have z':Data.fields _=Data.cell v:=z;cases z'⟩
 keep:=fun i h h' st k=>k it (by simp) _ st
 item:=by
  intro X hP hw hK hc i pins s σ H E I hf st hg;subst hP hw hK;obtain⟨f0,f1,f2,f3,f4,f5⟩:=hf it (by simp);have W:=Walks.range (prog:=X.prog) (w:=X.w) (I.ok.hd hc) it hi (-1) n;refine W.item i s _ _ hg st fun v h' tk hv st' kk=>?_;obtain⟨t,rfl⟩:=hv;have I1:Inv X pins σ H { s with heap:=h',toks:=tk }:=I.turned (fun b o hb e=>kk b o (by simpa using hb) e) f0 f1 f3 f4 f5
  refine⟨_,rfl,jfs (s:={ s with heap:=h',toks:=tk }) (n:="range_iterator") st' rfl rfl (by decide) ⟨.int (hi-i),H,I1,⟨t,?_⟩,⟨rfl,rfl⟩,st',fun b hb=>(hf b hb).1⟩⟩
  rw[show hi+(i:Int) * (-1)=hi-i by omega]
 done:=by
  intro X hP hw hK hc i pins s σ H E I hf st hg;subst hP hw hK;obtain⟨f0,f1,f2,f3,f4,f5⟩:=hf it (by simp);exact wpAny_pyNext_range_end (I.ok.hd hc) st (by have:n<=i:=hg; omega) fun h' eb=>⟨rfl,I.turned (t':=s.toks) (fun b o hb e=>eb b o hb e) f0 f1 f3 f4 f5⟩
 self:=fun _ _ _ _ _ st h=>wpAny_pyIter_rangeiter st h
section
theorem jew {R:It->Hp->Prop}{hi lo:Int}{t u v:Tok} (I:Inv X pins σ H s) (h1:-(2 ^ 62)<=hi) (h2:hi<2 ^ 62) (h3:-(2 ^ 62)<=lo) (h4:lo<2 ^ 62)
  (q:R (Itd hi (hi-lo).toNat) H):wpAny (model X.prog X.w) X.A (pyIter (.ref s.heap.objs.size)) (PIE X pins σ tg R) E { s with heap:=s.heap.push { cls:=.type "range",data:=.fields #[.int hi t,.int lo u,.int (-1) v] },toks:=tk }:=by
 refine wpAny_pyIter_range (IsRange.new ..) (jiy h1 h2 h3 h4) ?_;have I1:Inv X pins σ H { s with heap:=s.heap.push { cls:=.type "range",data:=.fields #[.int hi t,.int lo u,.int (-1) v] },toks:=tk }:=I.kept fun b o e=>Xc _ e
 refine⟨(s.heap.push { cls:=.type "range",data:=.fields #[.int hi t,.int lo u,.int (-1) v] }).objs.size,[(s.heap.push { cls:=.type "range",data:=.fields #[.int hi t,.int lo u,.int (-1) v] }).objs.size],_,_,H,rfl,
  I1.kept (t':=tk) fun b o e=>Xc _ e,jaF _ hi (hi-lo).toNat,?_,fun b hb=>?_,q⟩
 ·have e1:hi+((0:Nat):Int) * (-1)=hi:=by simp
  have e2:(((hi-lo).toNat:Nat):Int)-((0:Nat):Int)=Builtin.Range.rangeSize hi lo (-1):=by rw[Vh]; split <;> omega
  show IsRangeIter _ _ (hi+((0:Nat):Int) * (-1)) ((((hi-lo).toNat:Nat):Int)-((0:Nat):Int)) (-1);rw[e1,e2];exact Xn _ rfl
 ·have e:b=(s.heap.push { cls:=.type "range",data:=.fields #[.int hi t,.int lo u,.int (-1) v] }).objs.size:=by simpa using hb
  subst e;exact I1.fpOk (Xh _) (I1.hok.fresh (Xh _))
def jiz (ta:TA):TI:=fun σ H R=>ta σ H fun vs H1=>∃ i j:Int,vs=[.int i,.int j,.int (-1)]/\(-(2 ^ 62)<=i/\i<2 ^ 62/\-(2 ^ 62)<=j/\j<2 ^ 62)/\R (Itd i (i-j).toNat) H1
theorem jex {a b c:Expr}{ta:TA} (hg:Gl X "range") (hm:X.mg "range"=none) (ha:PA X [a,b,c] ta) (hs:starEach [a,b,c] X.env=[(false,eval a X.env),(false,eval b X.env),(false,eval c X.env)]:=by rfl) (hs2:starEach [b,c] X.env=[(false,eval b X.env),(false,eval c X.env)]:=by rfl) :
  PI X tg (.Call (.Name "range" p) [a,b,c] [] pos) (jiz ta):=by
 intro pins s σ H R I h;refine Call_ (Q9 I hg hm boot_range (wP (thn (ha pos pins s σ H _ I h) fun us s1 ⟨vs,H1,I1,r1,q1⟩=>?_) (by rw[hs,hs2]) (by rw[hs2]; rfl)));obtain⟨i,j,e,⟨q1,q2,q3,q4⟩,q⟩:=q1;subst e;cases r1 with
 | cons r rr=>
  cases rr with
  | cons r' rr=>
   cases rr with
   | cons r'' rr=>
    cases rr;obtain⟨t,rfl⟩:=r;obtain⟨t',rfl⟩:=r';obtain⟨t'',rfl⟩:=r'';exact call_range_3 (by decide) (jew I1 q1 q2 q3 q4 q) (Or.inl (PyProof.noPylong_small (by decide)))
def Wp (hi lo:Int):List Int:=(List.range (hi-lo).toNat).map fun k=>hi-((k:Nat):Int)
end
end L2
namespace L3
open PySem PySem.Spec L2
section
variable {F:Hp}{t:TE}{d:Cd β}{p:Pm α}{rs:Rs γ} 
@[irreducible] def jaG (hi lo:Int):Option (List Int):=if -(2 ^ 62)<=hi/\hi<2 ^ 62/\-(2 ^ 62)<=lo/\lo<2 ^ 62 then some (Wp hi lo) else none
theorem Wq (hi lo:Int):(Wp hi lo).length=(hi-lo).toNat:=by simp[Wp]
theorem jiA {hi lo:Int} (h:∀ F H,G F H->Same F H):ItOk K (Itd hi (hi-lo).toNat) cI (Wp hi lo) G where
 go:=fun i F H g hi'=>by rw[Wq] at hi'; exact hi'
 yld:=fun i F H x H' g y b hb=>by
  obtain⟨e,y⟩:=y;subst e y;refine⟨F,Ext.refl (h F _ g),?_⟩;unfold Wp at hb;rw[Xy] at hb;cases q:(List.range (hi-lo).toNat)[i]? with
  | none=>rw[q] at hb; cases hb
  | some j=>
   rw[q] at hb;have hij:j=i:=by
    obtain⟨h1,h2⟩:=List.getElem?_eq_some_iff.mp q;simpa using h2.symm
   subst hij;cases hb;rfl
 stop:=fun F H g=>by rw[Wq]; exact Xh _
theorem jey {m:Option Int} (h:Ev K σ F H t (rF cI) m) (h':Ev K σ F H ta (rF cI) m') (h'':Ev K σ F H tb (rF cI) (some (-1))) (e':mm_=(m.bind fun i=>m'.bind fun j=>jaG i j)) :
  Ei K σ F H Fe He (jiz (jJ t (jJ ta (jJ tb xb)))) cI mm_:=by
 subst e';intro X l e R k;obtain⟨i,ei,e⟩:=bind_some e;obtain⟨j,ej,e⟩:=bind_some e;unfold jaG at e;obtain⟨⟨h1,h2,h3,h4⟩,rfl⟩:=kI e;refine h F H (Ext.refl X.sub) i ei _ fun v F2 H2 E hv=>h' F2 H2 E j ej _ fun v' F3 H3 E3 hv'=>h'' F3 H3 (E.trans E3) (-1) rfl _ fun v'' F4 H4 E4 hv''=>?_;have ev:v=.int i:=hv;have ev':v'=.int j:=hv';have ev'':v''=.int (-1):=hv'';subst ev ev' ev'';exact⟨i,j,rfl,⟨h1,h2,h3,h4⟩,k (Itd i (i-j).toNat) F4 H4 (E.trans (E3.trans E4)) (jiA fun F' H' g=>g.1.sub)⟩
theorem jaH {i j:Int} (h:Ev K σ F H t (rF cI) (some i)) (h':Ev K σ F H ta (rF cI) (some j)) (h'':Ev K σ F H tb (rF cI) (some (-1))) (e':mm_=jaG i j) :
  Ei K σ F H Fe He (jiz (jJ t (jJ ta (jJ tb xb)))) cI mm_:=jey h h' h'' e'
end
end L3
namespace L2
open PySem PySem.Spec PyProof.Rows
section
variable [DecidableEq κ]
def Vi (kvs:List (κ×V)) (k:κ):Option V:=(kvs.find? fun kv=>decide (kv.1=k)).map (·.2)
theorem UE {p:κ×V}{r:List (κ×V)}{k:κ} (e:p.1=k):Vi (p::r) k=some p.2:=by simp[Vi,wL,e]
theorem UF {p:κ×V}{r:List (κ×V)}{k:κ} (e:¬ p.1=k):Vi (p::r) k=Vi r k:=by simp[Vi,wL,e]
theorem RelO.isSome_eq {o:Option V}{u:Option Value} (r:RelO o u):o.isSome=u.isSome:=by
 cases o with
 | none=>cases u with
  | none=>rfl
  | some _=>exact (show False from r).elim
 | some _=>cases u with
  | none=>exact (show False from r).elim
  | some _=>rfl
theorem KV.val {kvs:List (κ×V)}{vs:List (κ×Value)} (r:KV kvs vs) (k:κ):RelO (Vi kvs k) (valueAt vs k):=by
 unfold KV at r
 induction r with
 | nil=>exact True.intro
 | @cons p q ps qs h t ih=>
  obtain⟨h1,h2⟩:=h;by_cases e:p.1=k
  ·have e':q.1=k:=h1.symm.trans e;have b:valueAt (q::qs) k=some q.2:=by simp[valueAt,wL,e']
   rw[UE e,b]; exact h2
  ·have e':¬ q.1=k:=fun z=>e (h1.trans z);have b:valueAt (q::qs) k=valueAt qs k:=by simp[valueAt,wL,e']
   rw[UF e,b]; exact ih
end
theorem jiB {P:Program}{k:Key} (r:RelV (kV k) u):(zU P w).is k u=true:=by
 cases k with
 | inl i=>obtain⟨t,e⟩:=(show ∃ t,u=Value.int i t from r); subst e; exact Z5 P w i t
 | inr x=>obtain⟨t,e⟩:=(show ∃ t,u=Value.str x t from r); subst e; exact Z6 P w x t
theorem Zx {P:Program} :∀ {ks:List Key}{us:List Value},Vals (ks.map kV) us->ItemsAre (zU P w) ks us
 | [],_,r=>by rw[List.map_nil] at r; cases r; exact .nil
 | k::ks,_,r=>by
  rw[X8] at r;cases r with
  | cons h t=>exact .cons (jiB h) (Zx t)
abbrev KT (fl:Bool) (H:Hp):List (List Key×V)->List (List Key×Addr×Value)->Prop:=Paired fun p q=>p.1=q.1/\TupK fl H p.1 q.2.1/\RelV p.2 q.2.2
theorem KT.val {xs:List (List Key×Addr×Value)} (r:KT fl H kvs xs) (k:List Key):RelO (Vi kvs k) ((atKey xs k).map (·.2)):=by
 induction r with
 | nil=>exact True.intro
 | @cons p q ps qs h t ih=>
  obtain⟨h1,_,h2⟩:=h;by_cases e:p.1=k
  ·have e':q.1=k:=h1.symm.trans e;have b:atKey (q::qs) k=some q.2:=by simp[atKey,wL,e']
   rw[UE e,b]; exact h2
  ·have e':¬ q.1=k:=fun z=>e (h1.trans z);have b:atKey (q::qs) k=atKey qs k:=by simp[atKey,wL,e']
   rw[UF e,b]; exact ih
section
variable {P:Program} 
theorem jjS {u:HO} (ok:HOk P w H h) (e:Rd H a u):ObjOk P w H h a u:=e.ok ok
theorem jk6 {kvs:List (Key×V)} (ok:HOk P w H h) (e:Rd H a (.dK kvs)):kvs.length<=sizeLine/\(a==sysModules)=false/\∃ vs,KV kvs vs/\h.DictOf (zU P w) a vs:=
 show ObjOk P w H h a (.dK kvs) from jjS ok e
theorem jez {ks:List Key} (ok:HOk P w H h) (e:H a=some (.tup (ks.map kV))):(tupleKind (zU P w)).is h ks a:=by
 obtain⟨_,its,r,o,h1,h2,n,h3⟩:=(show ObjOk P w H h a (.tup (ks.map kV)) from ok a _ e);exact⟨o,its.toArray,n,h1,h2.1,h3,by simpa using Zx r⟩
theorem jhs {ks:List Key} (ok:HOk P w H h) (e:TupK fl H ks a):(kdT fl P w).is h ks a:=by
 cases fl with
 | false=>exact jez ok e
 | true=>
  obtain⟨k,r,t,rfl,e1,e2⟩:=e;obtain⟨_,its,q,o,h1,h2,n,h3⟩:=(show ObjOk P w H h a (.tup [.ref t,kV k]) from ok a _ e1);cases q with
  | cons q1 q=>
   cases q with
   | cons q2 q=>
    cases q;cases (show _=Value.ref t from q1);exact⟨k,r,t,_,o,n,rfl,h1,h2.1,h3,jez ok e2,jiB q2⟩
theorem jgr (hu:A.units+2<cLine):(kdT fl P w).room A.in1:=by
 cases fl with
 | false=>exact (show A.units+1<cLine by omega)
 | true=>exact (show A.units+1+1<cLine by omega)
theorem jk7 (ok:HOk P w H h) (e:Rd H a (.dT fl kvs)):kvs.length<=sizeLine/\(a==sysModules)=false /\
  ∃ xs,KT fl H kvs xs/\h.DictOfH (kdT fl P w) a xs:=by
 obtain⟨z,y,xs,r,o,es,ep,h1,h2,h3,h4,h5⟩:=(show ObjOk P w H h a (.dT fl kvs) from jjS ok e);refine⟨z,y,xs,r,o,es,ep,h1,h2,h3,h4,fun x hx=>?_,h5⟩;have all:∀ {l:List (List Key×V)}{m:List (List Key×Addr×Value)},KT fl H l m->∀ x∈m,(kdT fl P w).is h x.1 x.2.1:=by
  intro l m q
  induction q with
  | nil=>intro x hx; exact nomatch hx
  | @cons p q ps qs hq t ih=>
   intro x hx;rcases Xk.mp hx with e | hx
   ·subst e;exact jhs ok (by rw[<- hq.1]; exact hq.2.1)
   ·exact ih x hx
 exact all r x hx
end
def DGet (H:Hp) (a:Addr) (y:V) (r:Option V):Prop:=
 (∃ kvs k,Rd H a (.dK kvs)/\y=kV k/\r=Vi kvs k) \/ ∃ fl kvs k b,Rd H a (.dT fl kvs)/\y=.ref b/\TupK fl H k b/\r=Vi kvs k
theorem DGet.k {kvs:List (Key×V)}{k:Key} (e:H a=some (.dK kvs)):DGet H a (kV k) (Vi kvs k):=.inl ⟨kvs,k,.inl e,rfl,rfl⟩
theorem DGet.t {b:Addr}{k:List Key} (e:H a=some (.dT fl kvs)) (eb:TupK fl H k b):DGet H a (.ref b) (Vi kvs k):=.inr ⟨_,kvs,k,b,.inl e,rfl,eb,rfl⟩
section
variable {y v:V}{r:Value}{o:Option V} 
theorem Inv.big (I:Inv X pins σ H s):sysModules<s.heap.objs.size:=by
 have h:mainGlobals<s.heap.objs.size:=(I.mod.glob.keeps I.bk).lt;exact Nat.lt_trans (by decide) h
theorem jiC (hu:A.units+2<cLine) (I:Inv X pins σ H s) (g:DGet H a y o) (ry:RelV y u) (h:∀ s',Inv X pins σ H s'->Q (.bool (!o.isSome)) s') :
  wpAny (model X.prog X.w) A (compareOp .NotIn u (.ref a)) Q E s:=by
 rcases g with⟨kvs,k,e,ey,l⟩ | ⟨fl,kvs,k,b,e,ey,eb,l⟩
 ·subst ey;obtain⟨z,hd,vs,rel,dd⟩:=jk6 I.hok e;refine wpAny_notIn_of (jiB ry) hd dd.mapOf ?_;rw[<- (rel.val k).isSome_eq,<- l];exact h _ (I.tok _)
 ·subst ey;cases (show u=Value.ref b from ry);obtain⟨z,hd,xs,rel,dd⟩:=jk7 I.hok e;refine wpAny_notIn_heap (jgr hu) (jhs I.hok eb) hd dd ?_;have q:=(rel.val k).isSome_eq;rw[Option.isSome_map] at q;rw[<- q,<- l];exact h _ (I.tok _)
end
def Vj (ty td:TE):TE:=fun σ H Q=>ty σ H fun y H1=>td σ H1 fun x H2=>∃ a o,x=.ref a/\DGet H2 a y o/\Q (.bl (!o.isSome)) H2
section
variable {o i:Expr} 
theorem Zy (hu:X.A.units+2<cLine) (hi:PE X i ty) (ho:PE X o td):PC X .NotIn i o (Vj ty td):=by
 intro pins s σ H Q I h;refine thn (hi pins s σ H _ I h) fun iv s1 ⟨y,H1,I1,ry,q1⟩=>thn (ho pins s1 σ H1 _ I1 q1) fun u s2 ⟨x,H2,I2,rx,a,ov,ex,g,q2⟩=>?_;subst ex;obtain rfl:u=Value.ref a:=rx;exact jiC hu I2 g ry fun s3 I3=>⟨.bl (!ov.isSome),H2,I3,rfl,q2⟩
end
theorem jgs {P:Program} (h:Heap) (hb:sysModules<h.objs.size):ObjOk P w H (h.push { cls:=.type "dict",data:=.dict #[] }) h.objs.size (.dK []):=
 ⟨wH _,beq_eq_false_iff_ne.mpr (Ne.symm (XA hb)),[],.nil,Heap.DictOf.new h⟩
theorem jgt {P:Program} (h:Heap) (hb:sysModules<h.objs.size):ObjOk P w H (h.push { cls:=.type "dict",data:=.dict #[] }) h.objs.size (.dT fl []):=
 ⟨wH _,beq_eq_false_iff_ne.mpr (Ne.symm (XA hb)),[],.nil,_,#[],0,Xn _ rfl,⟨rfl,rfl,rfl⟩,rfl,rfl,List.nodup_nil⟩
def jht:TE:=fun _ H Q=>∀ p,H p=none->Q (.ref p) (upd H p (.dK []))
def jhu (fl:Bool):TE:=fun _ H Q=>∀ p,H p=none->Q (.ref p) (upd H p (.dT fl []))
section
theorem jgu:PE X (.Dict [] [] pos) jht:=fun pins s σ H Q I h=>
 wpAny_Dict_empty ⟨.ref s.heap.objs.size,_,I.laid (a:=s.heap.objs.size) (o:=.dK []) (t':=s.toks) (fun _ _ q=>Xc _ q) (Xh _) (jgs s.heap I.big),rfl,h _ (I.hok.fresh (Xh _))⟩
theorem jgv:PE X (.Dict [] [] pos) (jhu fl):=fun pins s σ H Q I h=>
 wpAny_Dict_empty ⟨.ref s.heap.objs.size,_,I.laid (a:=s.heap.objs.size) (o:=.dT fl []) (t':=s.toks) (fun _ _ q=>Xc _ q) (Xh _) (jgt s.heap I.big),rfl,h _ (I.hok.fresh (Xh _))⟩
end
end L2
namespace L3
open PySem PySem.Spec L2
theorem hu1 {m:Nat} (h:n+200<m):n+2<m:=by omega
section
variable [DecidableEq κ]
def jbA (l:List (κ×α)) (k:κ):Option α:=(l.find? fun p=>decide (p.1=k)).map (·.2)
@[irreducible] def isK (k:κ) (l:List (κ×α)):Bool:=(jbA l k).isSome
end
class Kk (κ:Type) where
 k:κ->Key
 inj:∀ {a b},k a=k b->a=b
 cd:Cd κ
 rep:∀ {K F a v},cd.rep K F a v->v=kV (k a)
instance:Kk Int:=⟨fun i=>.inl i,fun h=>Sum.inl.inj h,cI,fun h=>h⟩
instance:Kk Str:=⟨fun i=>.inr i,fun h=>Sum.inr.inj h,cS,fun h=>h⟩
section
variable [DecidableEq κ] [Kk κ] {F:Hp}{t:TE}{d:Cd β}{p:Pm α}{rs:Rs γ} 
def KvR (K:W.Frag) (F:Hp) (c:Cd α) (p:κ×α) (q:Key×V):Prop:=q.1=Kk.k p.1/\c.rep K F p.2 q.2
theorem KvR.mono {F:Hp}{p:κ×α}{q:Key×V} (s:Same F F') (h:KvR K F c p q):KvR K F' c p q:=⟨h.1,c.mono s h.2⟩
theorem jhv {F:Hp}{k:κ}:∀ {l:List (κ×α)}{kvs:List (Key×V)},Paired (KvR K F c) l kvs->(jbA l k=none/\Vi kvs (Kk.k k)=none) \/ ∃ x v,jbA l k=some x/\Vi kvs (Kk.k k)=some v/\c.rep K F x v
 | _,_,.nil=>.inl ⟨rfl,rfl⟩
 | p::l,q::kvs,.cons ⟨r1,r2⟩ s=>by
  by_cases h:p.1=k
  ·right
   refine⟨p.2,q.2,?_,UE (by rw[r1,h]),r2⟩;unfold jbA;rw[wL,Xl h];rfl
  ·have e1:jbA (p::l) k=jbA l k:=by
    unfold jbA;rw[wL,Xp h]
   have e2:Vi (q::kvs) (Kk.k k)=Vi kvs (Kk.k k):=UF (by rw[r1]; exact fun e=>h (Kk.inj e));rw[e1,e2];exact jhv s
def pD (c:Cd α):Pm (List (κ×α)):=⟨fun K F H l v=>∃ a kvs,v=.ref a/\H a=some (.dK kvs)/\Paired (KvR K F c) l kvs,
 fun e ⟨a,xs,h1,h2,h3⟩=>⟨a,xs,h1,e.h _ _ h2,Paired.mapP h3 fun _ _=>KvR.mono e.f⟩⟩
def rD (c:Cd α):Rs (List (κ×α)):=⟨fun K H F2 H2 l v=>∃ a kvs,v=.ref a/\H a=none/\F2 a=none/\H2 a=some (.dK kvs)/\Paired (KvR K F2 c) l kvs,
 fun s ⟨a,xs,h1,h2,h⟩=>⟨a,xs,h1,s.free h2,h⟩⟩
structure OwnD (K:W.Frag) (He F H:Hp) (c:Cd α) (l:List (κ×α)) (a:Addr):Prop where
 e:He a=none
 f:F a=none
 h:∃ kvs,H a=some (.dK kvs)/\Paired (KvR K F c) l kvs
theorem OwnD.mono {l:List (κ×α)} (o:OwnD K He F H c l a) (E:Ext F H F' H'):OwnD K He F' H' c l a:=by
 obtain⟨xs,h1,h2⟩:=o.h;refine⟨o.e,?_,xs,E.h _ _ h1,Paired.mapP h2 fun _ _=>KvR.mono E.f⟩;cases e:F' a with
 | none=>rfl
 | some u=>
  rcases E.new a u e with z | z
  ·rw[o.f] at z; cases z
  ·rw[h1] at z; cases z
theorem OwnD.b {l:List (κ×α)} (o:OwnD K He F H c l a):(pD c).rel K F H l (.ref a):=let ⟨xs,h1,h2⟩:=o.h; ⟨a,xs,rfl,h1,h2⟩
theorem jiD:Ev K σ F H jht (rD (κ:=κ) c) (some []):=by
 intro F1 H1 E z e Q k a ha;cases e;exact k _ F1 _ (Ext.newO E.sub ha) ⟨a,[],rfl,ha,E.sub.free ha,jV,.nil⟩
theorem jgw {ml:Option (List (κ×α))}{mm_:Option Bool} (hk:Ev K σ F H ty (rF Kk.cd) mk) (hd:Ev K σ F H td (pD c).rs ml) (e_:mm_=(mk.bind fun k=>ml.bind fun l=>some (!isK k l))):Ev K σ F H (Vj ty td) (rF cB) mm_:=by
 subst e_;intro F1 H1 E z e Q k;obtain⟨y,ey,e⟩:=bind_some e;obtain⟨l,el,e⟩:=bind_some e;cases e;refine hk F1 H1 E y ey _ fun v F2 H2 E2 hv=>hd F2 H2 (E.trans E2) l el _ ?_;rintro w F3 H3 E3 ⟨a,kvs,rfl,h1,h2⟩;have ev:v=kV (Kk.k y):=Kk.rep hv;subst ev;refine⟨a,Vi kvs (Kk.k y),rfl,DGet.k h1,?_⟩;refine k _ F3 H3 (E2.trans E3) ?_;show V.bl (!(Vi kvs (Kk.k y)).isSome)=V.bl (!isK y l);unfold isK;rcases jhv (k:=y) h2 with⟨g1,g2⟩ | ⟨x,v,g1,g2,_⟩ <;> rw[g1,g2] <;> rfl
theorem jcq {y:κ}{l:List (κ×α)}{mm_:Option Bool} (hk:Ev K σ F H ty (rF Kk.cd) (some y)) (hd:Ev K σ F H td (pD c).rs (some l)) (e_:mm_=some (!isK y l)):Ev K σ F H (Vj ty td) (rF cB) mm_:=jgw hk hd e_
theorem jiE {m:Option (List (κ×α))}{f:List (κ×α)->Option δ} (he:Ev K σ F H te (rD c) m) (X:Ext Fe He F H) (hm:m.bind f=some r) (k:∀ l a F' H',f l=some r->Ext F H F' H'->Ext Fe He F' H'->H a=none->OwnD K He F' H' c l a->D.nx (σ.set i (some (.ref a))) H'):UN te (qO i) D σ H:=by
 obtain⟨a,ea,hm⟩:=bind_some hm;refine he F H (Ext.refl X.sub) a ea _ ?_;rintro v F2 H2 E ⟨b,xs,rfl,h1,h2,h3,h4⟩;exact k a b F2 H2 hm E (X.trans E) h1 ⟨X.h.free h1,h2,xs,h3,h4⟩
theorem jjT {m:Option (List (κ×α))}{f:List (κ×α)->Option δ} (he:Ev K σ F H te (rD c) m) (X:Ext Fe He F H) (hm:m.bind f=some r) (k:∀ l a F' H',f l=some r->Ext F H F' H'->Ext Fe He F' H'->H a=none->OwnD K He F' H' c l a->u' D (σ.set i (some (.ref a))) H'):Q_ (UN te (qO i)) u' D σ H:=
 jiE (D:={ D with nx:=u' D }) he X hm k
end
def jcr (c:Cd α) (C:Addr):Prop:=∀ {K:W.Frag}{H:Hp}{a:α}{v:V},c.rep K H a v->∃ p dx fs,v=.ref p/\H p=some (.ins C dx fs)
structure IsiC (K:W.Frag) (mg:Str->Option Value) (n:Str) (C D:Addr) (b:Bool):Prop where
 m:mg n=some (.ref D)
 ha:W.findIn K (.ref C) "__class__"=some (some (.builtin "object.__class__"))
 hn:W.specialIn K (.builtin "object.__class__") "__get__"=some (some (.builtin "getset_descriptor.__get__"))
 htk:W.takesIn K (.builtin "object.__class__")=some true
 hm:W.mroIn K C (.type "object")=some true
 one:W.kitOne K (.ref C) (.ref D)=some b
section
variable {F:Hp}{n:Str}{D:Addr}{b:Bool}
theorem jeA {m:Option α}{mm_:Option Bool} (hi:jcr c C) (cl:Cls K C) (T:IsiC K mg n C D b) (ha:Ev K σ F H ta (rF c) m) (e_:mm_=m.bind fun _=>some b) :
  Ev K σ F H (tCB (fun xs H Q=>∃ x c cv t b,xs=[x,c]/\(∀ u,RelV c u->u=cv)/\TyOf K H x t/\W.kitOne K t cv=some b/\Q (.bl b) H) (jJ ta (jJ (tC (.ref D)) xb))) (rF cB) mm_:=by
 subst e_;intro F1 H1 E z e Q k;obtain⟨a,ea,e⟩:=bind_some e;cases e;refine ha F1 H1 E a ea _ fun v F2 H2 E2 hv=>?_;obtain⟨p,dx,fs,rfl,hp⟩:=hi hv;exact⟨_,_,.ref D,.ref C,b,rfl,fun u h=>h,.ins (E2.sub _ _ hp) cl T.ha T.hn T.htk T.hm,T.one,k _ F2 H2 E2 rfl⟩
theorem j4 {x:α}{mm_:Option Bool} (hi:jcr c C) (cl:Cls K C) (T:IsiC K mg n C D b) (ha:Ev K σ F H ta (rF c) (some x)) (e_:mm_=some b) :
  Ev K σ F H (tCB (fun xs H Q=>∃ x c cv t b,xs=[x,c]/\(∀ u,RelV c u->u=cv)/\TyOf K H x t/\W.kitOne K t cv=some b/\Q (.bl b) H) (jJ ta (jJ (tC (.ref D)) xb))) (rF cB) mm_:=jeA hi cl T ha e_
end
end L3
namespace L2
open PySem PySem.Spec PyProof.Rows
def jk8 (t1 t2:TE):TE:=fun σ H Q=>t1 σ H Q \/ t2 σ H Q
theorem JK (h1:PE X e t1) (h2:PE X e t2):PE X e (jk8 t1 t2):=fun pins s σ H Q I h=>h.elim (h1 pins s σ H Q I) (h2 pins s σ H Q I)
end L2
namespace L3
open PySem PySem.Spec L2
section
variable {F:Hp}{t:TE}{d:Cd β}{rs:Rs γ}
def zc (c:Cd α) (d:Cd β):Cd (α ⊕ β) where
 rep:=fun K H x v=>Sum.elim (fun a=>c.rep K H a v) (fun b=>d.rep K H b v) x
 mono:=fun {K F F' x v} s h=>by
  cases x with
  | inl a=>exact c.mono s h
  | inr b=>exact d.mono s h
theorem W5 {m:Option α}{mm_:Option (α ⊕ β)} (h:Ev K σ F H t (rF c) m) (e_:mm_=m.bind fun a=>some (Sum.inl a)):Ev K σ F H t (rF (zc c d)) mm_:=by
 subst e_;intro F1 H1 E z e Q k;obtain⟨a,ea,e⟩:=bind_some e;cases e;exact h F1 H1 E a ea Q fun v F2 H2 E2 hv=>k v F2 H2 E2 hv
theorem JC {m:Option β}{mm_:Option (α ⊕ β)} (h:Ev K σ F H t (rF d) m) (e_:mm_=m.bind fun a=>some (Sum.inr a)):Ev K σ F H t (rF (zc c d)) mm_:=by
 subst e_;intro F1 H1 E z e Q k;obtain⟨a,ea,e⟩:=bind_some e;cases e;exact h F1 H1 E a ea Q fun v F2 H2 E2 hv=>k v F2 H2 E2 hv
theorem jbB {x:α ⊕ β}{v:V}{f:α->Option γ}{g:β->Option γ}{mm_:Option γ} (P:(zc c d).rep K F x v) (h1:∀ a,c.rep K F a v->Ev K σ F H t1 rs (f a)) (h2:∀ b,d.rep K F b v->Ev K σ F H t2 rs (g b)) (e_:mm_=Sum.elim f g x) :
  Ev K σ F H (jk8 t1 t2) rs mm_:=by
 subst e_;cases x with
 | inl a=>exact fun F1 H1 E z e Q k=>Or.inl (h1 a P F1 H1 E z e Q k)
 | inr b=>exact fun F1 H1 E z e Q k=>Or.inr (h2 b P F1 H1 E z e Q k)
end
def jjU (K:W.Frag) (CT:Addr) (p:Addr×Option Addr):Bool:=
 zK K p.1 p.2&&jfi K p.1 CT&&(W.clsIn K p.1).any (fun cd=>Zu cd.mro)&&W.hasDictIn K p.1 &&
 (W.findIn K (.ref p.1) "__getattribute__"==some (some (.builtin "BaseException.__getattribute__")))&&(W.findIn K (.ref p.1) "__getattr__"==some none) &&
 (W.findIn K (.ref p.1) "__class__"==some (some (.builtin "object.__class__")))&&(W.mroIn K p.1 (.type "object")==some true) &&
 (W.findIn K (.ref p.1) "__setattr__"==some (some (.builtin "object.__setattr__")))&&W.keepIn K (.ref p.1)
def jaI (K:W.Frag) (CT:Addr) (es:List (Addr×Option Addr)):Bool:=
 es.all (jjU K CT)&&(W.specialIn K (.builtin "object.__class__") "__get__"==some (some (.builtin "getset_descriptor.__get__")))&&(W.takesIn K (.builtin "object.__class__")==some true)
def jaJ (K:W.Frag) (es:List (Addr×Option Addr)) (cv:Value) (ks:List Nat):Bool:=es.zipIdx.all fun z=>W.kitOne K (.ref z.1.1) cv==some (decide (z.2∈ks))
structure XFacts (K:W.Frag) (CT C:Addr) (fo:Option Addr):Prop where
 exc:zK K C fo=true
 sub:jfi K C CT=true
 is:XIs K C
 cls:XCls K C
 kp:W.keepIn K (.ref C)=true
theorem Vk {es:List (Addr×Option Addr)} (h:jaI K CT es=true) {p:Addr×Option Addr} (hp:p∈es):XFacts K CT p.1 p.2:=by
 unfold jaI at h;rw[XB,XB,wz] at h;obtain⟨⟨h1,h2⟩,h3⟩:=h;have c:=h1 p hp;unfold jjU at c;simp only[XB,wj] at c h2 h3;obtain⟨⟨⟨⟨⟨⟨⟨⟨⟨c1,c2⟩,c3⟩,c4⟩,c5⟩,c6⟩,c7⟩,c8⟩,c9⟩,c10⟩:=c;exact⟨c1,c2,⟨⟨c3,c4,c5,c6⟩,c7,h2,h3,c8⟩,⟨c3,c4,c9⟩,c10⟩
theorem jjV {es:List (Addr×Option Addr)}{ns:List Str} (h:((es.zip nss).map fun z=>(z.1.1,z.2))[i]?=some (C,ns)):∃ fo,es[i]?=some (C,fo)/\nss[i]?=some ns:=by
 rw[Xy] at h;obtain⟨⟨⟨a,fo⟩,b⟩,e,r⟩:=Option.map_eq_some_iff.mp h;obtain⟨e1,e2⟩:=List.getElem?_zip_eq_some.mp e;cases r;exact⟨fo,e1,e2⟩
theorem jeB {es:List (Addr×Option Addr)} (h:jaI K CT es=true) (h2:jaJ K es cv ks=true):jiw K ((es.zip nss).map fun z=>(z.1.1,z.2)) cv ks:=fun i C ns e=>by
 obtain⟨fo,e1,_⟩:=jjV e;refine⟨(Vk h (XG e1)).is,?_⟩;unfold jaJ at h2;rw[wz] at h2;have:=h2 ((C,fo),i) (by
  rw[List.mem_iff_getElem?];exact⟨i,by rw[List.getElem?_zipIdx,e1]; simp⟩)
 exact wj.mp this
theorem jeC {es:List (Addr×Option Addr)} (h:jaI K CT es=true) (hm:mg x=some (.ref C)) (h2:jaJ K es (.ref C) ks=true):XCl K mg ((es.zip nss).map fun z=>(z.1.1,z.2)) x ks:=⟨C,hm,jeB h h2⟩
theorem jiF {es:List (Addr×Option Addr)}{k:Nat}{f:Str}{ns:List Str} (h:jaI K CT es=true) (he:es[k]?=some (C,fo)) (hn:nss[k]?=some ns) (hf:W.findIn K (.ref C) f=some none) (hd:ns.Nodup) (hi:ns[i]?=some f):jjR K ((es.zip nss).map fun z=>(z.1.1,z.2)) k i f:=by
 refine⟨C,ns,?_,(Vk h (XG he)).is.toXGet,hf,hd,hi⟩;rw[Xy,List.getElem?_zip_eq_some (z:=((C,fo),ns)) |>.mpr ⟨he,hn⟩]
 rfl
end L3
namespace L2
open PySem PySem.Spec PyProof.Rows
section
variable {k:Nat}{f:Addr}{m:Str}{o:Expr}{t:TA}{Er:St->XK}
theorem ya (DX:X.Def) (D:MthE X.prog X.w X.K X.mg X.base C m k ps sp) (hr:Room k X.A) (ho:PE (X.wish (Fly X Er)) o ta) (ha:PA (X.wish (Fly X Er)) (e::es) t)
  (hst:starEach (e::es) X.env=(false,eval e X.env)::starEach es X.env:=by rfl) (hpl:(backTo pos (starEach es X.env)).any (·.1)=false:=by rfl)
  (ht:eval (.Call (.Attribute o m apos) (e::es) [] pos) X.env=(do
   let ov <- eval o X.env
   standAt apos.atName
   let (f,first) <- holding [ov] (getMethod ov m pl)
   callWith pos f first (backTo pos (starEach (e::es) X.env)) (backToKw pos (keywordEach [] X.env))):=by rfl) :
  PE (X.wish (Fly X Er)) (.Call (.Attribute o m apos) (e::es) [] pos) (jhr C m sp Er ta t):=by
 obtain⟨f,fd,F,hm,hb⟩:=D.ex;intro pins s σ H Q I h;refine W.methodCall_KW (pl:=pl) (thn (ho pins s σ H _ I h) fun u s1 ⟨x,H1,I1,rx,a,dx,fs,ex,ea,l,q⟩=>?_) ht;subst ex;obtain rfl:u=Value.ref a:=rx;refine QO I1 ea D.cl hm l ?_;refine W.callWith_K (first:=[.ref a]) (h₀:=X.base) I.ok.mod.kin hm.kp (thn (ha pos pins s1 σ H1 _ I1 q) fun us s2 ⟨vs,H2,I2,r,q2⟩=>⟨I2.kIn,?_⟩) hst hpl;exact jev (us:=.ref a::us) (vs:=.ref a::vs) DX F hr hb I2 (.cons rfl r) q2
end
end L2
namespace L3
open PySem PySem.Spec L2
section
variable {F:Hp}{Er':St->XK}{E:XK}{rs:Rs γ} 
theorem k6 {c1:Cd α1}{e:α1->α2->Option Er} (ob:WV c1 C nm) (h1:Ev K σ F H t1 (rF c1) m1) (h2:Ev K σ F H t2 p2.rs m2):EvE K σ F H (jhr C nm (Vg sp (zY K (pF c1) p2 cs e)) (fun _=>E) t1 (jJ t2 xb)) cs E (m1.bind fun x1=>m2.bind fun x2=>e x1 x2):=by
 intro F0 H0 X0 er he k Q;obtain⟨x1,e1,he⟩:=bind_some he;obtain⟨x2,e2,he⟩:=bind_some he;refine h1 F0 H0 X0 x1 e1 _ fun v1 F1 H1 E1 r1=>?_;obtain⟨a,dx,fs,ea,ha,hl⟩:=ob r1;refine⟨a,dx,fs,ea,E1.sub _ _ ha,hl,?_⟩;refine h2 F1 H1 (X0.trans E1) x2 e2 _ fun v2 F2 H2 E2 r2=>?_;exact .inr ⟨x1,x2,v1,v2,F2,er,rfl,E2.sub,((pF c1).mono E2 r1),r2,he,fun cls d F' H' E' z=>k cls d F' H' ((E1.trans E2).trans E') z⟩
end
end L3
namespace L2
open PySem PySem.Spec PyProof.Rows
abbrev TJ:=St->Hp->Str->(Str->Hp->Prop)->Prop
def PJ (X:Cx) (es:List Expr) (t:TJ):Prop:=
 ∀ (pins:List (Addr×Obj)) (s:Shared) (σ:St) (H:Hp) (acc:Str) (Q:Str->Hp->Prop),Inv X pins σ H s->t σ H acc Q ->
  Joins (model X.prog X.w) X.A X.xe (evalEach es X.env) acc (fun out s1=>∃ H1,Inv X pins σ H1 s1/\Q out H1) s
def jlz:TJ:=fun _ H acc Q=>Q acc H
def jlA (x:Str) (r:TJ):TJ:=fun σ H acc Q=>(acc++x).length<=sizeLine/\r σ H (acc++x) Q
def jjW (t:TJ):TE:=fun σ H Q=>t σ H Str.empty fun out H1=>out.length<=sizeLine/\Q (.str out) H1
section
variable {a b:Expr}{t:TJ} 
theorem jjX:PJ X [] jlz:=fun _ _ _ H _ _ I h=>⟨H,I,h⟩
theorem jjY {j} (r:PJ X es t):PJ X (.Constant (.str x) j pos::es) (jlA x t):=by
 intro pins s σ H acc Q I h;show wpAny _ _ (eval (.Constant (.str x) j pos) X.env) _ _ s;exact Calls.Constant_str ⟨x,_,rfl,h.1,r pins _ σ H _ Q (I.tok _) h.2⟩
theorem Wr {Q Q':Str->Shared->Prop} (k:∀ out s,Q out s->Q' out s):∀ (l:List (Sem Value)) (acc:Str) (s:Shared),Joins M A E l acc Q s->Joins M A E l acc Q' s
 | [],acc,s,h=>k acc s h
 | x::r,acc,s,h=>wg h (fun v s1 ⟨y,t,e,hl,hr⟩=>⟨y,t,e,hl,Wr k r _ s1 hr⟩) fun _ _ z=>z
theorem jiG (h:PJ X (a::b::es) t):PE X (.JoinedStr (a::b::es) pos) (jjW t):=by
 intro pins s σ H Q I hq;refine wpAny_JoinedStr ?_;have:=h pins s σ H Str.empty _ I hq;exact Wr (fun out s1 ⟨H1,I1,hl,q⟩=>⟨hl,⟨.str out,H1,I1.tok _,⟨_,rfl⟩,q⟩⟩) _ _ _ this
end
end L2
namespace L3
open PySem PySem.Spec L2
@[irreducible] def VZ (a b:Str):Option Str:=if a.length+b.length<=sizeLine then some (a++b) else none
section
variable {F:Hp}{t:TE}{ma mb:Option Str} 
@[irreducible] def jjZ (a:Str):Option Str:=if a.length<=sizeLine then some a else none
def EvJ (K:W.Frag) (σ:St) (F H:Hp) (t:TJ) (m:Str->Option Str):Prop:=
 ∀ F1 H1,Ext F H F1 H1->∀ acc out,m acc=some out->∀ Q:Str->Hp->Prop,(∀ F2 H2,Ext F1 H1 F2 H2->out.length<=sizeLine->Q out H2)->t σ H1 acc Q
theorem jj0:EvJ K σ F H jlz (fun acc=>jjZ acc):=fun F1 H1 E acc out h Q k=>by
 unfold jjZ at h;obtain⟨hd,rfl⟩:=kI h;exact k F1 H1 (Ext.refl E.sub) hd
theorem jj1 {r:TJ}{m:Str->Option Str} (h:EvJ K σ F H r m):EvJ K σ F H (jlA x r) (fun acc=>(VZ acc x).bind m):=fun F1 H1 E acc out e Q k=>by
 obtain⟨a,ea,e⟩:=bind_some e;unfold VZ at ea;obtain⟨hl,rfl⟩:=kI ea;exact⟨by rw[strLen_append]; exact hl,h F1 H1 E _ out e Q k⟩
theorem jiH {r:TJ}{m:Str->Option Str} (h:EvJ K σ F H r m) {mm_:Option Str} (e':mm_=m Str.empty):Ev K σ F H (jjW r) (rF cS) mm_:=by
 subst e';intro F1 H1 E out e Q k;exact h F1 H1 E Str.empty out e _ fun F2 H2 E2 hl=>⟨hl,k _ F2 H2 E2 rfl⟩
end
end L3
namespace L2
open PySem PySem.Spec PyProof.Rows
section
variable {g:Array GenState}{d:Drawn}{t:Nat}{os:OsState}
variable {q:Str}{N:Addr}{bs:List Value}{dd:Option Addr} 
theorem jcs {rest:List Value}{Q:Fin->Shared->Prop} (c:ExcC h C none nm q N bs bm hdct sn sub ab col dd k0 k1 k2 k3 k5 mN)
  (hq:∀ h' u,(∀ b o,h.get? b=some o->h'.get? b=some o)->h'.get? (h.objs.size+1)=some (jis C u)->Q (.done (.ret (.ref (h.objs.size+1)))) ⟨h',g,d,t,os⟩) (hrest:rest.length<=sizeLine) :
  wpAny (model prog w) A (Builtin.«type.__call__» ⟨.ref C::rest,[]⟩) Q E ⟨h,g,d,t,os⟩:=by
 have F:=PySem.F.excBase_ValueError;have hC:=c.obj;have T:OwnTail h [.type "ValueError",.type "Exception",.type "BaseException",.type "object"] bm:=c.tail
 repeat (first | with_reducible refine wB hC ?_ | with_reducible refine wpAny_madeBy_exc hC ?_ | wp_step)
 refine codeAny_call_builtin_code (Code.quiet_builtin _ F.quiet) (wpAny_check_new_subT F T hC ?_);refine codeAny_exc_new_subT F T hC ?_ hrest;show wpAny _ _ _ _ _ _;have kp:∀ b o,h.get? b=some o->(jfh h C rest).get? b=some o:=fun b o e=>Xc _ (Xc _ e);have hC₁:=kp _ _ hC;have hn₁:(jfh h C rest).Ns N mN:=c.ns.keeps kp;have hget:(jfh h C rest).get? (h.objs.size+1)=some (jis C h.objs.size):=by heap_get
 have hcC:(Value.ref C::bm).contains (.ref C)=true:=by simp
 have T₁:=T.keeps kp;unfold isInstance
 repeat (first | with_reducible refine wB hget ?_ | (with_reducible refine wpAny_isSubtype_exc hC₁ ?_; rw[hcC]) | wp_step)
 show wpAny _ _ (typeLookup (.ref C) _) _ _ _;refine wpAny_typeLookup_tail hC₁ hn₁ T₁ F.mroIs F.init.lookup ?_;rw[c.init];refine X2 (Xa (wpAny_of_eq (F.init.bind _) (Xa (wpAny_call (codeAny_call_builtin F.init.plain F.initEntry (wpAny_check_init_subT F T₁ hC₁ hget rfl ?_))))))
 wp_walk
 refine hq _ (h.objs.size+2) (fun b o hb=>?_) ?_
 ·rw[XH _ _ (wQ (wK (Xo hb)))];exact Xc _ (kp b o hb)
 ·rw[XZ _ (Xc _ hget) rfl];simp only[wf];rfl
theorem jeD {rest:List Value} (c:ExcC h C none nm q N bs bm hdct sn sub ab col dd k0 k1 k2 k3 k5 mN)
  (hq:∀ h' u,(∀ b o,h.get? b=some o->h'.get? b=some o)->h'.get? (h.objs.size+1)=some (jis C u)->Q (.ref (h.objs.size+1)) ⟨h',g,d,t,os⟩) (hrest:rest.length<=sizeLine) :
  wpAny (model prog w) A (call (.ref C) rest) Q E ⟨h,g,d,t,os⟩:=by
 have f1:=tc_lookup;have f2:=tc_bind (.ref C);have hC:=c.obj;have hT:(⟨h,g,d,t,os⟩:Shared).TypeIs (.ref C) "type":=⟨_,hC,rfl⟩;refine wpAny_call (codeAny_of_tree ?_);show wpAny _ _ (callAny (.ref C) _) _ _ _
 repeat (any_goals (first | assumption | with_reducible refine wB hC ?_ | wp_step))
 refine⟨rfl,?_⟩;exact codeAny_call_builtin_at (Code.quiet_builtin _ (by decide +kernel)) entry_typeCall (wpAny_check_type_call_sub hC (jcs c (fun h' u k e=>hq h' u k e) hrest))
end
section
variable {k:Nat}{f:Addr}{t:TA}{Er:St->XK}
theorem jgx (M:XMk0 X.K C) (I:Inv X pins σ H s) (hl0:us.length<=sizeLine) :
  wpAny (model X.prog X.w) X.A (call (.ref C) us) (fun u s'=>∃ a,u=.ref a/\H a=none/\Inv X pins σ (upd H a (XO a C none true)) s'/\s.heap.objs.size<=a) Ex s:=by
 obtain⟨nm,q,N,bs,bm,hdct,sn,sub,ab,col,dd,k0,k1,k2,k3,k5,mN,c⟩:=QV I.kIn M.exc;obtain⟨hp,g,dr,tk,os⟩:=s;refine jeD c (fun h' u kp ho=>?_) hl0;exact⟨_,rfl,I.hok.fresh (wy _),I.laid (t':=tk) (o:=XO (hp.objs.size+1) C none true) kp (wy _) (XO.ok ho rfl rfl rfl fun _=>rfl),wy _⟩
def jeE (C:Addr) (Er:St->XK) (t:TA):TS:=fun _ σ H=>t σ H fun vs H1=>vs.length<=1000/\Er σ (.ref C) none H1
theorem jgy {o:HO} (h:H a=none):VY (upd H a o) a=H:=by
 funext b
 by_cases q:b=a
 ·subst q; rw[zL,h]
 ·rw[yL q,jM q]
theorem jeF (D:X.Def) (hcm:X.calm=true) (hx:∀ e s,Fly X Er e s->X.xe e s) (M:XMk0 X.K C) (hg:Gl X x) (hm:X.mg x=some (.ref C))
  (ha:PA X (e::es) t) (hdb:(x==("__debug__":Str))=false:=by decide) (he:starEach (e::es) X.env=(false,eval e X.env)::starEach es X.env:=by rfl) (hpl:(backTo cpos (starEach es X.env)).any (·.1)=false:=by rfl) :
  PS X (.Raise (some (.Call (.Name x p) (e::es) [] cpos)) none pos) (jeE C Er t):=by
 intro pins s σ H Dd I h;obtain⟨nm,q,N,bs,bm,hdct,sn,sub,ab,col,dd,k0,k1,k2,k3,k5,mN,c0⟩:=QV I.ok.mod.kin M.exc;refine Wm (C:=C) (fo:=none) (nm:=nm) (q:=q) (N:=N) (bs:=bs) (bm:=bm) (hdct:=hdct) (sn:=sn) (sub:=sub) (ab:=ab) (col:=col) (dd:=dd) (k0:=k0) (k1:=k1) (k2:=k2) (k3:=k3) (k5:=k5) (mN:=mN) (I.ok.hd hcm) ?_;refine wpAny_Call_Name_kw (zV I hg hm ?_ hdb);refine W.callWith_K (h₀:=X.base) I.ok.mod.kin M.kp (thn (ha cpos pins s σ H _ I h) fun us s1 ⟨vs,H1,I1,r,hln,q⟩=>⟨I1.kIn,?_⟩) he hpl;refine thn (jgx M I1 (by have:=r.length; show us.length<=sizeLine; rw[<- this,wa]; omega)) fun u s2 ⟨a,eu,hn,I2,hsz⟩=>?_;subst eu;obtain⟨⟨o,vs,ho,h1,h2,h3,h4⟩,_⟩:=I2.hok a _ jV;refine⟨a,o,vs,rfl,⟨I2.bk _ _ c0.obj,c0.ns.keeps I2.bk,c0.init,c0.tail.keeps I2.bk⟩,ho,h1,h3,h4 rfl,hx _ _ ?_⟩;have I3:=(I2.dropX jV).nopins D.pn;rw[jgy hn] at I3;exact⟨a,C,none,none,σ,H1,rfl,⟨o,vs,ho,h1,h2,h3,h4 rfl,fun p hp=>(nomatch hp)⟩,fun p hp=>(nomatch hp),Heap.get?_none_of_le (X6 I1.sz hsz),hn,fun p hp=>(nomatch hp),I3,q⟩
end
end L2
namespace L3
open PySem PySem.Spec L2
section
variable {F:Hp}{E:XK}{rs:Rs γ}{c:Nat} 
theorem jeG {m1:Option γ} (h1:Ev K σ F H t1 rs m1) (X:Ext Fe He F H) (hm:(m1.bind fun _=>some (Er.mk c []))=some er) (hc:cs[c]?=some (C,[]))
  (k:∀ cls d F' H',Ext Fe He F' H'->jes cs er cls d F'->E cls d H'):jeE C (fun _=>E) (jJ t1 xb) D σ H:=by
 obtain⟨a,ea,hm⟩:=bind_some hm;cases hm;refine h1 F H (Ext.refl X.sub) a ea _ fun v F1 H1 E1 r1=>?_;exact⟨by simp,k _ _ F1 H1 (X.trans E1) ⟨C,[],rfl,hc,rfl,.inl ⟨rfl,rfl⟩⟩⟩
end
structure MDef0 (K:W.Frag) (mg:Str->Option Value) (cs:Ecs) (x:Str) (c:Nat):Prop where
 ex:∃ C,cs[c]?=some (C,[])/\mg x=some (.ref C)/\XMk0 K C
end L3
namespace L2
open PySem PySem.Spec PyProof.Rows
section
theorem yR:GN (X.mark v) (.builtin "isinstance") (fun xs H Q=>∃ a C d fr c cv b,xs=[.ref a,c]/\(∀ u,RelV c u->u=cv)/\H a=some (XO a C d fr)/\(∀ dx,d=some dx->∃ fs,H dx=some (XD dx fs))/\XIs X.K C/\W.kitOne X.K (.ref C) cv=some b/\Q (.bl b) H):=jer (X:=X.mark v)
variable {P:Program} 
end
def shT (l:List Int):PyData:=.tuple (l.map PyData.int)
theorem Ws:∀ {us:List Value}{ns:List Int},IntsAre us ns->ReadsAll h us (ns.map PyData.int) []
 | _,_,.nil=>.nil
 | _,_,.cons n t r=>.cons (as:=[]) (bs:=[]) (.int n t) (Ws r)
theorem Wt:∀ ns:List Int,PyData.depthAll (ns.map PyData.int)<=1
 | []=>by simp[PyData.depthAll]
 | n::ns=>by
  have:=Wt ns;simp only[X8,PyData.depthAll,PyData.depth];omega
theorem Zz:∀ ns:List Int,PyData.hasDictAll (ns.map PyData.int)=false
 | []=>by simp[PyData.hasDictAll]
 | n::ns=>by
  have:=Zz ns;simp only[X8,PyData.hasDictAll,PyData.hasDict,this];rfl
def jlB (te:TE) (r:TJ):TJ:=fun σ H acc Q=>te σ H fun v H1=>∃ a l,v=.ref a/\H1 a=some (.tup (l.map V.int))/\(shT l).showable=true/\(shT l).shown.length<=sizeLine/\(acc++(shT l).shown).length<=sizeLine/\r σ H1 (acc++(shT l).shown) Q
section
variable {a b:Expr}{t:TJ} 
theorem jj2 (hg:X.A.guards=some []) (hu:X.A.units+200<cLine) (he:PE X e te) (r:PJ X es t):PJ X (.FormattedValue e 114 none pos::es) (jlB te t):=by
 intro pins s σ H acc Q I h;show wpAny _ _ (eval (.FormattedValue e 114 none pos) X.env) _ _ s;refine wpAny_FormattedValue_repr (thn (he pins s σ H _ I h) fun v s1 ⟨w,H1,I1,rw_,a,l,ew,ha,hs,hz,hl,q⟩=>?_);subst ew;cases rw_;obtain⟨_,its,r',o,e1,⟨e2,_⟩,n,e3⟩:=(show ObjOk X.prog X.w H1 s1.heap a (.tup (l.map V.int)) from I1.hok a _ ha);have rd:Reads s1.heap (.ref a) (shT l) []:=.tuple e1 e2 e3 (by simpa using Ws (yP r'));refine pyReprObj_of_reads rd hs (fun z=>?_) hg ?_ (fun _ _ e=>e) (fun h' u tk hk=>?_) hz
 ·have:=Zz l;simp only[shT,PyData.hasDict,this] at z;cases z
 ·have:=Wt l;show X.A.units+(PyData.tuple (l.map PyData.int)).depth<cLine;simp only[PyData.depth];omega
 ·have I2:=I1.kept (t':=tk) hk;exact wpAny_formatField_str ⟨_,_,rfl,hl,r pins _ σ H1 _ Q I2 q⟩ ⟨_,_,rfl,hl,r pins _ σ H1 _ Q (I2.tok _) q⟩ hz
end
end L2
namespace L3
open PySem PySem.Spec L2
@[irreducible] def jct (l:List Int):Option Str:=if (shT l).showable=true/\(shT l).shown.length<=sizeLine then some (shT l).shown else none
section
variable {F:Hp}{t:TE}{ml:Option (List Int)}
theorem jj3 {r:TJ}{m:Str->Option Str} (hi:Ev K σ F H t (rF (cT cI)) ml) (h:EvJ K σ F H r m):EvJ K σ F H (jlB t r) (fun acc=>ml.bind fun i=>(jct i).bind fun y=>(VZ acc y).bind m):=fun F1 H1 E acc out e Q k=>by
 obtain⟨l,ei,e⟩:=bind_some e;obtain⟨y,ey,e⟩:=bind_some e;obtain⟨a,ea,e⟩:=bind_some e;refine hi F1 H1 E l ei _ fun v F2 H2 E2 hv=>?_;obtain⟨p,xs,rfl,h1,h2⟩:=hv;rw[paired_ints h2] at h1;unfold jct at ey;unfold VZ at ea;obtain⟨⟨hs,hz⟩,rfl⟩:=kI ey;obtain⟨hl,rfl⟩:=kI ea;exact⟨p,l,rfl,E2.sub _ _ h1,hs,hz,by rw[strLen_append]; exact hl,h F2 H2 (E.trans E2) _ out e Q fun F3 H3 E3=>k F3 H3 (E2.trans E3)⟩
end
section
variable {F:Hp}{t:TE}{rs:Rs γ}{E:XK}{me m1 m2:Option Er}{g:TG} 
theorem jiI (h:EvE K σ F H t cs E me) (X:Ext Fe He F H) (hm:me=some er) (k:∀ cls d F' H',Ext Fe He F' H'->jes cs er cls d F'->E cls d H'):UN t g D σ H:=
 h F H (Ext.refl X.sub) er hm (fun cls d F2 H2 E2 z=>k cls d F2 H2 (X.trans E2) z) _
theorem Wu (h:EvE K σ F H t cs E me) (X:Ext Fe He F H) (hm:me=some er) (k:∀ cls d F' H',Ext Fe He F' H'->jes cs er cls d F'->E cls d H'):Q_ (UN t g) u' D σ H:=
 jiI (D:={ D with nx:=u' D }) h X hm k
end
class Kt (κ:Type) where
 fl:Bool
 k:κ->List Key
 inj:∀ {a b},k a=k b->a=b
 cd:Cd κ
 get:∀ {K F a v},cd.rep K F a v->∃ b,v=.ref b/\TupK fl F (k a) b
 put:∀ {K F a b},TupK fl F (k a) b->cd.rep K F a (.ref b)
theorem W6 {F:Hp}:∀ {l:List Int}{xs:List V},Paired (cI.rep K F) l xs->xs=(l.map fun i=>(Sum.inl i:Key)).map kV
 | _,_,.nil=>rfl
 | i::l,x::xs,.cons h t=>by
  have h:x=.int i:=h;rw[X8,X8,<- W6 t,h];rfl
theorem W7 {F:Hp}:∀ (l:List Int),Paired (cI.rep K F) l ((l.map fun i=>(Sum.inl i:Key)).map kV)
 | []=>.nil
 | _::l=>.cons rfl (W7 l)
theorem jaK:∀ {a b:List Int},(a.map fun i=>(Sum.inl i:Key))=(b.map fun i=>(Sum.inl i:Key))->a=b
 | [],[],_=>rfl
 | [],_::_,h=>by cases h
 | _::_,[],h=>by cases h
 | x::a,y::b,h=>by
  rw[X8,X8] at h;injection h with h1 h2
  rw[Sum.inl.inj h1,jaK h2]
instance:Kt (List Int):=⟨false,fun l=>l.map fun i=>.inl i,jaK,cT cI,fun⟨a,xs,h1,h2,h3⟩=>⟨a,h1,by show _=some (HO.tup _); rw[<- W6 h3]; exact h2⟩,fun {K F l b} h=>⟨b,_,rfl,h,W7 l⟩⟩
instance:Kt (Int×Int):=⟨false,fun p=>[.inl p.1,.inl p.2],fun {a b} h=>by
  injection h with h1 h2
  injection h2 with h2 _
  exact Prod.ext (Sum.inl.inj h1) (Sum.inl.inj h2),cP cI cI,fun {K F p v} ⟨a,u,w,h1,h2,h3,h4⟩=>⟨a,h1,by
  have h3:u=.int p.1:=h3;have h4:w=.int p.2:=h4;show F a=some (HO.tup _);rw[h2,h3,h4];rfl⟩,fun {K F p b} h=>⟨b,_,_,rfl,h,rfl,rfl⟩⟩
instance:Kt (List Int×Int):=⟨true,fun p=>.inl p.2::p.1.map fun i=>.inl i,fun {a b} h=>by
  injection h with h1 h2
  exact Prod.ext (jaK h2) (Sum.inl.inj h1),cP (cT cI) cI,fun {K F p v} ⟨a,u,w,h1,h2,⟨t,xs,h3,h4,h5⟩,h6⟩=>⟨a,h1,.inl p.2,_,t,rfl,by
  have h6:w=.int p.2:=h6;rw[h2,h3,h6];rfl,by rw[<- W6 h5]; exact h4⟩,fun {K F p b} ⟨k,r,t,e,h1,h2⟩=>by
  injection e with e1 e2
  subst e1 e2;exact⟨b,_,_,rfl,h1,⟨t,_,rfl,h2,W7 _⟩,rfl⟩⟩
section
variable [DecidableEq κ] [Kt κ] {F:Hp}{t:TE} 
def KtR (K:W.Frag) (F:Hp) (c:Cd α) (p:κ×α) (q:List Key×V):Prop:=q.1=Kt.k p.1/\c.rep K F p.2 q.2
theorem KtR.mono {F:Hp}{p:κ×α}{q:List Key×V} (s:Same F F') (h:KtR K F c p q):KtR K F' c p q:=⟨h.1,c.mono s h.2⟩
theorem jhw {F:Hp}{k:κ}:∀ {l:List (κ×α)}{kvs:List (List Key×V)},Paired (KtR K F c) l kvs->(jbA l k=none/\Vi kvs (Kt.k k)=none) \/ ∃ x v,jbA l k=some x/\Vi kvs (Kt.k k)=some v/\c.rep K F x v
 | _,_,.nil=>.inl ⟨rfl,rfl⟩
 | p::l,q::kvs,.cons ⟨r1,r2⟩ s=>by
  by_cases h:p.1=k
  ·right
   refine⟨p.2,q.2,?_,UE (by rw[r1,h]),r2⟩;unfold jbA;rw[wL,Xl h];rfl
  ·have e1:jbA (p::l) k=jbA l k:=by
    unfold jbA;rw[wL,Xp h]
   have e2:Vi (q::kvs) (Kt.k k)=Vi kvs (Kt.k k):=UF (by rw[r1]; exact fun e=>h (Kt.inj e));rw[e1,e2];exact jhw s
def pDT (c:Cd α):Pm (List (κ×α)):=⟨fun K F H l v=>∃ a kvs,v=.ref a/\H a=some (.dT (Kt.fl κ) kvs)/\Paired (KtR K F c) l kvs,
 fun e ⟨a,xs,h1,h2,h3⟩=>⟨a,xs,h1,e.h _ _ h2,Paired.mapP h3 fun _ _=>KtR.mono e.f⟩⟩
def rDT (c:Cd α):Rs (List (κ×α)):=⟨fun K H F2 H2 l v=>∃ a kvs,v=.ref a/\H a=none/\F2 a=none/\H2 a=some (.dT (Kt.fl κ) kvs)/\Paired (KtR K F2 c) l kvs,
 fun s ⟨a,xs,h1,h2,h⟩=>⟨a,xs,h1,s.free h2,h⟩⟩
structure OwnDT (K:W.Frag) (He F H:Hp) (c:Cd α) (l:List (κ×α)) (a:Addr):Prop where
 e:He a=none
 f:F a=none
 h:∃ kvs,H a=some (.dT (Kt.fl κ) kvs)/\Paired (KtR K F c) l kvs
theorem OwnDT.mono {l:List (κ×α)} (o:OwnDT K He F H c l a) (E:Ext F H F' H'):OwnDT K He F' H' c l a:=by
 obtain⟨xs,h1,h2⟩:=o.h;refine⟨o.e,?_,xs,E.h _ _ h1,Paired.mapP h2 fun _ _=>KtR.mono E.f⟩;cases e:F' a with
 | none=>rfl
 | some u=>
  rcases E.new a u e with z | z
  ·rw[o.f] at z; cases z
  ·rw[h1] at z; cases z
theorem OwnDT.b {l:List (κ×α)} (o:OwnDT K He F H c l a):(pDT c).rel K F H l (.ref a):=let ⟨xs,h1,h2⟩:=o.h; ⟨a,xs,rfl,h1,h2⟩
theorem jgz:Ev K σ F H (jhu (Kt.fl κ)) (rDT (κ:=κ) c) (some []):=by
 intro F1 H1 E z e Q k a ha;cases e;exact k _ F1 _ (Ext.newO E.sub ha) ⟨a,[],rfl,ha,E.sub.free ha,jV,.nil⟩
theorem jiJ {m:Option (List (κ×α))}{f:List (κ×α)->Option δ} (he:Ev K σ F H te (rDT c) m) (X:Ext Fe He F H) (hm:m.bind f=some r) (k:∀ l a F' H',f l=some r->Ext F H F' H'->Ext Fe He F' H'->H a=none->OwnDT K He F' H' c l a->u' D (σ.set i (some (.ref a))) H'):Q_ (UN te (qO i)) u' D σ H:=by
 obtain⟨a,ea,hm⟩:=bind_some hm;refine he F H (Ext.refl X.sub) a ea _ ?_;rintro v F2 H2 E ⟨b,xs,rfl,h1,h2,h3,h4⟩;exact k a b F2 H2 hm E (X.trans E) h1 ⟨X.h.free h1,h2,xs,h3,h4⟩
end
section
variable {F:Hp}{t:TE}{m:Option (Option α)}{o:Option α}
variable {f:Nat}
def BE (K:W.Frag) (σ:St) (F H:Hp) (cs:Ecs) (tb:(St->XK)->TS) (me:Option Er):Prop:=
 ∀ F1 H1,Ext F H F1 H1->∀ er,me=some er->∀ E:St->XK,(∀ cls d F2 H2,Ext F1 H1 F2 H2->jes cs er cls d F2->E σ cls d H2)->∀ D,tb E D σ H1
theorem jcu {u:TT}{b:Bool}{t1 t2:(St->XK)->TS}{m1 m2:Option Er} (hc:Et K σ F H u (some b)) (h1:BE K σ F H cs t1 m1) (h2:BE K σ F H cs t2 m2):BE K σ F H cs (fun E=>jff u (t1 E) (t2 E)) (bif b then m1 else m2):=by
 intro F1 H1 X er he E k D;refine hc F1 H1 X b rfl _ fun F2 H2 E2=>?_;cases b with
 | true=>exact jdp (h1 F2 H2 (X.trans E2) er he E (fun cls d F3 H3 E3 z=>k cls d F3 H3 (E2.trans E3) z) D)
 | false=>exact jdo (h2 F2 H2 (X.trans E2) er he E (fun cls d F3 H3 E3 z=>k cls d F3 H3 (E2.trans E3) z) D)
variable {tb:(St->XK)->TS}{me:Option Er}{mv:Option α}{g:Option α×Option Er->Option δ} 
end
end L3
namespace L2
open PySem PySem.Spec PyProof.Rows
def jlV (t1 t2:TS):TS:=fun D σ H=>t1 D σ H \/ t2 D σ H
theorem jiK {l:List Stmt}{t1 t2:TS} (h1:PSs X l t1) (h2:PSs X l t2):PSs X l (jlV t1 t2):=fun a b c d e f h=>h.elim (h1 a b c d e f) (h2 a b c d e f)
end L2
namespace L3
open PySem PySem.Spec L2
section
variable [DecidableEq κ] [Kt κ] {F:Hp} 
theorem jeH {ml:Option (List (κ×α))}{mm_:Option Bool} (hk:Ev K σ F H ty (rF Kt.cd) mk) (hd:Ev K σ F H td (pDT c).rs ml) (e_:mm_=(mk.bind fun k=>ml.bind fun l=>some (!isK k l))):Ev K σ F H (Vj ty td) (rF cB) mm_:=by
 subst e_;intro F1 H1 E z e Q k;obtain⟨y,ey,e⟩:=bind_some e;obtain⟨l,el,e⟩:=bind_some e;cases e;refine hk F1 H1 E y ey _ fun v F2 H2 E2 hv=>hd F2 H2 (E.trans E2) l el _ ?_;rintro w F3 H3 E3 ⟨a,kvs,rfl,h1,h2⟩;obtain⟨b,rfl,hb⟩:=Kt.get (Kt.cd.mono E3.f hv);refine⟨a,Vi kvs (Kt.k y),rfl,DGet.t h1 (hb.mono fun _ _ z=>E3.sub _ _ z),?_⟩;refine k _ F3 H3 (E2.trans E3) ?_;show V.bl (!(Vi kvs (Kt.k y)).isSome)=V.bl (!isK y l);unfold isK;rcases jhw (k:=y) h2 with⟨g1,g2⟩ | ⟨x,v,g1,g2,_⟩ <;> rw[g1,g2] <;> rfl
theorem jaL {y:κ}{l:List (κ×α)}{mm_:Option Bool} (hk:Ev K σ F H ty (rF Kt.cd) (some y)) (hd:Ev K σ F H td (pDT c).rs (some l)) (e_:mm_=some (!isK y l)):Ev K σ F H (Vj ty td) (rF cB) mm_:=jeH hk hd e_
end
section
variable {F:Hp}{t ti:TE} 
theorem nx' {N:St->Hp->Prop}{r:VK}{b e:St->Hp->Prop} (h:N σ H):(Ends.mk N r b e).nx σ H:=h
end
end L3
namespace L2
open PySem PySem.Spec PyProof.Rows
section
variable {suite:List Stmt}{b₀:Stmt}{cls cls':Str}{CS:Addr}{fo₂:Option Addr}{cp hp cp' hp':Pos}{tb:(St->XK)->TS}{ts:TS}{sk:List Stmt}{hs':List ExceptHandler}
theorem jgA (D:X.Def) (hN:X.N.Nodup) (hi:X.N[i]?=some x) (hk:X.env.scope.names.lookup x=some .local) (hg:Gl X cls) (hm:X.mg cls=some (.ref CT)) (hT:zK X.K CT fo'=true)
  (hb:∀ Er:St->XK,PSs (X.wish (Fly X Er)) body (tb Er)) (hs:∀ v,PSs (X.mark v) (b₀::suite) ts) (hdb:(cls==("__debug__":Str))=false:=by decide) :
  PS0 X (.Try body (.ExceptHandler (some (.Name cls cp)) (some x) (b₀::suite) hp::hs') [] [] pos) (jkK X.K CT i tb ts):=by
 intro s σ H Dd I h;refine wpAny_Try_except (wg (hb _ [] s σ H Dd (I.wish _) h) (fun f s1 q=>?_) fun e s1 fl=>?_)
 ·cases f with
  | next=>exact wpAny_execs_nil q.unwish
  | ret v=>exact q.unwish
  | brk=>exact q.unwish
  | cont=>exact q.unwish
 ·obtain⟨a,C,d,T,σ',H',rfl,x0,hT0,ha,hn,ht,I0,C',fo,eC,hx,hsub,k⟩:=fl;cases eC;refine UD D x0 hT0 ha hn ht I0 fun h' t x1 n1 n2 I1=>?_;refine yQ (s:={ s1 with heap:=h' }) (fr:=none) D x1 n1 n2 I1 fun h2 x2 I2=>?_
  have D':(X.mark (.ref a)).Def:=⟨D.st,D.fr,D.pn,D.ex⟩;have J2:=I2.mark (.ref a);refine wpAny_handleBy_cons (codeAny_handlers_test (zV (X:=X.mark (.ref a)) J2 hg hm ?_ hdb)) (by intro q; cases q);obtain⟨oe,vs,he,hc,_⟩:=id x2;refine JW J2.kIn hx hT hsub he hc ?_;refine codeAny_handlers_suite_as ?_;refine yQ (X:=X.mark (.ref a)) (s:={ s1 with heap:=h2 }) (fr:=none) D' x2 n1 n2 J2 fun h3 x3 J3=>?_
  have J3':=Inv.trackX J3 D.pn x3 ha hn;refine Qd (X:=X.mark (.ref a)) (v:=V.ref a) (u:=Value.ref a) J3' hN hi (.inl hk) rfl (fun s4 J4=>?_) (.inr hk);refine wg (hs (.ref a) [] s4 _ _ _ J4 (k a hn)) (fun f s5 q=>?_) fun _ _ z=>False.elim z;cases f with
  | next=>
   obtain⟨σ5,H5,J5,q5⟩:=q;exact Zw (Inv.unmark I0.ok J5) D.pn hN hi hk fun s6 J6=>⟨_,H5,J6,q5⟩
  | ret v=>obtain⟨_,_,_,_,_,z⟩:=q; exact False.elim z
  | brk=>obtain⟨_,_,_,z⟩:=q; exact False.elim z
  | cont=>obtain⟨_,_,_,z⟩:=q; exact False.elim z
theorem jgB {f:Str} (he:PE (X.mark v) e ta) (hb:attributeBase e f X.env (eval e X.env)=eval e X.env):PE (X.mark v) (.Attribute e f pos) (tXF X.K ta f):=jiu (X:=X.mark v) he hb
def jiL (K:W.Frag) (CS CT:Addr) (i:Nat) (tb:(St->XK)->TS) (ts:TS):TS:=fun D σ H=>
 tb (fun σ' cl d H'=>∃ C fo,cl=.ref C/\zK K C fo=true/\jfi K C CS=false/\jfi K C CT=true/\∀ a,H' a=none ->
  ts { nx:=fun σ2 H2=>D.nx (σ2.set i none) H2,rt:=fun _ _=>False } (σ'.set i (some (.ref a))) (upd H' a (XO a C d false))) D σ H
theorem jgC (D:X.Def) (hN:X.N.Nodup) (hi:X.N[i]?=some x) (hk:X.env.scope.names.lookup x=some .local) (hg':Gl X cls') (hm':X.mg cls'=some (.ref CS)) (hT':zK X.K CS fo₂=true) (hg:Gl X cls) (hm:X.mg cls=some (.ref CT)) (hT:zK X.K CT fo'=true)
  (hb:∀ Er:St->XK,PSs (X.wish (Fly X Er)) body (tb Er)) (hs:∀ v,PSs (X.mark v) (b₀::suite) ts) (hdb:(cls==("__debug__":Str))=false:=by decide) (hdb':(cls'==("__debug__":Str))=false:=by decide) :
  PS0 X (.Try body (.ExceptHandler (some (.Name cls' cp')) (some x) sk hp'::.ExceptHandler (some (.Name cls cp)) (some x) (b₀::suite) hp::hs') [] [] pos) (jiL X.K CS CT i tb ts):=by
 intro s σ H Dd I h;refine wpAny_Try_except (wg (hb _ [] s σ H Dd (I.wish _) h) (fun f s1 q=>?_) fun e s1 fl=>?_)
 ·cases f with
  | next=>exact wpAny_execs_nil q.unwish
  | ret v=>exact q.unwish
  | brk=>exact q.unwish
  | cont=>exact q.unwish
 ·obtain⟨a,C,d,T,σ',H',rfl,x0,hT0,ha,hn,ht,I0,C',fo,eC,hx,hno,hsub,k⟩:=fl;cases eC;refine UD D x0 hT0 ha hn ht I0 fun h' t x1 n1 n2 I1=>?_;refine yQ (s:={ s1 with heap:=h' }) (fr:=none) D x1 n1 n2 I1 fun h2 x2 I2=>?_
  have D':(X.mark (.ref a)).Def:=⟨D.st,D.fr,D.pn,D.ex⟩;have J2:=I2.mark (.ref a);obtain⟨oe,vs,he,hc,_⟩:=id x2;refine wpAny_handleBy_cons (codeAny_handlers_test (zV (X:=X.mark (.ref a)) J2 hg' hm' ?_ hdb')) (by intro q; cases q);refine JW J2.kIn hx hT' hno he hc ?_;refine wpAny_handleBy_cons (codeAny_handlers_test (zV (X:=X.mark (.ref a)) J2 hg hm ?_ hdb)) (by intro q; cases q);refine JW J2.kIn hx hT hsub he hc ?_;refine codeAny_handlers_suite_as ?_;refine yQ (X:=X.mark (.ref a)) (s:={ s1 with heap:=h2 }) (fr:=none) D' x2 n1 n2 J2 fun h3 x3 J3=>?_
  have J3':=Inv.trackX J3 D.pn x3 ha hn;refine Qd (X:=X.mark (.ref a)) (v:=V.ref a) (u:=Value.ref a) J3' hN hi (.inl hk) rfl (fun s4 J4=>?_) (.inr hk);refine wg (hs (.ref a) [] s4 _ _ _ J4 (k a hn)) (fun f s5 q=>?_) fun _ _ z=>False.elim z;cases f with
  | next=>
   obtain⟨σ5,H5,J5,q5⟩:=q;exact Zw (Inv.unmark I0.ok J5) D.pn hN hi hk fun s6 J6=>⟨_,H5,J6,q5⟩
  | ret v=>obtain⟨_,_,_,_,_,z⟩:=q; exact False.elim z
  | brk=>obtain⟨_,_,_,z⟩:=q; exact False.elim z
  | cont=>obtain⟨_,_,_,z⟩:=q; exact False.elim z
end
end L2
namespace L3
open PySem PySem.Spec L2
def jfj (K:W.Frag) (CT:Addr) (cs:Ecs) (ks:List Nat):Prop:=∀ (i:Nat) (C:Addr) (ns:List Str),cs[i]?=some (C,ns)->∃ fo,zK K C fo=true/\jfi K C CT=decide (i∈ks)
def jkL (K:W.Frag) (es:List (Addr×Option Addr)) (CT:Addr) (ks:List Nat):Bool:=es.zipIdx.all fun z=>jfi K z.1.1 CT==decide (z.2∈ks)
theorem jeI {C':Addr}{es:List (Addr×Option Addr)} (h:jaI K CT es=true) (h2:jkL K es C' ks=true):jfj K C' ((es.zip nss).map fun z=>(z.1.1,z.2)) ks:=fun i C ns e=>by
 obtain⟨fo,e1,_⟩:=jjV e;refine⟨fo,(Vk h (XG e1)).exc,?_⟩;unfold jkL at h2;rw[wz] at h2;have:=h2 ((C,fo),i) (by
  rw[List.mem_iff_getElem?];exact⟨i,by rw[List.getElem?_zipIdx,e1]; simp⟩)
 exact wj.mp this
def V0 (K:W.Frag) (C D:Addr) (b:Bool):Bool:=W.kitOne K (.ref C) (.ref D)==some b
section
variable {F:Hp}{CS:Addr}{tb:(St->XK)->TS}{me:Option Er}{rs:Rs γ}{d:Cd β}{t:TE}
theorem jbC {v w:V} (hij:i≠j) (hi:σ[i]?=some none):((σ.set i (some v)).set j (some w)).set i none=σ.set j (some w):=by
 have hil:i < σ.length:=(List.getElem?_eq_some_iff.mp hi).1;refine List.ext_getElem? fun n=>?_;by_cases q:i=n
 ·subst q; rw[List.getElem?_set_self (by simpa using hil),wI (Ne.symm hij),hi]
 ·rw[wI q];by_cases q2:j=n
  ·subst q2; simp[List.getElem?_set]
  ·rw[wI q2,wI q,wI q2]
theorem jiM {c:Cd β}{f:β->Option δ} (hE:BE K σ F H cs tb me) (T:jfj K CT cs ks) (hij:i≠j) (hi:σ[i]?=some none)
  (hS:∀ er v F' H',Ext F H F' H'->(cOE cs).rep K F' (some er) v->Ev K (σ.set i (some v)) F' H' ts (rF c) (ms er)) (X:Ext Fe He F H) (hm:(me.bind fun er=>bif Wn ks er then ms er else none).bind f=some r)
  (k:∀ y v F' H',f y=some r->Ext F H F' H'->Ext Fe He F' H'->c.rep K F' y v->D.nx (σ.set j (some v)) H'):jkK K CT i tb (UN ts (qO j)) D σ H:=by
 unfold jkK;obtain⟨y,ey,hm⟩:=bind_some hm;obtain⟨er,hme,ey⟩:=bind_some ey;cases hk:Wn ks er with
 | false=>rw[hk] at ey; cases ey
 | true=>
  rw[hk] at ey;refine hE F H (Ext.refl X.sub) er hme _ (fun cls d F2 H2 E2 z=>?_) _;obtain⟨C,ns,rfl,hc,hl,hd⟩:=z;obtain⟨fo,h1,h2⟩:=T _ _ _ hc;refine⟨C,fo,rfl,h1,h2.trans hk,fun a ha=>?_⟩;have E3:Ext F2 H2 (upd F2 a (XO a C d false)) (upd H2 a (XO a C d false)):=Ext.newF E2.sub ha;have rp:(cOE cs).rep K (upd F2 a (XO a C d false)) (some er) (.ref a):=⟨a,C,d,ns,rfl,jV,hc,hl,hd.imp id fun⟨dx,e,z⟩=>⟨dx,e,by rw[jM (kK z (E2.sub.free ha))]; exact z⟩⟩;refine hS er (.ref a) _ _ (E2.trans E3) rp _ _ (Ext.refl E3.sub) y ey _ fun v F4 H4 E4 r4=>?_;show D.nx (((σ.set i (some (V.ref a))).set j (some v)).set i none) H4;rw[jbC hij hi];exact k y v F4 H4 hm ((E2.trans E3).trans E4) (X.trans ((E2.trans E3).trans E4)) r4
theorem jj4 {c:Cd β}{f:β->Option δ} (hE:BE K σ F H cs tb me) (T:jfj K CT cs ks) (hij:i≠j) (hi:σ[i]?=some none)
  (hS:∀ er v F' H',Ext F H F' H'->(cOE cs).rep K F' (some er) v->Ev K (σ.set i (some v)) F' H' ts (rF c) (ms er)) (X:Ext Fe He F H) (hm:(me.bind fun er=>bif Wn ks er then ms er else none).bind f=some r)
  (k:∀ y v F' H',f y=some r->Ext F H F' H'->Ext Fe He F' H'->c.rep K F' y v->u' D (σ.set j (some v)) H'):Q_ (jkK K CT i tb (UN ts (qO j))) u' D σ H:=
 jiM (D:={ D with nx:=u' D }) hE T hij hi hS X hm k
theorem jj5 {c:Cd β}{f:β->Option δ}{ks':List Nat} (hE:BE K σ F H cs tb me) (T':jfj K CS cs ks') (T:jfj K CT cs ks) (hij:i≠j) (hi:σ[i]?=some none)
  (hS:∀ er v F' H',Ext F H F' H'->(cOE cs).rep K F' (some er) v->Ev K (σ.set i (some v)) F' H' ts (rF c) (ms er)) (X:Ext Fe He F H) (hm:(me.bind fun er=>bif !Wn ks' er&&Wn ks er then ms er else none).bind f=some r)
  (k:∀ y v F' H',f y=some r->Ext F H F' H'->Ext Fe He F' H'->c.rep K F' y v->u' D (σ.set j (some v)) H'):Q_ (jiL K CS CT i tb (UN ts (qO j))) u' D σ H:=by
 unfold Q_ jiL;obtain⟨y,ey,hm⟩:=bind_some hm;obtain⟨er,hme,ey⟩:=bind_some ey;cases hk:!Wn ks' er&&Wn ks er with
 | false=>rw[hk] at ey; cases ey
 | true=>
  rw[hk] at ey;rw[XB,Bool.not_eq_true'] at hk;refine hE F H (Ext.refl X.sub) er hme _ (fun cls d F2 H2 E2 z=>?_) _;obtain⟨C,ns,rfl,hc,hl,hd⟩:=z;obtain⟨fo,h1,h2⟩:=T _ _ _ hc;obtain⟨_,_,h3⟩:=T' _ _ _ hc;refine⟨C,fo,rfl,h1,h3.trans hk.1,h2.trans hk.2,fun a ha=>?_⟩;have E3:Ext F2 H2 (upd F2 a (XO a C d false)) (upd H2 a (XO a C d false)):=Ext.newF E2.sub ha;have rp:(cOE cs).rep K (upd F2 a (XO a C d false)) (some er) (.ref a):=⟨a,C,d,ns,rfl,jV,hc,hl,hd.imp id fun⟨dx,e,z⟩=>⟨dx,e,by rw[jM (kK z (E2.sub.free ha))]; exact z⟩⟩;refine hS er (.ref a) _ _ (E2.trans E3) rp _ _ (Ext.refl E3.sub) y ey _ fun v F4 H4 E4 r4=>?_;show u' D (((σ.set i (some (V.ref a))).set j (some v)).set i none) H4;rw[jbC hij hi];exact k y v F4 H4 hm ((E2.trans E3).trans E4) (X.trans ((E2.trans E3).trans E4)) r4
theorem G3 {tc:(St->XK)->TE} (h:∀ E:St->XK,EvE K σ F H (tc E) cs (E σ) me):BE K σ F H cs (fun E=>VR (tc E)) me:=
 fun F1 H1 X er he E k D=>h E F1 H1 X er he k _
theorem QX {x:α ⊕ β}{v:V}{f:α->Option Er}{g:β->Option Er}{E:XK} (P:(zc c d).rep K F x v) (h1:∀ a,c.rep K F a v->EvE K σ F H t1 cs E (f a)) (h2:∀ b,d.rep K F b v->EvE K σ F H t2 cs E (g b)):EvE K σ F H (jk8 t1 t2) cs E (Sum.elim f g x):=by
 cases x with
 | inl a=>exact fun F1 H1 X er he k Q=>Or.inl (h1 a P F1 H1 X er he k Q)
 | inr b=>exact fun F1 H1 X er he k Q=>Or.inr (h2 b P F1 H1 X er he k Q)
theorem xS {x:α ⊕ β}{v:V}{f:α->Option γ}{g:β->Option γ}{mm_:Option γ} (P:(zc c d).rep K F x v) (h1:∀ a,c.rep K F a v->Ev K σ F H t rs (f a)) (h2:∀ b,d.rep K F b v->Ev K σ F H t rs (g b)) (e_:mm_=Sum.elim f g x):Ev K σ F H t rs mm_:=by
 subst e_;cases x with
 | inl a=>exact h1 a P
 | inr b=>exact h2 b P
theorem jlW {x:α ⊕ β}{v:V}{f:α->Option γ}{z:γ} (P:(zc c d).rep K F x v) (h:Sum.elim f (fun _=>none) x=some z):∃ a,c.rep K F a v/\f a=some z:=by
 cases x with
 | inl a=>exact ⟨a,P,h⟩
 | inr b=>cases h
theorem jlX {x:α ⊕ β}{v:V}{f:β->Option γ}{z:γ} (P:(zc c d).rep K F x v) (h:Sum.elim (fun _=>none) f x=some z):∃ a,d.rep K F a v/\f a=some z:=by
 cases x with
 | inl a=>cases h
 | inr b=>exact ⟨b,P,h⟩
end
def l5 (x:Str×Int×Bool×Bool×Bool):List V:=[.str x.1,.int x.2.1,.bl x.2.2.1,.bl x.2.2.2.1,.bl x.2.2.2.2]
def cF5:Cd (Str×Int×Bool×Bool×Bool):=⟨fun _ H x v=>∃ a,v=.ref a/\H a=some (.tup (l5 x)),fun e ⟨a,h1,h2⟩=>⟨a,h1,e _ _ h2⟩⟩
theorem nf5:Y8 cF5:=fun⟨_,h,_⟩=>by rw[h]; rfl
theorem jeJ {x:Str×Int×Bool×Bool×Bool}{v:V} (h:(l5 x)[j]?=some v):WK v=true:=by
 have:=XG h;unfold l5 at this;simp only[Xk,List.not_mem_nil,or_false] at this;rcases this with rfl | rfl | rfl | rfl | rfl <;> rfl
theorem eq5:EqC 1 cF5:=fun {K H a b x y} ⟨p,e1,e2⟩ ⟨q,f1,f2⟩=>by
 subst e1 f1;have r:=EqR.tup (n:=0) (K:=K) (H:=H) (e:=fun j=>eqV ((l5 a).getD j .non) ((l5 b).getD j .non)) (SqT.of e2) (SqT.of f2) (fun j x y hx hy=>by
  have h1:(l5 a).getD j .non=x:=by rw[X9,hx]; rfl
  have h2:(l5 b).getD j .non=y:=by rw[X9,hy]; rfl
  rw[h1,h2];exact .flat (jeJ hx) (jeJ hy))
 have e:bq a b=((List.range (min (l5 a).length (l5 b).length)).all (fun j=>eqV ((l5 a).getD j .non) ((l5 b).getD j .non))&&(l5 a).length==(l5 b).length):=by
  rw[Y4];obtain⟨a1,a2,a3,a4,a5⟩:=a;obtain⟨b1,b2,b3,b4,b5⟩:=b;rw[XR,Xs];simp[l5,w4,eqV]
 rw[e];exact r
section
variable {F:Hp}{t4 t5:TE}
theorem jiN {m1:Option Str}{m2:Option Int}{m3 m4 m5:Option Bool}{mm_:Option (Str×Int×Bool×Bool×Bool)} (h1:Ev K σ F H t1 (rF cS) m1) (h2:Ev K σ F H t2 (rF cI) m2) (h3:Ev K σ F H t3 (rF cB) m3) (h4:Ev K σ F H t4 (rF cB) m4) (h5:Ev K σ F H t5 (rF cB) m5)
  (e_:mm_=m1.bind fun a=>m2.bind fun b=>m3.bind fun c=>m4.bind fun d=>m5.bind fun e=>some (a,b,c,d,e)):Ev K σ F H (jg8 (jJ t1 (jJ t2 (jJ t3 (jJ t4 (jJ t5 xb)))))) (rF cF5) mm_:=by
 subst e_;intro F0 H0 E l ee Q k;obtain⟨a,ea,ee⟩:=bind_some ee;obtain⟨b,eb,ee⟩:=bind_some ee;obtain⟨c,ec,ee⟩:=bind_some ee;obtain⟨d,ed,ee⟩:=bind_some ee;obtain⟨e,ef,ee⟩:=bind_some ee;cases ee;refine h1 F0 H0 E a ea _ ?_;rintro _ F1 H1 E1 rfl;refine h2 F1 H1 (E.trans E1) b eb _ ?_;rintro _ F2 H2 E2 rfl;refine h3 F2 H2 (E.trans (E1.trans E2)) c ec _ ?_;rintro _ F3 H3 E3 rfl;refine h4 F3 H3 (E.trans (E1.trans (E2.trans E3))) d ed _ ?_;rintro _ F4 H4 E4 rfl;refine h5 F4 H4 (E.trans (E1.trans (E2.trans (E3.trans E4)))) e ef _ ?_;rintro _ F5 H5 E5 rfl;refine⟨by show 5<=sizeLine; rw[wa]; decide,fun x hx=>?_⟩;exact k _ (upd F5 x (.tup (l5 (a,b,c,d,e)))) _ (E1.trans (E2.trans (E3.trans (E4.trans (E5.trans (Ext.newF E5.sub hx)))))) ⟨x,rfl,jV⟩
theorem jeK {a:Str}{b:Int}{c d e:Bool}{mm_:Option (Str×Int×Bool×Bool×Bool)} (h1:Ev K σ F H t1 (rF cS) (some a)) (h2:Ev K σ F H t2 (rF cI) (some b)) (h3:Ev K σ F H t3 (rF cB) (some c)) (h4:Ev K σ F H t4 (rF cB) (some d)) (h5:Ev K σ F H t5 (rF cB) (some e)) (e_:mm_=some (a,b,c,d,e)) :
  Ev K σ F H (jg8 (jJ t1 (jJ t2 (jJ t3 (jJ t4 (jJ t5 xb)))))) (rF cF5) mm_:=jiN h1 h2 h3 h4 h5 e_
end
structure BiX (P:Program) (w:World) (K:W.Frag) (mg:Str->Option Value) (base:Heap):Prop extends Bi mg
theorem scK {P:List Str} (h1:sc.kind=.function:=by rfl) (h2:sc.isCoroutine=false:=by rfl) (h3:sc.isGenerator=false:=by rfl) (h4:N.Nodup:=by decide +kernel) (h5:N.take P.length=P:=by rfl)
  (h6:∀ x∈P,sc.names.lookup x=some .local \/ sc.names.lookup x=some .cell:=by decide +kernel) (h7:∀ y∈sc.names,y.2≠.free:=by decide +kernel):FnScope N P sc:=⟨h1,h2,h3,h4,h5,h6,h7⟩
section
theorem pS (hN:X.N.Nodup) (he:PE X e te) (hi:X.N[i]?=some x:=by rfl) (hx:Loc X.env.scope x:=by first | exact Or.inl rfl | exact Or.inr rfl) (hs:swapsWith e (some (.Name x pos')) pos.line X.env=pure false:=by rfl)
  (hf:X.fn x=true \/ X.env.scope.names.lookup x=some .local:=by first | exact .inl rfl | exact .inr rfl):PS X (.Assign [.Name x pos'] e pos) (UN te (qO i)):=jjj hN hi hx he hs hf
theorem pG (hN:X.N.Nodup) (hi:X.N[i]?=some x:=by rfl) (hx:Loc X.env.scope x:=by first | exact Or.inl rfl | exact Or.inr rfl) (hf:X.fn x=true \/ X.env.scope.names.lookup x=some .local:=by first | exact .inl rfl | exact .inr rfl):PG X (.Name x pos) (qO i):=xN hN hi hx hf
theorem kB {r:List V->Hp->VK->Prop}{id:String}{t:TE} (hc:GN X (.builtin id) r) (hm:X.mg x=none) (ha:PE X e t) (hg:Gl X x:=by rfl) (hv:bootBuiltins x=some (.builtin id):=by kernel_rfl) (hn:x≠"__name__":=by decide) (hdb:(x==("__debug__":Str))=false:=by decide)
  (he:starEach [e] X.env=(false,eval e X.env)::starEach [] X.env:=by rfl) (hpl:(backTo pos (starEach [] X.env)).any (·.1)=false:=by rfl):PE X (.Call (.Name x p) [e] [] pos) (tCB r (jJ t xb)):=xK hc hg hm hv (jc ha jl he) hn hdb he hpl
theorem cY {r:List V->Hp->VK->Prop}{T:String}{t:TE} (hc:GN X (.type T) r) (hm:X.mg x=none) (ha:PE X e t) (hg:Gl X x:=by rfl) (hv:bootBuiltins x=some (.type T):=by kernel_rfl) (hn:x≠"__name__":=by decide) (hdb:(x==("__debug__":Str))=false:=by decide)
  (he:starEach [e] X.env=(false,eval e X.env)::starEach [] X.env:=by rfl) (hpl:(backTo pos (starEach [] X.env)).any (·.1)=false:=by rfl):PE X (.Call (.Name x p) [e] [] pos) (tCB r (jJ t xb)):=jde hc hg hm hv (jc ha jl he) hn hdb he hpl
theorem pD_ {k:Nat}{t:TA} (D:Def X.prog X.w X.K X.mg X.base x k ps sp) (hr:Room j X.A) (ha:PA X (e::es) t) (hj:k<=j:=by decide) (hg:Gl X x:=by rfl) (hdb:(x==("__debug__":Str))=false:=by decide)
  (he:starEach (e::es) X.env=(false,eval e X.env)::starEach es X.env:=by rfl) (hpl:(backTo pos (starEach es X.env)).any (·.1)=false:=by rfl):PE X (.Call (.Name x p) (e::es) [] pos) (JR sp [] E0 t):=jjt D (hr.mono hj) hg ha hdb he hpl
theorem pX {a b:Expr}{r:R2} (hr:IxR X r) (ha:PE X a ta) (hb:PE X b tb) (hs:jdj b:=by intro _ _; rfl):PE X (.Subscript a b pos) (tOp r ta tb):=jkV hr ha hb hs
end
section
variable {F:Hp} 
theorem eV {a:α}{v:V} (h:c.rep K F a v) (hi:σ[i]?=some (some v):=by rfl):Ev K σ F H (Wb i) (rF c) (some a):=ko (p:=pF c) hi h
theorem eI {a:Int} (hi:σ[i]?=some (some (.int a)):=by rfl):Ev K σ F H (Wb i) (rF cI) (some a):=jbh hi
end
theorem jj6 (h:us.length=[x].length):∃ a,us=[a]:=match us,h with | [a],_=>⟨a,rfl⟩
theorem jj7 {y:Str} (h:us.length=[x,y].length):∃ a b,us=[a,b]:=match us,h with | [a,b],_=>⟨a,b,rfl⟩
theorem jj8 {y z:Str} (h:us.length=[x,y,z].length):∃ a b c,us=[a,b,c]:=match us,h with | [a,b,c],_=>⟨a,b,c,rfl⟩
theorem jj9 {y z u:Str} (h:us.length=[x,y,z,u].length):∃ a b c d,us=[a,b,c,d]:=match us,h with | [a,b,c,d],_=>⟨a,b,c,d,rfl⟩
theorem jj_ {y z u v:Str} (h:us.length=[x,y,z,u,v].length):∃ a b c d e,us=[a,b,c,d,e]:=match us,h with | [a,b,c,d,e],_=>⟨a,b,c,d,e,rfl⟩
structure FunX (K:W.Frag) (x qual:Str) (st:Stmt) (f:Addr):Prop where
 ex:∃ fd,Fun K x qual st f fd
section
variable {P:Program}{f:Addr}{k:Nat} 
theorem funX_mk {od:Option Addr}{kV ct:Value} (l:K.lookup f=some ⟨oc,od,.func (W.fnOf x qual (yx st) (qW st) (jo st) .none kV doc pm an cdv ct),osl⟩)
  (c:W.codeIn K cdv qual=true) (k:W.keepIn K (.ref f)=true):FunX K x qual st f:=⟨_,jg_ l c k⟩
theorem qc (X:K.In h) (G:h.Ns mainGlobals mg) (a:W.nsIn K mainGlobals x=some (some (.ref f))) (Fn:Fun K x qual st f fd) (F:FnOk P w K mg base CX0 k f fd ps sp) (hb:∀ (kV doc pm:Value) (an:Option Addr) (cdv ct:Value) (us:List Value),us.length=ps.length->bindArgs (W.fnOf x qual (yx st) (qW st) (jo st) .none kV doc pm an cdv ct) ⟨us,[]⟩=pure (ps.zip us):=by
      intro _ _ _ _ _ _ us hl
      first | (obtain⟨a,rfl⟩:=jj6 hl; rfl) | (obtain⟨a,b,rfl⟩:=jj7 hl; rfl) | (obtain⟨a,b,c,rfl⟩:=jj8 hl; rfl) | (obtain⟨a,b,c,d,rfl⟩:=jj9 hl; rfl) | (obtain⟨a,b,c,d,e,rfl⟩:=jj_ hl; rfl)):Def P w K mg base x k ps sp:=⟨_,_,F,Xx X G a,Fn.kp,Fn.binds hb⟩
theorem Ub (a:W.findIn K (.ref C) x=some (some (.ref f))) (i:W.isFn K (.ref f)=true) (c:Cls K C) (Fn:Fun K x qual st f fd) (F:FnOk P w K mg base CX0 k f fd ps sp) (hb:∀ (kV doc pm:Value) (an:Option Addr) (cdv ct:Value) (us:List Value),us.length=ps.length->bindArgs (W.fnOf x qual (yx st) (qW st) (jo st) .none kV doc pm an cdv ct) ⟨us,[]⟩=pure (ps.zip us):=by
      intro _ _ _ _ _ _ us hl
      first | (obtain⟨a,rfl⟩:=jj6 hl; rfl) | (obtain⟨a,b,rfl⟩:=jj7 hl; rfl) | (obtain⟨a,b,c,rfl⟩:=jj8 hl; rfl) | (obtain⟨a,b,c,d,rfl⟩:=jj9 hl; rfl) | (obtain⟨a,b,c,d,e,rfl⟩:=jj_ hl; rfl)):Mth P w K mg base C x k ps sp:=⟨⟨_,_,F,⟨a,i,Fn.kp⟩,Fn.binds hb⟩,c⟩
theorem zB (X:K.In h) (G:h.Ns mainGlobals mg) (a:W.nsIn K mainGlobals x=some (some (.ref f))) (Fn:Fun K x qual st f fd) (N:FnOk P w K mg base CX0 j f fd ps sp) (E:FnOk P w K mg base (CX1 P w) k f fd ps sp') (hj:j<=k:=by decide) (hb:∀ (kV doc pm:Value) (an:Option Addr) (cdv ct:Value) (us:List Value),us.length=ps.length->bindArgs (W.fnOf x qual (yx st) (qW st) (jo st) .none kV doc pm an cdv ct) ⟨us,[]⟩=pure (ps.zip us):=by
      intro _ _ _ _ _ _ us hl
      first | (obtain⟨a,rfl⟩:=jj6 hl; rfl) | (obtain⟨a,b,rfl⟩:=jj7 hl; rfl) | (obtain⟨a,b,c,rfl⟩:=jj8 hl; rfl) | (obtain⟨a,b,c,d,rfl⟩:=jj9 hl; rfl) | (obtain⟨a,b,c,d,e,rfl⟩:=jj_ hl; rfl)):DefE P w K mg base x k ps (Vg sp sp'):=
  ⟨⟨_,_,FnOk.or (N.up.mono hj) E,Xx X G a,Fn.kp,Fn.binds hb⟩⟩
theorem G4 (a:W.findIn K (.ref C) x=some (some (.ref f))) (i:W.isFn K (.ref f)=true) (c:Cls K C) (Fn:Fun K x qual st f fd) (N:FnOk P w K mg base CX0 j f fd ps sp) (E:FnOk P w K mg base (CX1 P w) k f fd ps sp') (hj:j<=k:=by decide) (hb:∀ (kV doc pm:Value) (an:Option Addr) (cdv ct:Value) (us:List Value),us.length=ps.length->bindArgs (W.fnOf x qual (yx st) (qW st) (jo st) .none kV doc pm an cdv ct) ⟨us,[]⟩=pure (ps.zip us):=by
      intro _ _ _ _ _ _ us hl
      first | (obtain⟨a,rfl⟩:=jj6 hl; rfl) | (obtain⟨a,b,rfl⟩:=jj7 hl; rfl) | (obtain⟨a,b,c,rfl⟩:=jj8 hl; rfl) | (obtain⟨a,b,c,d,rfl⟩:=jj9 hl; rfl) | (obtain⟨a,b,c,d,e,rfl⟩:=jj_ hl; rfl)):MthE P w K mg base C x k ps (Vg sp sp'):=
  ⟨⟨_,_,FnOk.or (N.up.mono hj) E,⟨a,i,Fn.kp⟩,Fn.binds hb⟩,c⟩
def jhx (K:W.Frag) (C:Addr):Bool:=W.plainGet K C Str.empty&&W.hasDictIn K C&&W.plainOver K C&&(W.findIn K (.ref C) "__setattr__"==some (some (.builtin "object.__setattr__")))&&W.makesIn K C&&W.keepIn K (.ref C)
structure ClsF (K:W.Frag) (C:Addr):Prop where
 cl:Cls K C
 ma:W.makesIn K C=true
 kc:W.keepIn K (.ref C)=true
theorem jiO (h:jhx K C=true):ClsF K C:=by
 unfold jhx at h;simp only[XB,wj] at h;exact⟨⟨h.1.1.1.1.1,h.1.1.1.1.2,h.1.1.1.2,h.1.1.2⟩,h.1.2,h.2⟩
theorem ZA (X:K.In h) (G:h.Ns mainGlobals mg) (c:jhx K C=true) (a:W.findIn K (.ref C) "__init__"=some (some (.ref f))) (i:W.isFn K (.ref f)=true) (g:W.nsIn K mainGlobals x=some (some (.ref C))) (Fn:Fun K "__init__" qual st f fd)
  (F:FnOk P w K mg base CX0 k f fd ps sp) (hb:∀ (kV doc pm:Value) (an:Option Addr) (cdv ct:Value) (us:List Value),us.length=ps.length->bindArgs (W.fnOf "__init__" qual (yx st) (qW st) (jo st) .none kV doc pm an cdv ct) ⟨us,[]⟩=pure (ps.zip us):=by
   intro _ _ _ _ _ _ us hl
   first | (obtain⟨a,rfl⟩:=jj6 hl; rfl) | (obtain⟨a,b,rfl⟩:=jj7 hl; rfl) | (obtain⟨a,b,c,rfl⟩:=jj8 hl; rfl) | (obtain⟨a,b,c,d,rfl⟩:=jj9 hl; rfl) | (obtain⟨a,b,c,d,e,rfl⟩:=jj_ hl; rfl)):Kls P w K mg base x C k ps sp:=⟨_,_,⟨(jiO c).ma,a,i,(jiO c).kc⟩,F,Xx X G g,Fn.binds hb⟩
def uB (K:W.Frag) (C:Addr):Bool:=(W.findIn K (.ref C) "__class__"==some (some (.builtin "object.__class__")))&&(W.specialIn K (.builtin "object.__class__") "__get__"==some (some (.builtin "getset_descriptor.__get__")))&&(W.takesIn K (.builtin "object.__class__")==some true)&&(W.mroIn K C (.type "object")==some true)
theorem xU {D:Addr}{b:Bool} (m:mg x=some (.ref D)) (u:uB K C=true) (i:V0 K C D b=true):IsiC K mg x C D b:=by
 unfold uB at u;simp only[XB,wj] at u;exact⟨m,u.1.1.1,u.1.1.2,u.1.2,u.2,eq_of_beq i⟩
variable {α4:Type}{p3:Pm α3}{rs:Rs γ} 
theorem ok1 {m:α1->Option γ} (Fn:Fun K x qual st f fd) (S:FnScope N ps (jo st)) (hb:∀ (cdv:Value) (A:Around) (outer:List Env) (s:Shared) (H:Hp) (Q:VK) (E:XK),Room k (A.deeper (PyProof.Rows.envOfC qual (jo st) s.heap.objs.size f cdv))->N.Nodup->(A.deeper (PyProof.Rows.envOfC qual (jo st) s.heap.objs.size f cdv)).units+200<cLine ->
  ∀ (x1:α1) (v1:V) (Fe:Hp) (R:γ),Ext Fe H Fe H->p1.rel K Fe H x1 v1->m x1=some R->(∀ u F' H',Ext Fe H F' H'->rs.rel K H F' H' R u->Q u H')->∃ t,PSs (Z2 CX0 P w K mg base N qual (jo st) f cdv A outer s H E).nox (qW st) t/\t { nx:=fun _ H'=>Q .non H',rt:=Q } (zF N [v1]) H) (hl:ps.length=1:=by rfl):FnOk P w K mg base CX0 (k+1) f fd ps (sp1 K p1 rs m):=by
 refine Fn.ok S (fun vs H Q E h=>?_) (fun cdv A outer s H vs Q E hr h=>?_)
 ·obtain⟨_,_,_,_,rfl,_⟩:=h;exact hl.symm
 ·obtain⟨x1,v1,Fe,R,rfl,S_,P1,Hm,Kk⟩:=h;exact hb cdv A outer s H Q E hr S.nd (UW hr) x1 v1 Fe R (Ext.refl S_) P1 Hm Kk
theorem ok2 {m:α1->α2->Option γ} (Fn:Fun K x qual st f fd) (S:FnScope N ps (jo st)) (hb:∀ (cdv:Value) (A:Around) (outer:List Env) (s:Shared) (H:Hp) (Q:VK) (E:XK),Room k (A.deeper (PyProof.Rows.envOfC qual (jo st) s.heap.objs.size f cdv))->N.Nodup->(A.deeper (PyProof.Rows.envOfC qual (jo st) s.heap.objs.size f cdv)).units+200<cLine ->
  ∀ (x1:α1) (x2:α2) (v1 v2:V) (Fe:Hp) (R:γ),Ext Fe H Fe H->p1.rel K Fe H x1 v1->p2.rel K Fe H x2 v2->m x1 x2=some R->(∀ u F' H',Ext Fe H F' H'->rs.rel K H F' H' R u->Q u H')->∃ t,PSs (Z2 CX0 P w K mg base N qual (jo st) f cdv A outer s H E).nox (qW st) t/\t { nx:=fun _ H'=>Q .non H',rt:=Q } (zF N [v1,v2]) H) (hl:ps.length=2:=by rfl):FnOk P w K mg base CX0 (k+1) f fd ps (sp2 K p1 p2 rs m):=by
 refine Fn.ok S (fun vs H Q E h=>?_) (fun cdv A outer s H vs Q E hr h=>?_)
 ·obtain⟨_,_,_,_,_,_,rfl,_⟩:=h;exact hl.symm
 ·obtain⟨x1,x2,v1,v2,Fe,R,rfl,S_,P1,P2,Hm,Kk⟩:=h;exact hb cdv A outer s H Q E hr S.nd (UW hr) x1 x2 v1 v2 Fe R (Ext.refl S_) P1 P2 Hm Kk
theorem ok3 {m:α1->α2->α3->Option γ} (Fn:Fun K x qual st f fd) (S:FnScope N ps (jo st)) (hb:∀ (cdv:Value) (A:Around) (outer:List Env) (s:Shared) (H:Hp) (Q:VK) (E:XK),Room k (A.deeper (PyProof.Rows.envOfC qual (jo st) s.heap.objs.size f cdv))->N.Nodup->(A.deeper (PyProof.Rows.envOfC qual (jo st) s.heap.objs.size f cdv)).units+200<cLine ->
  ∀ (x1:α1) (x2:α2) (x3:α3) (v1 v2 v3:V) (Fe:Hp) (R:γ),Ext Fe H Fe H->p1.rel K Fe H x1 v1->p2.rel K Fe H x2 v2->p3.rel K Fe H x3 v3->m x1 x2 x3=some R->(∀ u F' H',Ext Fe H F' H'->rs.rel K H F' H' R u->Q u H')->∃ t,PSs (Z2 CX0 P w K mg base N qual (jo st) f cdv A outer s H E).nox (qW st) t/\t { nx:=fun _ H'=>Q .non H',rt:=Q } (zF N [v1,v2,v3]) H) (hl:ps.length=3:=by rfl):FnOk P w K mg base CX0 (k+1) f fd ps (sp3 K p1 p2 p3 rs m):=by
 refine Fn.ok S (fun vs H Q E h=>?_) (fun cdv A outer s H vs Q E hr h=>?_)
 ·obtain⟨_,_,_,_,_,_,_,_,rfl,_⟩:=h;exact hl.symm
 ·obtain⟨x1,x2,x3,v1,v2,v3,Fe,R,rfl,S_,P1,P2,P3,Hm,Kk⟩:=h;exact hb cdv A outer s H Q E hr S.nd (UW hr) x1 x2 x3 v1 v2 v3 Fe R (Ext.refl S_) P1 P2 P3 Hm Kk
theorem YM {m:α1->α2->Option Er} (Fn:Fun K x qual st f fd) (S:FnScope N ps (jo st)) (hb:∀ (cdv:Value) (A:Around) (outer:List Env) (s:Shared) (H:Hp) (Q:VK) (E:XK),Room k (A.deeper (PyProof.Rows.envOfC qual (jo st) s.heap.objs.size f cdv))->N.Nodup->(A.deeper (PyProof.Rows.envOfC qual (jo st) s.heap.objs.size f cdv)).units+200<cLine ->
  ∀ (x1:α1) (x2:α2) (v1 v2:V) (Fe:Hp) (R:Er),Ext Fe H Fe H->p1.rel K Fe H x1 v1->p2.rel K Fe H x2 v2->m x1 x2=some R->(∀ cls d F' H',Ext Fe H F' H'->jes cs R cls d F'->E cls d H')->∃ t,PSs ((Z2 (CX1 P w) P w K mg base N qual (jo st) f cdv A outer s H E).fly E) (qW st) t/\t { nx:=fun _ H'=>Q .non H',rt:=Q } (zF N [v1,v2]) H) (hl:ps.length=2:=by rfl):FnOk P w K mg base (CX1 P w) (k+1) f fd ps (zY K p1 p2 cs m):=by
 refine Fn.okE S (fun vs H Q E h=>?_) (fun cdv A outer s H vs Q E hr h=>?_)
 ·obtain⟨_,_,_,_,_,_,rfl,_⟩:=h;exact hl.symm
 ·obtain⟨x1,x2,v1,v2,Fe,R,rfl,S_,P1,P2,Hm,Kk⟩:=h;exact hb cdv A outer s H Q E hr S.nd (UW hr) x1 x2 v1 v2 Fe R (Ext.refl S_) P1 P2 Hm Kk
end
end L3
namespace MM
open PySem L2 L3
section
theorem jka {f:α->Option β}{a:α} (x:Option α) (e:x=some a):x.bind f=f a:=by rw[e]; rfl
theorem bs {f:α->Option β}{a:α}:(some a).bind f=f a:=jka _ rfl
theorem jkb {a b:α} (x:Bool) (e:x=true):(bif x then a else b)=a:=by rw[e]; rfl
theorem ct {a b:α}:(bif true then a else b)=a:=jkb _ rfl
theorem jkc {a b:α} (x:Bool) (e:x=false):(bif x then a else b)=b:=by rw[e]; rfl
theorem cf {a b:α}:(bif false then a else b)=b:=jkc _ rfl
theorem isIn_iff [DecidableEq α] {a:α} :jdF a l=true ↔ a∈l:=by unfold jdF; exact decide_eq_true_iff
theorem isEq_iff [DecidableEq α] {a b:α}:jb2 a b=true ↔ a=b:=by unfold jb2; exact decide_eq_true_iff
theorem isEq_self [DecidableEq α] (a:α):jb2 a a=true:=isEq_iff.mpr rfl
theorem rng (h:n<=1000000000):yE 0 (n:Int)=some ((List.range n).map fun k=>((k:Nat):Int)):=by
 unfold yE;rw[if_pos ⟨by omega,by omega,by omega,by omega⟩];unfold JH;rw[Int.sub_zero,Int.toNat_natCast];congr 2
 funext k
 omega
theorem rng2 {a b:Nat} (h:b<=1000000000) (ha:a<=1000000000):yE (a:Int) (b:Int)=some ((List.range (b-a)).map fun k=>((a+k:Nat):Int)):=by
 unfold yE;rw[if_pos ⟨by omega,by omega,by omega,by omega⟩];unfold JH;have:((b:Int)-(a:Int)).toNat=b-a:=by omega
 rw[this];congr 2
theorem at_nat {x:α} (h:l[i]?=some x):pAt l (i:Int)=some x:=by unfold pAt; exact jhP h
theorem at_get (h:i<l.length):pAt l (i:Int)=some l[i]:=at_nat (List.getElem?_eq_getElem h)
theorem app {x:α} (h:l.length<16777216):Wg l x=some (l++[x]):=by unfold Wg; exact if_pos h
theorem cat {m:List α} (h:l.length+m.length<=16777216):Um l m=some (l++m):=by unfold Um; exact if_pos h
theorem modP {i j:Int} (h:0<j):Z3 i j=some (i % j):=jbq h
theorem divP {i j:Int} (h:0<j) (h2:j<2 ^ 250):jhT i j=some (i / j):=jbp ⟨h,Int.lt_trans h2 (by have:(2:Nat) ^ 250<2 ^ 1000:=Nat.pow_lt_pow_right (by decide) (by decide); exact_mod_cast this)⟩
theorem mulP {i j:Int} (h:-1000000<i/\i<1000000):Y7 i j=some (i * j):=jhm ⟨by omega,by omega⟩
theorem comp {p:α->Option Bool}{f:α->Option β} (q:α->Bool) (g:α->β) (hl:l.length<=16777216) (hp:∀ x∈l,p x=some (q x)) (hf:∀ x∈l,q x=true->f x=some (g x)):xh l p f=some ((l.filter q).map g):=by
 unfold xh;rw[if_pos hl];clear hl
 induction l with
 | nil=>rfl
 | cons x r ih=>
  unfold jai;have ih':=ih (fun y hy=>hp y (List.mem_cons_of_mem _ hy)) fun y hy=>hf y (List.mem_cons_of_mem _ hy);rw[hp x List.mem_cons_self,Option.bind_some,ih'];cases h:q x with
  | true=>rw[hf x List.mem_cons_self h]; simp[h]
  | false=>simp[h]
theorem comp1 {f:α->Option β} (g:α->β) (hl:l.length<=16777216) (hf:∀ x∈l,f x=some (g x)):xh l (fun _=>some true) f=some (l.map g):=by
 rw[comp (fun _=>true) g hl (fun _ _=>rfl) fun x hx _=>hf x hx,List.filter_eq_self.mpr (fun _ _=>rfl)]
theorem compR {p:Int->Option Bool}{f:Int->Option β} (q:Nat->Bool) (g:Nat->β) (hn:n<=1000000) (hp:∀ k,k<n->p (k:Int)=some (q k)) (hf:∀ k,k<n->q k=true->f (k:Int)=some (g k)) :
  xh ((List.range n).map fun k=>((k:Nat):Int)) p f=some (((List.range n).filter q).map g):=by
 rw[comp (fun x=>q x.toNat) (fun x=>g x.toNat) (by simp; omega)]
 ·rw[List.filter_map,List.map_map];simp[Function.comp_def]
 ·intro x hx;obtain⟨k,hk,rfl⟩:=List.mem_map.mp hx;rw[hp k (List.mem_range.mp hk),Int.toNat_natCast]
 ·intro x hx h;obtain⟨k,hk,rfl⟩:=List.mem_map.mp hx;rw[Int.toNat_natCast] at h ⊢;exact hf k (List.mem_range.mp hk) h
theorem compR1 {f:Int->Option β} (g:Nat->β) (hn:n<=1000000) (hf:∀ k,k<n->f (k:Int)=some (g k)) :
  xh ((List.range n).map fun k=>((k:Nat):Int)) (fun _=>some true) f=some ((List.range n).map g):=by
 rw[compR (fun _=>true) g hn (fun _ _=>rfl) fun k hk _=>hf k hk,List.filter_eq_self.mpr (fun _ _=>rfl)]
theorem forM_cons {x:α}{r:List α}{b:β}:L3.forM (x::r) b f=(f b x).bind fun b'=>L3.forM r b' f:=rfl
theorem jbD (I:Nat->β->Prop) (h0:I 0 b0) (hs:∀ k x b,l[k]?=some x->I k b->∃ b',f b x=some b'/\I (k+1) b'):∃ b',L3.forM l b0 f=some b'/\I l.length b':=by
 induction l generalizing b0 I with
 | nil=>exact ⟨b0,rfl,h0⟩
 | cons x r ih=>
  obtain⟨b1,e1,i1⟩:=hs 0 x b0 rfl h0;obtain⟨b2,e2,i2⟩:=ih (fun k b=>I (k+1) b) i1 fun k y b hk hi=>hs (k+1) y b (by simpa using hk) hi;exact⟨b2,by rw[forM_cons,e1]; exact e2,by simpa using i2⟩
theorem jcv {f:β->Int->Option β} (I:Nat->β->Prop) (h0:I 0 b0) (hs:∀ k b,k<n->I k b->∃ b',f b (k:Int)=some b'/\I (k+1) b'):∃ b',L3.forM ((List.range n).map fun k=>((k:Nat):Int)) b0 f=some b'/\I n b':=by
 obtain⟨b',e,i⟩:=jbD (l:=(List.range n).map fun k=>((k:Nat):Int)) (f:=f) I h0 fun k x b hk hi=>by
  rw[List.getElem?_map] at hk;by_cases hlt:k<n
  ·rw[List.getElem?_range hlt] at hk;cases hk;exact hs k b hlt hi
  ·rw[List.getElem?_eq_none (by simp; omega)] at hk;cases hk
 exact⟨b',e,by simpa using i⟩
theorem forM_then {f:β->Int->Option β}{R:Option δ->Prop} (I:Nat->β->Prop) (h0:I 0 b0) (hs:∀ k b,k<n->I k b->∃ b',f b (k:Int)=some b'/\I (k+1) b') (hk:∀ b,I n b->R (kk b)) :
  R ((L3.forM ((List.range n).map fun k=>((k:Nat):Int)) b0 f).bind kk):=by
 obtain⟨b,e,i⟩:=jcv (f:=f) I h0 hs;rw[e];exact hk b i
theorem forM_thenL {R:Option δ->Prop} (I:Nat->β->Prop) (h0:I 0 b0) (hs:∀ k x b,l[k]?=some x->I k b->∃ b',f b x=some b'/\I (k+1) b') (hk:∀ b,I l.length b->R (kk b)) :
  R ((L3.forM l b0 f).bind kk):=by
 obtain⟨b,e,i⟩:=jbD (f:=f) I h0 hs;rw[e];exact hk b i
theorem jeL {f:β->α->Option (Fl β γ)}{x:α}{r:List α}{b b':β} (h:f b x=some (.nx b')):Z4 (x::r) b f=Z4 r b' f:=by
 show (f b x).bind _=_;rw[h];rfl
theorem forR_inv {f:β->α->Option (Fl β γ)} (I:Nat->β->Prop) (h0:I 0 b0) (hs:∀ k x b,l[k]?=some x->I k b->∃ b',f b x=some (.nx b')/\I (k+1) b'):∃ b',Z4 l b0 f=some (.nx b')/\I l.length b':=by
 induction l generalizing b0 I with
 | nil=>exact ⟨b0,rfl,h0⟩
 | cons x r ih=>
  obtain⟨b1,e1,i1⟩:=hs 0 x b0 rfl h0;obtain⟨b2,e2,i2⟩:=ih (fun k b=>I (k+1) b) i1 fun k y b hk hi=>hs (k+1) y b (by simpa using hk) hi;exact⟨b2,by rw[jeL e1]; exact e2,by simpa using i2⟩
theorem forR_unit {f:Unit->α->Option (Fl Unit γ)} (h:∀ x∈l,f () x=some (.nx ())):Z4 l () f=some (.nx ()):=by
 obtain⟨b',e,_⟩:=forR_inv (f:=f) (l:=l) (b0:=()) (fun _ _=>True) trivial fun k x b hx _=>⟨(),h x (List.mem_of_getElem? hx),trivial⟩;cases b';exact e
theorem shl1 {t:Nat} (h:t<=1000):jhf 1 (t:Int)=some ((2 ^ t:Nat):Int):=by
 rw[jfV ⟨by omega,by omega,by decide⟩,Int.toNat_natCast];simp
theorem shr {b t:Nat}:jhU (b:Int) (t:Int)=some ((b / 2 ^ t:Nat):Int):=by
 rw[jfW (by omega),Int.toNat_natCast];simp[Int.natCast_ediv]
end
end MM
namespace L3
open PySem PySem.Spec L2
theorem Ext.xc {α:Type}{c:Cd α}{K:W.Frag}{F H F' H':Hp}{a:α}{v:V} (E:Ext F H F' H') (h:c.rep K F a v):c.rep K F' a v:=Cd.mono _ E.f h
theorem Ext.xd {G F H F' H':Hp} (E:Ext F H F' H') (h:Same G F):Same G F':=Same.trans h E.f
theorem Ext.xb {α:Type}{c:Cd α}{K:W.Frag}{He F H F' H':Hp}{a:List α}{v:V} (E:Ext F H F' H') (h:Bor K He F c a v):Bor K He F' c a v:=Bor.mono h E.f
end L3
namespace Lw
open PySem L2 L3
structure MOrder where
 many:Int
 beneath:(List Int)
 neighbours:(List (Int×Int))
def zk (u1 u2 u3:V):List (Str×V):=(QM "neighbours" u3 (QM "beneath" u2 (QM "many" u1 [])))
def jC (C:Addr):Cd MOrder:=⟨fun K H o v=>∃ a dx u1 u2 u3,v=.ref a/\H a=some (.ins C dx (zk u1 u2 u3))/\cI.rep K H o.many u1/\(cT cI).rep K H o.beneath u2/\(cT (cP cI cI)).rep K H o.neighbours u3,fun s ⟨a,dx,u1,u2,u3,e,h,r1,r2,r3⟩=>⟨a,dx,u1,u2,u3,e,s _ _ h,Cd.mono _ s r1,Cd.mono _ s r2,Cd.mono _ s r3⟩⟩
structure Ad (K:W.Frag) (mg:Str->Option Value) (C:Addr):Prop where
 cl:Cls K C
 n_many:NoAttr K C "many"
 n_beneath:NoAttr K C "beneath"
 n_neighbours:NoAttr K C "neighbours"
theorem JL (T:Ad K mg C):VT K (jC C) "many" cI (fun o=>o.many):=fun⟨a,dx,u1,u2,u3,e,h,r1,r2,r3⟩=>⟨a,C,dx,_,u1,e,h,T.cl,T.n_many,by unfold zk; rw[jF,if_neg (by decide +kernel),jF,if_neg (by decide +kernel),jF,if_pos rfl],r1⟩
theorem xz (T:Ad K mg C):VT K (jC C) "beneath" (cT cI) (fun o=>o.beneath):=fun⟨a,dx,u1,u2,u3,e,h,r1,r2,r3⟩=>⟨a,C,dx,_,u2,e,h,T.cl,T.n_beneath,by unfold zk; rw[jF,if_neg (by decide +kernel),jF,if_pos rfl],r2⟩
theorem yG (T:Ad K mg C):VT K (jC C) "neighbours" (cT (cP cI cI)) (fun o=>o.neighbours):=fun⟨a,dx,u1,u2,u3,e,h,r1,r2,r3⟩=>⟨a,C,dx,_,u3,e,h,T.cl,T.n_neighbours,by unfold zk; rw[jF,if_pos rfl],r3⟩
theorem zZ:WV (jC C) C "size":=fun⟨a,dx,u1,u2,u3,e,h,_⟩=>⟨a,dx,_,e,h,by unfold zk; rw[jF,if_neg (by decide +kernel),jF,if_neg (by decide +kernel),jF,if_neg (by decide +kernel)]; rfl⟩
theorem yH:WV (jC C) C "check_thing":=fun⟨a,dx,u1,u2,u3,e,h,_⟩=>⟨a,dx,_,e,h,by unfold zk; rw[jF,if_neg (by decide +kernel),jF,if_neg (by decide +kernel),jF,if_neg (by decide +kernel)]; rfl⟩
theorem yY:WV (jC C) C "just_above":=fun⟨a,dx,u1,u2,u3,e,h,_⟩=>⟨a,dx,_,e,h,by unfold zk; rw[jF,if_neg (by decide +kernel),jF,if_neg (by decide +kernel),jF,if_neg (by decide +kernel)]; rfl⟩
theorem yZ:WV (jC C) C "just_below":=fun⟨a,dx,u1,u2,u3,e,h,_⟩=>⟨a,dx,_,e,h,by unfold zk; rw[jF,if_neg (by decide +kernel),jF,if_neg (by decide +kernel),jF,if_neg (by decide +kernel)]; rfl⟩
structure MGreat where
 order:MOrder
def UG (u1:V):List (Str×V):=(QM "order" u1 [])
def kN (jb:Addr) (C:Addr):Cd MGreat:=⟨fun K H o v=>∃ a dx u1,v=.ref a/\H a=some (.ins C dx (UG u1))/\(jC jb).rep K H o.order u1,fun s ⟨a,dx,u1,e,h,r1⟩=>⟨a,dx,u1,e,s _ _ h,Cd.mono _ s r1⟩⟩
structure Am (K:W.Frag) (mg:Str->Option Value) (C:Addr):Prop where
 cl:Cls K C
 n_order:NoAttr K C "order"
theorem y0 (T:Am K mg C):VT K (kN jb C) "order" (jC jb) (fun o=>o.order):=fun⟨a,dx,u1,e,h,r1⟩=>⟨a,C,dx,_,u1,e,h,T.cl,T.n_order,by unfold UG; rw[jF,if_pos rfl],r1⟩
theorem Qp:jcr (kN jb C) C:=fun⟨a,dx,u1,e,h,_⟩=>⟨a,dx,_,e,h⟩
theorem yM:WV (kN jb C) C "done":=fun⟨a,dx,u1,e,h,_⟩=>⟨a,dx,_,e,h,by unfold UG; rw[jF,if_neg (by decide +kernel)]; rfl⟩
theorem W8:WV (kN jb C) C "back":=fun⟨a,dx,u1,e,h,_⟩=>⟨a,dx,_,e,h,by unfold UG; rw[jF,if_neg (by decide +kernel)]; rfl⟩
structure MSlide where
 order:MOrder
def UH (u1:V):List (Str×V):=(QM "order" u1 [])
def kO (jb:Addr) (C:Addr):Cd MSlide:=⟨fun K H o v=>∃ a dx u1,v=.ref a/\H a=some (.ins C dx (UH u1))/\(jC jb).rep K H o.order u1,fun s ⟨a,dx,u1,e,h,r1⟩=>⟨a,dx,u1,e,s _ _ h,Cd.mono _ s r1⟩⟩
structure An (K:W.Frag) (mg:Str->Option Value) (C:Addr):Prop where
 cl:Cls K C
 n_order:NoAttr K C "order"
theorem qJ (T:An K mg C):VT K (kO jb C) "order" (jC jb) (fun o=>o.order):=fun⟨a,dx,u1,e,h,r1⟩=>⟨a,C,dx,_,u1,e,h,T.cl,T.n_order,by unfold UH; rw[jF,if_pos rfl],r1⟩
theorem Qq:jcr (kO jb C) C:=fun⟨a,dx,u1,e,h,_⟩=>⟨a,dx,_,e,h⟩
theorem yN:WV (kO jb C) C "done":=fun⟨a,dx,u1,e,h,_⟩=>⟨a,dx,_,e,h,by unfold UH; rw[jF,if_neg (by decide +kernel)]; rfl⟩
theorem W9:WV (kO jb C) C "back":=fun⟨a,dx,u1,e,h,_⟩=>⟨a,dx,_,e,h,by unfold UH; rw[jF,if_neg (by decide +kernel)]; rfl⟩
structure MAbove where
 order:MOrder
def UI (u1:V):List (Str×V):=(QM "order" u1 [])
def kP (jb:Addr) (C:Addr):Cd MAbove:=⟨fun K H o v=>∃ a dx u1,v=.ref a/\H a=some (.ins C dx (UI u1))/\(jC jb).rep K H o.order u1,fun s ⟨a,dx,u1,e,h,r1⟩=>⟨a,dx,u1,e,s _ _ h,Cd.mono _ s r1⟩⟩
structure Ao (K:W.Frag) (mg:Str->Option Value) (C:Addr):Prop where
 cl:Cls K C
 n_order:NoAttr K C "order"
theorem yb (T:Ao K mg C):VT K (kP jb C) "order" (jC jb) (fun o=>o.order):=fun⟨a,dx,u1,e,h,r1⟩=>⟨a,C,dx,_,u1,e,h,T.cl,T.n_order,by unfold UI; rw[jF,if_pos rfl],r1⟩
theorem Qr:jcr (kP jb C) C:=fun⟨a,dx,u1,e,h,_⟩=>⟨a,dx,_,e,h⟩
theorem yc:WV (kP jb C) C "done":=fun⟨a,dx,u1,e,h,_⟩=>⟨a,dx,_,e,h,by unfold UI; rw[jF,if_neg (by decide +kernel)]; rfl⟩
theorem W_:WV (kP jb C) C "back":=fun⟨a,dx,u1,e,h,_⟩=>⟨a,dx,_,e,h,by unfold UI; rw[jF,if_neg (by decide +kernel)]; rfl⟩
structure MBelow where
 order:MOrder
def UJ (u1:V):List (Str×V):=(QM "order" u1 [])
def kQ (jb:Addr) (C:Addr):Cd MBelow:=⟨fun K H o v=>∃ a dx u1,v=.ref a/\H a=some (.ins C dx (UJ u1))/\(jC jb).rep K H o.order u1,fun s ⟨a,dx,u1,e,h,r1⟩=>⟨a,dx,u1,e,s _ _ h,Cd.mono _ s r1⟩⟩
structure Ap (K:W.Frag) (mg:Str->Option Value) (C:Addr):Prop where
 cl:Cls K C
 n_order:NoAttr K C "order"
theorem yd (T:Ap K mg C):VT K (kQ jb C) "order" (jC jb) (fun o=>o.order):=fun⟨a,dx,u1,e,h,r1⟩=>⟨a,C,dx,_,u1,e,h,T.cl,T.n_order,by unfold UJ; rw[jF,if_pos rfl],r1⟩
theorem Qs:jcr (kQ jb C) C:=fun⟨a,dx,u1,e,h,_⟩=>⟨a,dx,_,e,h⟩
theorem ye:WV (kQ jb C) C "done":=fun⟨a,dx,u1,e,h,_⟩=>⟨a,dx,_,e,h,by unfold UJ; rw[jF,if_neg (by decide +kernel)]; rfl⟩
theorem Ya:WV (kQ jb C) C "back":=fun⟨a,dx,u1,e,h,_⟩=>⟨a,dx,_,e,h,by unfold UJ; rw[jF,if_neg (by decide +kernel)]; rfl⟩
@[irreducible] def zd (script:(List Int)) (k_:Int):Option Int:=
 bif (decide (k_<(script.length:Int))) then
 (pAt script k_)
 else
 some (0)
@[irreducible] def ZB (script:(List Int)) (most:Int):Option (Int×(List (Int×Int))):=
 (((some (1)).bind fun t4=>((((((zd script 0)).bind fun t1=>some ((t1 / 2)))).bind fun t2=>(some (most)).bind fun t3=>(Z3 t2 t3))).bind fun t5=>some ((t4+t5)))).bind fun many=>
 ((zd script 1)).bind fun cell=>
 (some (([]:List (Int×Int)))).bind fun pairs=>
 (((yE 0 many)).bind fun l14=>L3.forM l14 (cell,pairs) (fun z8 high=>
 (((yE 0 high)).bind fun l12=>L3.forM l12 (z8.1,z8.2) (fun z10 low=>
 (bif (decide ((z10.1 % 2)=1)) then
 ((Wg z10.2 ((low,high):(Int×Int)))).bind fun pairs=>
 some pairs
 else
 some z10.2).bind fun pairs=>
 (some ((z10.1 / 2))).bind fun cell=>
 some (cell,pairs))).bind fun z13=>
 some (z13.1,z13.2))).bind fun z15=>
 some (((many,z15.2):(Int×(List (Int×Int)))))
@[irreducible] def kr (script:(List Int)) (k_:Int):Option Int:=
 (some (0)).bind fun cell=>
 (bif (decide (0<(script.length:Int))) then
 (((some (script)).bind fun t1=>((Z3 k_ (script.length:Int))).bind fun t2=>(pAt t1 t2))).bind fun cell=>
 some cell
 else
 some cell).bind fun cell=>
 (some ((((cell+(7919 * (k_+1))) * 6364136223846793005) % 2305843009213693951))).bind fun low=>
 some (((((cell % (10 ^ 60:Int)) / 2305843009213693951) * 2305843009213693951)+low))
@[irreducible] def G5 (first:Int) (most:Int):Option (Int×(List (Int×Int))):=
 (some ((1+(first % 3)))).bind fun rows=>
 (bif (decide (most<rows)) then
 (some (1)).bind fun rows=>
 some rows
 else
 some rows).bind fun rows=>
 (((some (1)).bind fun t4=>(((some ((first / 3))).bind fun t2=>((jhT most rows)).bind fun t3=>(Z3 t2 t3))).bind fun t5=>some ((t4+t5)))).bind fun columns=>
 (some (([]:List (Int×Int)))).bind fun pairs=>
 (((((Y7 rows columns)).bind fun t6=>(yE 0 t6))).bind fun l16=>L3.forM l16 pairs (fun pairs thing=>
 (((((Z3 thing columns)).bind fun t8=>(some ((columns-1))).bind fun t9=>some ((decide (t8<t9))))).bind fun q15=>bif q15 then
 ((Wg pairs ((thing,(thing+1)):(Int×Int)))).bind fun pairs=>
 some pairs
 else
 some pairs).bind fun pairs=>
 ((((some ((thing+columns))).bind fun t11=>((Y7 rows columns)).bind fun t12=>some ((decide (t11<t12))))).bind fun q14=>bif q14 then
 ((Wg pairs ((thing,(thing+columns)):(Int×Int)))).bind fun pairs=>
 some pairs
 else
 some pairs).bind fun pairs=>
 some pairs)).bind fun pairs=>
 (((Y7 rows columns)).bind fun t19=>(some (pairs)).bind fun t20=>some (((t19,t20):(Int×(List (Int×Int))))))
@[irreducible] def JX (script:(List Int)) (most:Int):Option (Int×(List (Int×Int))):=
 ((((((zd script 0)).bind fun t1=>some ((t1 % 2)))).bind fun t2=>(some (0)).bind fun t3=>some ((decide (t2=t3))))).bind fun q27=>bif q27 then
 (ZB script most)
 else
 ((kr script 0)).bind fun first=>
 (((some (1)).bind fun t4=>((Z3 first most)).bind fun t5=>some ((t4+t5)))).bind fun many=>
 (some (((first / 9) % 7))).bind fun way=>
 bif (decide (way=0)) then
 (G5 (first / 63) most)
 else
 bif (decide (way=1)) then
 ((some (many)).bind fun t9=>((((yE 0 (many-1))).bind fun l8=>xh l8 (fun _=>some true) (fun thing=>some (((thing,(thing+1)):(Int×Int)))))).bind fun t10=>some (((t9,t10):(Int×(List (Int×Int))))))
 else
 bif ((decide (many<2))||(decide (way=2))) then
 some (((many,([]:List (Int×Int))):(Int×(List (Int×Int)))))
 else
 (some (([]:List (Int×Int)))).bind fun pairs=>
 ((((((some (1)).bind fun t13=>((((kr script 1)).bind fun t11=>(some ((2 * many))).bind fun t12=>(Z3 t11 t12))).bind fun t14=>some ((t13+t14)))).bind fun t15=>(yE 0 t15))).bind fun l26=>L3.forM l26 pairs (fun pairs k_=>
 ((((kr script (8+k_))).bind fun t19=>((Y7 (first / 7) (k_+1))).bind fun t20=>some ((t19+t20)))).bind fun cell=>
 ((Z3 cell (many-1))).bind fun low=>
 (((((some (low)).bind fun t23=>(((some ((low+1))).bind fun t21=>((Z3 (cell / 9) ((many-1)-low))).bind fun t22=>some ((t21+t22)))).bind fun t24=>some (((t23,t24):(Int×Int))))).bind fun t25=>(Wg pairs t25))).bind fun pairs=>
 some pairs)).bind fun pairs=>
 some (((many,pairs):(Int×(List (Int×Int)))))
@[irreducible] def G6 (many:Int) (pairs:(List (Int×Int))):Option (List (List Int)):=
 (some (([]:List (List Int)))).bind fun under_here=>
 (((yE 0 many)).bind fun l14=>L3.forM l14 under_here (fun under_here high=>
 (some (([]:List Int))).bind fun found=>
 (L3.forM pairs found (fun found z7=>
 (bif (decide (z7.2=high)) then
 (((((some (([z7.1]:List Int))).bind fun t8=>((pAt under_here z7.1)).bind fun t9=>(Um t8 t9))).bind fun t10=>(Um found t10))).bind fun found=>
 some found
 else
 some found).bind fun found=>
 some found)).bind fun found=>
 ((((jcg found)).bind fun t13=>(Wg under_here t13))).bind fun under_here=>
 some under_here)).bind fun under_here=>
 some under_here
@[irreducible] def qY (many:Int) (pairs:(List (Int×Int))):Option Unit:=
 bif (!((decide (1<=many))&&(decide (many<=9)))) then
 none
 else
 (L3.forM pairs () (fun (_:Unit) z3=>
 bif (!((decide (0<=z3.1))&&((decide (z3.1<z3.2))&&(decide (z3.2<many))))) then
 none
 else
 some ())).bind fun _=>
 some ()
@[irreducible] def xp (many:Int) (pairs:(List (Int×Int))):Option (List Int):=
 (some (([]:List Int))).bind fun found=>
 (((yE 0 many)).bind fun l14=>L3.forM l14 found (fun found thing=>
 (some (0)).bind fun bits=>
 (L3.forM pairs bits (fun bits z7=>
 (bif (decide (z7.2=thing)) then
 (((((some (bits)).bind fun t8=>((pAt found z7.1)).bind fun t9=>some ((Builtin.bitOr t8 t9)))).bind fun t10=>((jhf 1 z7.1)).bind fun t11=>some ((Builtin.bitOr t10 t11)))).bind fun bits=>
 some bits
 else
 some bits).bind fun bits=>
 some bits)).bind fun bits=>
 ((Wg found bits)).bind fun found=>
 some found)).bind fun found=>
 some (found)
@[irreducible] def QY (bits:Int) (thing:Int):Option Bool:=
 (((((jhU bits thing)).bind fun t1=>(some (1)).bind fun t2=>some ((Builtin.bitAnd t1 t2)))).bind fun t3=>(some (1)).bind fun t4=>some ((decide (t3=t4))))
@[irreducible] def yi (beneath:(List Int)) (low:Int) (high:Int):Option Bool:=
 ((((((pAt beneath high)).bind fun t1=>(some (low)).bind fun t2=>(QY t1 t2))).bind fun t3=>some ((!t3)))).bind fun q13=>bif q13 then
 some (false)
 else
 (((((((yE (low+1) high)).bind fun l10=>xh l10 (fun _=>some true) (fun mid=>(((((pAt beneath high)).bind fun t6=>(some (mid)).bind fun t7=>(QY t6 t7))).bind fun q=>bif q then (((pAt beneath mid)).bind fun t8=>(some (low)).bind fun t9=>(QY t8 t9)) else some false)))).bind fun t11=>some ((t11.any id)))).bind fun t12=>some ((!t12)))
@[irreducible] def qZ (beneath:(List Int)):Option (List (Int×Int)):=
 (some (([]:List (Int×Int)))).bind fun found=>
 (((yE 0 (beneath.length:Int))).bind fun l7=>L3.forM l7 found (fun found low=>
 (((yE (low+1) (beneath.length:Int))).bind fun l6=>L3.forM l6 found (fun found high=>
 (((yi beneath low high)).bind fun q5=>bif q5 then
 ((Wg found ((low,high):(Int×Int)))).bind fun found=>
 some found
 else
 some found).bind fun found=>
 some found)).bind fun found=>
 some found)).bind fun found=>
 some (found)
@[irreducible] def xq (many:Int) (pairs:(List (Int×Int))):Option MOrder:=
 ((qY many pairs)).bind fun _=>
 (some (many)).bind fun f_many=>
 ((xp many pairs)).bind fun f_beneath=>
 ((qZ f_beneath)).bind fun f_neighbours=>
 some (MOrder.mk f_many f_beneath f_neighbours)
@[irreducible] def Uc (under_here:(List (List Int))) (script:(List Int)) (at_:Int):Option (List Int):=
 (some (([]:List Int))).bind fun line_here=>
 ((zd script at_)).bind fun cell=>
 (pWh (fun z3=>some (decide ((z3.1.length:Int)<(under_here.length:Int)))) (fun z3=>
 (some (([]:List Int))).bind fun free_here=>
 (((yE 0 (under_here.length:Int))).bind fun l11=>L3.forM l11 free_here (fun free_here thing=>
 (((bif (!jdF thing z3.1) then (((((pAt under_here thing)).bind fun l7=>xh l7 (fun _=>some true) (fun low=>some ((jdF low z3.1))))).bind fun t8=>some ((t8.all id))) else some false)).bind fun q10=>bif q10 then
 ((Wg free_here thing)).bind fun free_here=>
 some free_here
 else
 some free_here).bind fun free_here=>
 some free_here)).bind fun free_here=>
 (((((((zd script 0)).bind fun t12=>some ((t12 % 2)))).bind fun t13=>(some (1)).bind fun t14=>some ((decide (t13=t14))))).bind fun q24=>bif q24 then
 ((((kr script (at_+(z3.1.length:Int)))).bind fun t18=>((((((kr script 3)).bind fun t15=>some ((t15 / 11)))).bind fun t16=>(some (((z3.1.length:Int)+1))).bind fun t17=>(Y7 t16 t17))).bind fun t19=>some ((t18+t19)))).bind fun cell=>
 some cell
 else
 some z3.2).bind fun cell=>
 (((((some (free_here)).bind fun t21=>((Z3 cell (free_here.length:Int))).bind fun t22=>(pAt t21 t22))).bind fun t23=>(Wg z3.1 t23))).bind fun line_here=>
 ((jhT cell (free_here.length:Int))).bind fun cell=>
 some (line_here,cell)) (line_here,cell)).bind fun z25=>
 some (z25.1)
@[irreducible] def zN (script:(List Int)) (k_:Int):Option Int:=
 ((((((zd script 0)).bind fun t1=>some ((t1 % 2)))).bind fun t2=>(some (0)).bind fun t3=>some ((decide (t2=t3))))).bind fun q4=>bif q4 then
 (zd script k_)
 else
 (kr script k_)
@[irreducible] def zO (yf:(List Int)):Option Int:=
 (some (0)).bind fun total=>
 (L3.forM yf total (fun total thing=>
 (some (1)).bind fun bit=>
 (((yE 0 thing)).bind fun l5=>L3.forM l5 bit (fun bit k_=>
 (some ((bit * 2))).bind fun bit=>
 some bit)).bind fun bit=>
 (some ((total+bit))).bind fun total=>
 some total)).bind fun total=>
 some (total)
@[irreducible] def xr (under_here:(List (List Int))) (cell:Int):Option Int:=
 (some ((under_here.length:Int))).bind fun many=>
 ((((jar many)).bind fun t1=>(zO t1))).bind fun whole=>
 (some (([((0-1)-((cell / 4) % 1000)),((whole+1)+((cell / 4) % 1000)),((0-1)-(cell % (10 ^ 20:Int)))]:List Int))).bind fun some_=>
 (((yE 0 many)).bind fun l15=>L3.forM l15 some_ (fun some_ thing=>
 (((((((pAt under_here thing)).bind fun t3=>some ((t3.length:Int)))).bind fun t4=>(some (0)).bind fun t5=>some ((decide (t5<t4))))).bind fun q14=>bif q14 then
 (((((((some (([thing]:List Int))).bind fun t9=>((((pAt under_here thing)).bind fun t6=>(some (some 1)).bind fun t7=>(some none).bind fun t8=>some (cut t6 t7 t8))).bind fun t10=>(Um t9 t10))).bind fun t11=>(zO t11))).bind fun t12=>(Wg some_ t12))).bind fun some_=>
 some some_
 else
 some some_).bind fun some_=>
 some some_)).bind fun some_=>
 ((some (some_)).bind fun t16=>((Z3 cell (some_.length:Int))).bind fun t17=>(pAt t16 t17))
@[irreducible] def xt (order:MOrder):Option MGreat:=
 (some (order)).bind fun f_order=>
 some (MGreat.mk f_order)
@[irreducible] def xV (order:MOrder):Option MSlide:=
 (some (order)).bind fun f_order=>
 some (MSlide.mk f_order)
@[irreducible] def xW (order:MOrder):Option MAbove:=
 (some (order)).bind fun f_order=>
 some (MAbove.mk f_order)
@[irreducible] def xX (order:MOrder):Option MBelow:=
 (some (order)).bind fun f_order=>
 some (MBelow.mk f_order)
@[irreducible] def yt (line_here:(List Int)) (under_here:(List (List Int))) (cell:Int):Option (List Int):=
 (some ((line_here.length:Int))).bind fun many=>
 (((some ((cut line_here (some 1) none))).bind fun t7=>(((Um line_here ([0]:List Int))).bind fun t5=>(((Um (cut line_here none (some (-1))) ([many]:List Int))).bind fun t3=>(((Um ([(0-1)]:List Int) (cut line_here (some 1) none))).bind fun t1=>(some ([]:List (List Int))).bind fun t2=>some (t1::t2)).bind fun t4=>some (t3::t4)).bind fun t6=>some (t5::t6)).bind fun t8=>some (t7::t8))).bind fun some_=>
 (bif (decide (1<many)) then
 ((((Um (cut line_here none (some (-1))) (cut line_here none (some 1)))).bind fun t9=>(Wg some_ t9))).bind fun some_=>
 some some_
 else
 some some_).bind fun some_=>
 (((yE 0 many)).bind fun l22=>L3.forM l22 some_ (fun some_ thing=>
 (((((((pAt under_here thing)).bind fun t13=>some ((t13.length:Int)))).bind fun t14=>(some (0)).bind fun t15=>some ((decide (t15<t14))))).bind fun q21=>bif q21 then
 ((jaq line_here thing)).bind fun at_=>
 ((((((Um ([thing]:List Int) (cut line_here none (some at_)))).bind fun t16=>(some ((cut line_here (some (at_+1)) none))).bind fun t17=>(Um t16 t17))).bind fun t18=>(Wg some_ t18))).bind fun some_=>
 some some_
 else
 some some_).bind fun some_=>
 some some_)).bind fun some_=>
 ((some (some_)).bind fun t23=>((Z3 cell (some_.length:Int))).bind fun t24=>(pAt t23 t24))
@[irreducible] def z_ (yf:(List Int)):Option Int:=
 (some (0)).bind fun total=>
 (L3.forM yf total (fun total thing=>
 (some (1)).bind fun bit=>
 (((yE 0 thing)).bind fun l5=>L3.forM l5 bit (fun bit k_=>
 (some ((bit * 2))).bind fun bit=>
 some bit)).bind fun bit=>
 (some ((total+bit))).bind fun total=>
 some total)).bind fun total=>
 some (total)
@[irreducible] def kR (self:MOrder):Option Int:=
 some (self.many)
@[irreducible] def qA (bits:Int):Option (List Int):=
 (((yE 0 ((Builtin.Int.intBits bits:Nat):Int))).bind fun l3=>xh l3 (fun thing=>(QY bits thing)) (fun thing=>some (thing)))
@[irreducible] def k7 (bits:Int) (others:Int):Option Bool:=
 some ((decide ((Builtin.bitAnd bits others)=others)))
@[irreducible] def jR (order:MOrder) (bits:Int):Option Bool:=
 ((bif (decide (bits<0)) then some true else ((((some (bits)).bind fun t1=>((kR order)).bind fun t2=>(jhU t1 t2))).bind fun t3=>(some (0)).bind fun t4=>some ((decide (t4<t3)))))).bind fun q11=>bif q11 then
 some (false)
 else
 (((((qA bits)).bind fun l9=>xh l9 (fun _=>some true) (fun thing=>((some (bits)).bind fun t7=>((pAt order.beneath thing)).bind fun t8=>(k7 t7 t8))))).bind fun t10=>some ((t10.all id)))
@[irreducible] def kt (order:MOrder) (bits:Int):Option Unit:=
 ((((jR order bits)).bind fun t1=>some ((!t1)))).bind fun q2=>bif q2 then
 none
 else
 some ()
@[irreducible] def zP (order:MOrder) (bits:Int) (thing:Int):Option Bool:=
 (((((QY bits thing)).bind fun t1=>some ((!t1)))).bind fun q=>bif q then ((some (bits)).bind fun t2=>((pAt order.beneath thing)).bind fun t3=>(k7 t2 t3)) else some false)
@[irreducible] def zm (yf:(List Int)):Option Int:=
 (some (0)).bind fun bits=>
 (L3.forM yf bits (fun bits thing=>
 (((some (bits)).bind fun t2=>((jhf 1 thing)).bind fun t3=>some ((Builtin.bitOr t2 t3)))).bind fun bits=>
 some bits)).bind fun bits=>
 some (bits)
@[irreducible] def G7 (order:MOrder) (bits:Int):Option Int:=
 ((kt order bits)).bind fun _=>
 (((((((kR order)).bind fun t1=>(yE 0 t1))).bind fun l4=>xh l4 (fun thing=>(zP order bits thing)) (fun thing=>some (thing)))).bind fun t5=>(zm t5))
@[irreducible] def qR (order:MOrder) (bits:Int):Option Int:=
 ((G7 order bits)).bind fun entered=>
 (some (entered)).bind fun turned=>
 (((qA entered)).bind fun l4=>L3.forM l4 turned (fun turned thing=>
 (((some (turned)).bind fun t2=>((pAt order.beneath thing)).bind fun t3=>some ((Builtin.bitOr t2 t3)))).bind fun turned=>
 some turned)).bind fun turned=>
 some (turned)
@[irreducible] def qd (self:MGreat) (one:Int):Option Int:=
 (qR self.order one)
@[irreducible] def qg (order:MOrder) (bits:Int):Option Er:=
 ((((jR order bits)).bind fun t1=>some ((!t1)))).bind fun q2=>bif q2 then
 (some (bits)).bind fun a1=>some (Er.mk 3 [a1])
 else
 none
@[irreducible] def Vl (order:MOrder) (bits:Int):Option Er:=
 orE ((some (order)).bind fun x1=>(some (bits)).bind fun x2=>(qg x1 x2)) (((some (order)).bind fun x1=>(some (bits)).bind fun x2=>(kt x1 x2)).bind fun _=>
 none)
@[irreducible] def yu (order:MOrder) (bits:Int):Option Er:=
 (some (order)).bind fun x1=>(some (bits)).bind fun x2=>(Vl x1 x2)
@[irreducible] def xu (self:MGreat) (one:Int):Option Er:=
 (some (self.order)).bind fun x1=>(some (one)).bind fun x2=>(yu x1 x2)
@[irreducible] def y1 (self:MGreat) (one:Int):Option Unit:=
 none
@[irreducible] def xF (order:MOrder) (bits:Int):Option Unit:=
 none
@[irreducible] def Vm (order:MOrder) (bits:Int):Option Unit:=
 none
@[irreducible] def G8 (order:MOrder) (bits:Int):Option Er:=
 orE ((some (order)).bind fun x1=>(some (bits)).bind fun x2=>(qg x1 x2)) (((some (order)).bind fun x1=>(some (bits)).bind fun x2=>(kt x1 x2)).bind fun _=>
 none)
@[irreducible] def k9 (order:MOrder) (bits:Int):Option Er:=
 (some (order)).bind fun x1=>(some (bits)).bind fun x2=>(G8 x1 x2)
@[irreducible] def qK (self:MGreat) (one:Int):Option Er:=
 (some (self.order)).bind fun x1=>(some (one)).bind fun x2=>(k9 x1 x2)
@[irreducible] def Ga (turn:MGreat) (one:Int):Option Unit:=
 none
@[irreducible] def q8 (turn:MGreat) (one:Int):Option Er:=
 (some (([one]:List Int))).bind fun circle=>
 (some (turn)).bind fun x1=>(some (one)).bind fun x2=>(xu x1 x2)
@[irreducible] def y2 (turn:MGreat) (ones:(List Int)):Option Unit:=
 none
@[irreducible] def qL (turn:MGreat) (ones:(List Int)):Option Er:=
 (some (([]:List Int))).bind fun found=>
 (some (([]:(List (Int×Int))))).bind fun gone_through=>
 (Z4 ones (found,gone_through) (fun z4 one=>
 bif (!isK one z4.2) then
 ((some (turn)).bind fun x1=>(some (one)).bind fun x2=>(q8 x1 x2)).bind fun y=>some (.rt y)
 else
 some (.nx (z4.1,z4.2)))).bind fun x_=>x_.el (fun c_=>some c_) (fun z6=>
 none)
@[irreducible] def Vn (turn:MGreat) (one:Int) (which:Int):Option (Str×Int×Bool×Bool×Bool):=
 (some (((("told":Str),0):(Str×Int)))).bind fun told=>
 (((bif (decide (which=0)) then ((some (turn)).bind fun x1=>(some (one)).bind fun x2=>(xu x1 x2)) else (bif (decide (which=1)) then ((some (turn)).bind fun x1=>(some (one)).bind fun x2=>(qK x1 x2)) else (bif (decide (which=2)) then ((some (turn)).bind fun x1=>(some (one)).bind fun x2=>(q8 x1 x2)) else ((some (turn)).bind fun x1=>(some (([one]:List Int))).bind fun x2=>(qL x1 x2)))))).bind fun er_=>bif Wn [3] er_ then ((some (("downset":Str))).bind fun t1=>(((some er_).bind fun er_=>jja 3 0 er_)).bind fun t2=>(((some er_).bind fun er_=>some (Wn [0,1,2,3,4] er_))).bind fun t3=>(((some er_).bind fun er_=>some (Wn [0,1,2,3,4] er_))).bind fun t4=>(((some er_).bind fun er_=>some (Wn [4] er_))).bind fun t5=>some ((t1,t2,t3,t4,t5))) else none).bind fun told=>
 some (told)
@[irreducible] def kS (order:MOrder) (line:(List Int)):Option Bool:=
 ((((jf9 line)).bind fun t2=>((((kR order)).bind fun t1=>(jar t1))).bind fun t3=>some ((!jb2 t2 t3)))).bind fun q12=>bif q12 then
 some (false)
 else
 (some (0)).bind fun ahead=>
 (Z4 line ahead (fun ahead thing=>
 (((((some (ahead)).bind fun t5=>((pAt order.beneath thing)).bind fun t6=>(k7 t5 t6))).bind fun t7=>some ((!t7)))).bind fun q10=>bif q10 then
 (some (false)).bind fun y=>some (.rt y)
 else
 (((some (ahead)).bind fun t8=>((jhf 1 thing)).bind fun t9=>some ((Builtin.bitOr t8 t9)))).bind fun ahead=>
 some (.nx ahead))).bind fun x_=>x_.el (fun c_=>some c_) (fun ahead=>
 some (true))
@[irreducible] def j3 (order:MOrder) (line:(List Int)):Option Unit:=
 ((((kS order line)).bind fun t1=>some ((!t1)))).bind fun q2=>bif q2 then
 none
 else
 some ()
@[irreducible] def jY (self:MOrder) (thing:Int):Option Unit:=
 bif (!((decide (0<=thing))&&(decide (thing<self.many)))) then
 none
 else
 some ()
@[irreducible] def ke (self:MOrder) (thing:Int):Option (List Int):=
 ((jY self thing)).bind fun _=>
 (xh self.neighbours (fun z3=>some ((decide (z3.1=thing)))) (fun z3=>some (z3.2)))
@[irreducible] def jT (row:(List Int)) (yf:(List Int)):Option (List Int):=
 (xh yf (fun thing=>some ((jdF thing row))) (fun thing=>(jaq row thing)))
@[irreducible] def G9 (order:MOrder) (row:(List Int)):Option (List Int):=
 (some (row)).bind fun moved=>
 ((pAt row 0)).bind fun gap=>
 (((some (row)).bind fun t1=>((ke order gap)).bind fun t2=>(jT t1 t2))).bind fun higher=>
 (pWh (fun z4=>some (decide (0<(z4.2.2.length:Int)))) (fun z4=>
 ((jel z4.2.2)).bind fun place=>
 ((jfg z4.1 place z4.2.1)).bind fun moved=>
 ((pAt row place)).bind fun gap=>
 (((some (row)).bind fun t5=>((ke order gap)).bind fun t6=>(jT t5 t6))).bind fun higher=>
 some (moved,gap,higher)) (moved,gap,higher)).bind fun z7=>
 (((Um (cut z7.1 (some 1) none) ([z7.2.1]:List Int))).bind fun t8=>some (t8))
@[irreducible] def kT (self:MSlide) (one:(List Int)):Option (List Int):=
 ((j3 self.order one)).bind fun _=>
 (G9 self.order one)
@[irreducible] def kU (self:MAbove) (one:(List Int)):Option (List Int):=
 ((j3 self.order one)).bind fun _=>
 (some (one)).bind fun row=>
 (((jaG (one.length:Int) 1)).bind fun l4=>L3.forM l4 row (fun row end_=>
 ((((G9 self.order (cut row none (some end_)))).bind fun t2=>(some ((cut row (some end_) none))).bind fun t3=>(Um t2 t3))).bind fun row=>
 some row)).bind fun row=>
 some (row)
@[irreducible] def kf (self:MOrder) (thing:Int):Option (List Int):=
 ((jY self thing)).bind fun _=>
 (xh self.neighbours (fun z3=>some ((decide (z3.2=thing)))) (fun z3=>some (z3.1)))
@[irreducible] def q9 (order:MOrder) (row:(List Int)):Option (List Int):=
 (some (row)).bind fun moved=>
 ((pAt row (-1))).bind fun gap=>
 (((some (row)).bind fun t1=>((kf order gap)).bind fun t2=>(jT t1 t2))).bind fun lower=>
 (pWh (fun z4=>some (decide (0<(z4.2.2.length:Int)))) (fun z4=>
 ((jem z4.2.2)).bind fun place=>
 ((jfg z4.1 place z4.2.1)).bind fun moved=>
 ((pAt row place)).bind fun gap=>
 (((some (row)).bind fun t5=>((kf order gap)).bind fun t6=>(jT t5 t6))).bind fun lower=>
 some (moved,gap,lower)) (moved,gap,lower)).bind fun z7=>
 (((Um ([z7.2.1]:List Int) (cut z7.1 none (some (-1))))).bind fun t8=>some (t8))
@[irreducible] def kW (self:MBelow) (one:(List Int)):Option (List Int):=
 ((j3 self.order one)).bind fun _=>
 (some (one)).bind fun row=>
 (((yE 0 ((one.length:Int)-1))).bind fun l4=>L3.forM l4 row (fun row zF=>
 (((some ((cut row none (some zF)))).bind fun t2=>((q9 self.order (cut row (some zF) none))).bind fun t3=>(Um t2 t3))).bind fun row=>
 some row)).bind fun row=>
 some (row)
@[irreducible] def qp (order:MOrder) (line:(List Int)):Option Er:=
 ((((kS order line)).bind fun t1=>some ((!t1)))).bind fun q6=>bif q6 then
 (((some (line)).bind fun i3=>(jct i3).bind fun y4=>(VZ Str.empty y4).bind fun j2=>(VZ j2 (" is no line of the order":Str)).bind fun j5=>jjZ j5)).bind fun _=>some (Er.mk 4 [])
 else
 none
@[irreducible] def qS (self:MSlide) (one:(List Int)):Option Er:=
 orE ((some (self.order)).bind fun x1=>(some (one)).bind fun x2=>(qp x1 x2)) (((some (self.order)).bind fun x1=>(some (one)).bind fun x2=>(j3 x1 x2)).bind fun _=>
 none)
@[irreducible] def qr (self:MAbove) (one:(List Int)):Option Er:=
 orE ((some (self.order)).bind fun x1=>(some (one)).bind fun x2=>(qp x1 x2)) (((some (self.order)).bind fun x1=>(some (one)).bind fun x2=>(j3 x1 x2)).bind fun _=>
 none)
@[irreducible] def qt (self:MBelow) (one:(List Int)):Option Er:=
 orE ((some (self.order)).bind fun x1=>(some (one)).bind fun x2=>(qp x1 x2)) (((some (self.order)).bind fun x1=>(some (one)).bind fun x2=>(j3 x1 x2)).bind fun _=>
 none)
@[irreducible] def y3 (self:MSlide) (one:(List Int)):Option Unit:=
 none
@[irreducible] def qh (self:MSlide) (one:(List Int)):Option Er:=
 orE ((some (self.order)).bind fun x1=>(some (one)).bind fun x2=>(qp x1 x2)) (((some (self.order)).bind fun x1=>(some (one)).bind fun x2=>(j3 x1 x2)).bind fun _=>
 none)
@[irreducible] def y6 (self:MAbove) (one:(List Int)):Option Unit:=
 none
@[irreducible] def qi (self:MAbove) (one:(List Int)):Option Er:=
 (some (self)).bind fun x1=>(some (one)).bind fun x2=>(qr x1 x2)
@[irreducible] def y7 (self:MBelow) (one:(List Int)):Option Unit:=
 none
@[irreducible] def qj (self:MBelow) (one:(List Int)):Option Er:=
 (some (self)).bind fun x1=>(some (one)).bind fun x2=>(qt x1 x2)
@[irreducible] def zC (turn:(MSlide ⊕ (MAbove ⊕ MBelow))) (one:(List Int)):Option Unit:=
 none
@[irreducible] def qB (turn:(MSlide ⊕ (MAbove ⊕ MBelow))) (one:(List Int)):Option Er:=
 (some (([one]:List (List Int)))).bind fun circle=>
 (Sum.elim (fun o1=>(some (o1)).bind fun x1=>(some (one)).bind fun x2=>(qS x1 x2)) (fun o2=>(Sum.elim (fun o3=>(some (o3)).bind fun x1=>(some (one)).bind fun x2=>(qr x1 x2)) (fun o4=>(some (o4)).bind fun x1=>(some (one)).bind fun x2=>(qt x1 x2)) o2)) turn)
@[irreducible] def yA (turn:(MSlide ⊕ (MAbove ⊕ MBelow))) (ones:(List (List Int))):Option Unit:=
 none
@[irreducible] def qm (turn:(MSlide ⊕ (MAbove ⊕ MBelow))) (ones:(List (List Int))):Option Er:=
 (some (([]:List Int))).bind fun found=>
 (some (([]:(List ((List Int)×Int))))).bind fun gone_through=>
 (Z4 ones (found,gone_through) (fun z4 one=>
 bif (!isK one z4.2) then
 ((some (turn)).bind fun x1=>(some (one)).bind fun x2=>(qB x1 x2)).bind fun y=>some (.rt y)
 else
 some (.nx (z4.1,z4.2)))).bind fun x_=>x_.el (fun c_=>some c_) (fun z6=>
 none)
@[irreducible] def zo (turn:(MSlide ⊕ (MAbove ⊕ MBelow))) (one:(List Int)) (which:Int):Option (Str×Int×Bool×Bool×Bool):=
 (some (((("told":Str),0):(Str×Int)))).bind fun told=>
 (((bif (decide (which=0)) then ((Sum.elim (fun o1=>(some (o1)).bind fun x1=>(some (one)).bind fun x2=>(qS x1 x2)) (fun o2=>(Sum.elim (fun o3=>(some (o3)).bind fun x1=>(some (one)).bind fun x2=>(qr x1 x2)) (fun o4=>(some (o4)).bind fun x1=>(some (one)).bind fun x2=>(qt x1 x2)) o2)) turn)) else (bif (decide (which=1)) then ((Sum.elim (fun o5=>(some (o5)).bind fun x1=>(some (one)).bind fun x2=>(qh x1 x2)) (fun o6=>(Sum.elim (fun o7=>(some (o7)).bind fun x1=>(some (one)).bind fun x2=>(qi x1 x2)) (fun o8=>(some (o8)).bind fun x1=>(some (one)).bind fun x2=>(qj x1 x2)) o6)) turn)) else (bif (decide (which=2)) then ((some (turn)).bind fun x1=>(some (one)).bind fun x2=>(qB x1 x2)) else ((some (turn)).bind fun x1=>(some (([one]:List (List Int)))).bind fun x2=>(qm x1 x2)))))).bind fun er_=>bif !Wn [3] er_&&Wn [4] er_ then ((some (("line":Str))).bind fun t9=>(some (0)).bind fun t10=>(((some er_).bind fun er_=>some (Wn [0,1,2,3,4] er_))).bind fun t11=>(((some er_).bind fun er_=>some (Wn [0,1,2,3,4] er_))).bind fun t12=>(((some er_).bind fun er_=>some (Wn [3] er_))).bind fun t13=>some ((t9,t10,t11,t12,t13))) else none).bind fun told=>
 some (told)
@[irreducible] def ZC (script:(List Int)):Option Bool:=
 ((JX script 9)).bind fun z1=>
 ((G6 z1.1 z1.2)).bind fun under_here=>
 ((xq z1.1 z1.2)).bind fun order=>
 ((Uc under_here script 26)).bind fun line_here=>
 (((some (under_here)).bind fun t2=>((zN script 2)).bind fun t3=>(xr t2 t3))).bind fun bad=>
 ((((((xt order)).bind fun t4=>some ((Sum.inl t4:(MGreat ⊕ (MSlide ⊕ (MAbove ⊕ MBelow))))))).bind fun t19=>(((((((xV order)).bind fun t5=>some ((Sum.inl t5:(MSlide ⊕ (MAbove ⊕ MBelow)))))).bind fun t6=>some ((Sum.inr t6:(MGreat ⊕ (MSlide ⊕ (MAbove ⊕ MBelow))))))).bind fun t17=>(((((((((xW order)).bind fun t7=>some ((Sum.inl t7:(MAbove ⊕ MBelow))))).bind fun t8=>some ((Sum.inr t8:(MSlide ⊕ (MAbove ⊕ MBelow)))))).bind fun t9=>some ((Sum.inr t9:(MGreat ⊕ (MSlide ⊕ (MAbove ⊕ MBelow))))))).bind fun t15=>(((((((((xX order)).bind fun t10=>some ((Sum.inr t10:(MAbove ⊕ MBelow))))).bind fun t11=>some ((Sum.inr t11:(MSlide ⊕ (MAbove ⊕ MBelow)))))).bind fun t12=>some ((Sum.inr t12:(MGreat ⊕ (MSlide ⊕ (MAbove ⊕ MBelow))))))).bind fun t13=>(some ([]:List (MGreat ⊕ (MSlide ⊕ (MAbove ⊕ MBelow))))).bind fun t14=>some (t13::t14)).bind fun t16=>some (t15::t16)).bind fun t18=>some (t17::t18)).bind fun t20=>some (t19::t20))).bind fun turns=>
 (Z4 (VU turns) () (fun (_:Unit) z28=>
 ((((Sum.elim (fun o30=>some true) (fun o31=>Sum.elim (fun o32=>some false) (fun o33=>Sum.elim (fun o34=>some false) (fun o35=>some false) o33) o31) z28.2)).bind fun t60=>(((Sum.elim (fun o36=>some false) (fun o37=>Sum.elim (fun o38=>some true) (fun o39=>Sum.elim (fun o40=>some false) (fun o41=>some false) o39) o37) z28.2)).bind fun t58=>(((Sum.elim (fun o42=>some false) (fun o43=>Sum.elim (fun o44=>some false) (fun o45=>Sum.elim (fun o46=>some true) (fun o47=>some false) o45) o43) z28.2)).bind fun t56=>(((Sum.elim (fun o48=>some false) (fun o49=>Sum.elim (fun o50=>some false) (fun o51=>Sum.elim (fun o52=>some false) (fun o53=>some true) o51) o49) z28.2)).bind fun t54=>(some ([]:List Bool)).bind fun t55=>some (t54::t55)).bind fun t57=>some (t56::t57)).bind fun t59=>some (t58::t59)).bind fun t61=>some (t60::t61))).bind fun kinds=>
 (((((some (kinds)).bind fun t65=>((((yE 0 4)).bind fun l64=>xh l64 (fun _=>some true) (fun k_=>some ((decide (z28.1=k_)))))).bind fun t66=>some ((!jb2 t65 t66)))).bind fun q=>bif q then some true else (((Sum.elim (fun o67=>some true) (fun o68=>Sum.elim (fun o69=>some true) (fun o70=>Sum.elim (fun o71=>some true) (fun o72=>some true) o70) o68) z28.2)).bind fun t73=>some ((!t73))))).bind fun q107=>bif q107 then
 (some (false)).bind fun y=>some (.rt y)
 else
 (((some (line_here)).bind fun t74=>(some (under_here)).bind fun t75=>((zN script (3+z28.1))).bind fun t76=>(yt t74 t75 t76))).bind fun one=>
 (some ((("line":Str),0,true,true,false))).bind fun due=>
 (some (line_here)).bind fun good=>
 bif (decide (z28.1=0)) then
 (some (bad)).bind fun one=>
 (some ((("downset":Str),bad,true,true,false))).bind fun due=>
 ((z_ (cut line_here none (some 1)))).bind fun good=>
 Sum.elim (fun o77=>((qd o77 good)).bind fun told=>
 ((((((((((yE 0 4)).bind fun l82=>xh l82 (fun _=>some true) (fun which=>(((Vn o77 one which)).bind fun t80=>(some (due)).bind fun t81=>some ((jb2 t80 t81)))))).bind fun t83=>some ((t83.all id)))).bind fun t84=>some ((!t84)))).bind fun q=>bif q then some true else (((qd o77 good)).bind fun t85=>(some (told)).bind fun t86=>some ((!decide (t85=t86)))))).bind fun q87=>bif q87 then
 (some (false)).bind fun y=>some (.rt y)
 else
 some (.nx ())) (fun _=>none) z28.2
 else
 Sum.elim (fun _=>none) (fun o88=>((Sum.elim (fun o89=>(kT o89 good)) (fun o90=>(Sum.elim (fun o91=>(kU o91 good)) (fun o92=>(kW o92 good)) o90)) o88)).bind fun told=>
 ((((((((((yE 0 4)).bind fun l97=>xh l97 (fun _=>some true) (fun which=>(((zo o88 one which)).bind fun t95=>(some (due)).bind fun t96=>some ((jb2 t95 t96)))))).bind fun t98=>some ((t98.all id)))).bind fun t99=>some ((!t99)))).bind fun q=>bif q then some true else (((Sum.elim (fun o100=>(kT o100 good)) (fun o101=>(Sum.elim (fun o102=>(kU o102 good)) (fun o103=>(kW o103 good)) o101)) o88)).bind fun t104=>(some (told)).bind fun t105=>some ((!jb2 t104 t105))))).bind fun q106=>bif q106 then
 (some (false)).bind fun y=>some (.rt y)
 else
 some (.nx ())) z28.2)).bind fun x_=>x_.el (fun c_=>some c_) (fun _=>
 some (true))
end Lw
namespace MM
open PySem L2 L3 M01
theorem forM_map (c:γ->α):∀ (l:List γ) (b:β),L3.forM (l.map c) b f=L3.forM l b (fun b x=>f b (c x))
 | [],_=>rfl
 | x::r,b=>by
  rw[List.map_cons,forM_cons,forM_cons];congr 1
  funext b'
  exact forM_map c r b'
theorem Wv (c:γ->β) (g:γ->α->γ):∀ {l:List α}{b:γ},(∀ b,∀ x∈l,f (c b) x=some (c (g b x)))->L3.forM l (c b) f=some (c (l.foldl g b))
 | [],_,_=>rfl
 | x::r,b,h=>by
  rw[forM_cons,h b x List.mem_cons_self,bs,List.foldl_cons];exact Wv c g fun b y hy=>h b y (List.mem_cons_of_mem _ hy)
theorem forM_cast (c:γ->β) (g:γ->α->γ) (b:γ) (e:b0=c b) (h:∀ b,∀ x∈l,f (c b) x=some (c (g b x))):L3.forM l b0 f=some (c (l.foldl g b)):=by
 rw[e];exact Wv c g h
theorem eq_of_bits {a b:Nat} (ha:a<2 ^ n) (hb:b<2 ^ n) (h:∀ t,t<n->a.testBit t=b.testBit t):a=b:=by
 refine Nat.eq_of_testBit_eq fun i=>?_;by_cases hi:i<n
 ·exact h i hi
 ·rw[Nat.testBit_lt_two_pow (Nat.lt_of_lt_of_le ha (Nat.pow_le_pow_right (by decide) (by omega))),Nat.testBit_lt_two_pow (Nat.lt_of_lt_of_le hb (Nat.pow_le_pow_right (by decide) (by omega)))]
end MM
namespace Lw
open PySem L2 L3 M01
def zp (P:List (Nat×Nat)):List (Int×Int):=P.map fun p=>((p.1:Int),(p.2:Int))
theorem Ud (P:List (Nat×Nat)):(zp P).length=P.length:=by simp[zp]
theorem jbE (P Q:List (Nat×Nat)):zp (P++Q)=zp P++zp Q:=by simp[zp]
def zn (l:List Nat):List Int:=l.map fun t=>((t:Nat):Int)
theorem j8 (l:List Nat):(zn l).length=l.length:=by simp[zn]
theorem jiP {l:List Nat}{t:Nat} (h:t<l.length):pAt (zn l) (t:Int)=some ((l.getD t 0:Nat):Int):=by
 refine MM.at_nat ?_;unfold zn;rw[Xy,X9,Xe h];rfl
def ths (n b:Nat):List Nat:=(List.range n).filter fun t=>b.testBit t
theorem jiQ (n b:Nat):(ths n b).length<=n:=by
 have:=wY (fun t=>b.testBit t) (List.range n);rw[XJ] at this;exact this
theorem jeM {b t:Nat} (h:t∈ths n b):t<n/\b.testBit t=true:=by
 obtain⟨h1,h2⟩:=XX.mp h;exact⟨Xu.mp h1,h2⟩
theorem mem_ths {b t:Nat}:t∈ths n b ↔ t<n/\b.testBit t=true:=by
 unfold ths;rw[XX,Xu]
theorem ZD {f:Unit->α->Option Unit}:∀ {l:List α},(∀ x∈l,f () x=some ())->L3.forM l () f=some ()
 | [],_=>rfl
 | x::r,h=>by
  rw[MM.forM_cons,h x Xi,MM.bs];exact ZD fun y hy=>h y (Xf _ hy)
theorem jkd (l:List Nat) (f:Nat->Bool):(l.map f).all id=l.all f:=by
 rw[List.all_map];rfl
theorem ZE (l:List Nat) (f:Nat->Nat) (a i:Nat):(l.foldl (fun a t=>a ||| f t) a).testBit i=(a.testBit i||l.any fun t=>(f t).testBit i):=by
 induction l generalizing a with
 | nil=>simp
 | cons x r ih=>rw[List.foldl_cons,ih,Nat.testBit_or,List.any_cons,Bool.or_assoc]
theorem jlY (h9:n<=9):2 ^ n<=512:=by
 have:2 ^ n<=2 ^ 9:=Nat.pow_le_pow_right (by decide) h9;exact this
structure Drawn (r:Option (Int×List (Int×Int))) (n:Nat) (P:List (Nat×Nat)):Prop where
 e:r=some ((n:Int),zp P)
 n1:1<=n
 n9:n<=9
 ok:Ok P n
 len:P.length<=1000
theorem jbF:Ok [] n:=fun p h=>by cases h
theorem jbG {Q:List (Nat×Nat)} (h:Ok P n) (h':Ok Q n):Ok (P++Q) n:=fun p hp=>(List.mem_append.mp hp).elim (h p) (h' p)
theorem jbH {a b:Nat} (h:a<b) (h':b<n):Ok [(a,b)] n:=fun p hp=>by
 have:p=(a,b):=by simpa using hp
 subst this;exact⟨h,h'⟩
theorem jhy {f:Nat->α} (h:j<n):pAt ((List.range n).map f) (j:Int)=some (f j):=by
 refine MM.at_nat ?_;rw[Xy,List.getElem?_range h];rfl
theorem jeN (h:i<n):ixN n (i:Int)=some i:=by
 unfold ixN;rw[if_pos (by omega),if_pos (by omega),kb]
def bl (P:List (Nat×Nat)) (n i j:Nat):Bool:=((bel P n).getD j 0).testBit i
theorem Ww (o:Ok P n) (hj:j<n):bl P n i j=true ↔ Lt P i j:=jdB o j n hj i
theorem Vo {t:Nat} (h:t<n):pAt (zn (bel P n)) (t:Int)=some (((bel P n).getD t 0:Nat):Int):=jiP (by rw[GW]; exact h)
theorem Vp {b t:Nat} (o:Ok P n) (ht:t<n):(b &&& (bel P n).getD t 0=(bel P n).getD t 0) ↔ ∀ s,s<n->bl P n s t=true->b.testBit s=true:=by
 constructor
 ·intro h s hs hb;unfold bl at hb;rw[<- h,Nat.testBit_and,XB] at hb;exact hb.1
 ·intro h;refine Nat.eq_of_testBit_eq fun i=>?_;rw[Nat.testBit_and];cases hb:((bel P n).getD t 0).testBit i with
  | false=>simp
  | true=>
   have:=Lt.lt o ((jdB o t n ht i).mp hb);rw[h i (by omega) hb];rfl
def cvB (P:List (Nat×Nat)) (n l h:Nat):Bool:=bl P n l h&&!((List.range (h-(l+1))).any fun d=>bl P n (l+1+d) h&&bl P n l (l+1+d))
def cvL (P:List (Nat×Nat)) (n l:Nat):List (Nat×Nat):=(((List.range (n-(l+1))).map fun d=>l+1+d).filter fun h=>cvB P n l h).map fun h=>(l,h)
def cvs (P:List (Nat×Nat)) (n:Nat):List (Nat×Nat):=(List.range n).flatMap (cvL P n)
def dsB (P:List (Nat×Nat)) (n b:Nat):Bool:=decide (b<2 ^ n)&&(ths n b).all fun t=>decide (b &&& (bel P n).getD t 0=(bel P n).getD t 0)
theorem jiR {S:List Nat} (h:0<S.length):pAt (zn S) (-1)=some ((S.getD (S.length-1) 0:Nat):Int):=by
 obtain⟨s,b,rfl⟩:∃ s b,S=s++[b]:=⟨S.dropLast,S.getLast (by intro e; rw[e] at h; simp at h),(List.dropLast_concat_getLast _).symm⟩;unfold pAt;have:zn (s++[b])=zn s++[(b:Int)]:=by simp[zn]
 rw[this,jfE];simp
theorem getD_mem {S:List Nat} (h:j<S.length):S.getD j 0∈S:=by
 rw[X9,Xe h];exact List.getElem_mem h
theorem G_ (f:Nat->Nat):∀ {A B:List Nat},A.Nodup->(∀ x∈A,f x∈B)->(∀ x∈A,∀ y∈A,f x=f y->x=y)->A.length<=B.length
 | [],_,_,_,_=>wH _
 | a::r,B,hA,hm,hi=>by
  obtain⟨ha,hr⟩:=List.nodup_cons.mp hA;have h1:=hm a Xi;have h2:=G_ f (A:=r) (B:=B.erase (f a)) hr (fun x hx=>(List.mem_erase_of_ne (fun e=>ha (hi x (Xf _ hx) a Xi e ▸ hx))).mpr (hm x (Xf _ hx))) fun x hx y hy=>hi x (Xf _ hx) y (Xf _ hy);rw[List.length_erase_of_mem h1] at h2;have:0<B.length:=List.length_pos_of_mem h1;rw[Xm];omega
def bN (n:Nat) (p:Nat->Bool):Nat:=(((List.range n).filter p).map fun i=>2 ^ i).sum
theorem jke (n:Nat) (p:Nat->Bool):bN n p<2 ^ n:=(MB.sum_bits p n).1
theorem jhz {p:Nat->Bool}{t:Nat} (h:t<n):(bN n p).testBit t=p t:=(MB.sum_bits p n).2 t h
theorem jhA {b:Nat} (o:Ok P n):dsB P n b=true ↔ b<2 ^ n/\∀ s t,t<n->b.testBit t=true->bl P n s t=true->b.testBit s=true:=by
 unfold dsB;rw[XB,Xs,wz];refine and_congr_right fun hb=>⟨fun h s t ht hbt hst=>?_,fun h t ht=>?_⟩
 ·have:=wJ (h t (mem_ths.mpr ⟨ht,hbt⟩));rw[Vp o ht] at this;have hlt:=Lt.lt o ((Ww o ht).mp hst);exact this s (by omega) hst
 ·obtain⟨h1,h2⟩:=jeM ht;rw[Xs,Vp o h1];exact fun s _ hst=>h s t h1 h2 hst
structure Ris (L:List Nat) (n:Nat):Prop where
 up:L.Pairwise (· < ·)
 lt:∀ t∈L,t<n
namespace Ris
variable {L:List Nat}
theorem mem (R:Ris L n) {s:Nat} (h:s∈L):∃ i,i<L.length/\L.getD i 0=s:=by
 obtain⟨i,hi,e⟩:=List.mem_iff_getElem.mp h;refine⟨i,hi,?_⟩;rw[X9,Xe hi];exact e
end Ris
def Dr (P:List (Nat×Nat)) (n b:Nat):List Nat:=(List.range n).filter fun t=>!b.testBit t&&decide (b &&& (bel P n).getD t 0=(bel P n).getD t 0)
theorem Wx {b t:Nat} (o:Ok P n):t∈Dr P n b ↔ t<n/\b.testBit t=false/\∀ s,s<n->bl P n s t=true->b.testBit s=true:=by
 unfold Dr;rw[XX,Xu,XB,Bool.not_eq_true',Xs];exact and_congr_right fun h=>by rw[Vp o h]
theorem jkf {b:Nat} (o:Ok P n) (h:Dr P n b=[]):∀ t,t<n->b.testBit t=true:=by
 intro t
 induction t using Nat.strongRecOn with
 | _ t ih=>
  intro ht;cases e:b.testBit t with
  | true=>rfl
  | false=>
   have:t∈Dr P n b:=(Wx o).mpr ⟨ht,e,fun s hs hst=>ih s (Lt.lt o ((Ww o ht).mp hst)).1 hs⟩;rw[h] at this;cases this
theorem eln (b:β) (f:γ->δ) (g:β->δ):(Fl.nx b:Fl β γ).el f g=g b:=rfl
theorem mem_zn {l:List Nat}{x:Int}:x∈zn l ↔ ∃ t∈l,x=(t:Int):=by
 unfold zn;rw[wn];exact⟨fun⟨t,h,e⟩=>⟨t,h,e.symm⟩,fun⟨t,h,e⟩=>⟨t,h,e.symm⟩⟩
theorem jiS {l:List Nat}{t:Nat}:((t:Int)∈zn l) ↔ t∈l:=by
 rw[mem_zn];exact⟨fun⟨s,h,e⟩=>by
   have:t=s:=by omega
   rw[this]; exact h,fun h=>⟨t,h,rfl⟩⟩
theorem Yb {l:List Nat}{t:Nat}:jdF (t:Int) (zn l)=decide (t∈l):=by
 rw[XR,MM.isIn_iff,jiS,Xs]
theorem Yc {l:List Nat} (h:l.Nodup):(zn l).Nodup:=by
 unfold zn;rw[List.nodup_iff_pairwise_ne,List.pairwise_map];exact h.imp fun hn e=>hn (by omega)
theorem jk9 {l:List Nat} (h:l.Pairwise (· < ·)):(zn l).Pairwise (·<=·):=by
 unfold zn;rw[List.pairwise_map];exact h.imp fun hn=>by omega
theorem Yd {l:List Nat} (h:l.Pairwise (· < ·)):l.Nodup:=h.imp fun hn=>XA hn
theorem jgD {l m:List Int} (hl:l.Nodup) (hm:m.Nodup) (h:∀ x,x∈l ↔ x∈m):l.Perm m:=by
 have a:l.length<=m.length:=by
  have:∀ {l m:List Int},l.Nodup->(∀ x,x∈l->x∈m)->l.length<=m.length:=by
   intro l
   induction l with
   | nil=>intro m _ _; exact wH _
   | cons y l ih=>
    intro m nd sub;obtain⟨ny,nl⟩:=List.nodup_cons.mp nd;have hy:=sub y Xi;have:=ih (m:=m.erase y) nl fun z hz=>(List.mem_erase_of_ne (a:=z) (b:=y) (fun e=>ny (by rw[<- e]; exact hz))).mpr (sub z (Xf _ hz));rw[List.length_erase_of_mem hy] at this;have:=List.length_pos_of_mem hy;rw[Xm];omega
  exact this hl fun x hx=>(h x).mp hx
 have b:m.length<=l.length:=by
  have:∀ {l m:List Int},l.Nodup->(∀ x,x∈l->x∈m)->l.length<=m.length:=by
   intro l
   induction l with
   | nil=>intro m _ _; exact wH _
   | cons y l ih=>
    intro m nd sub;obtain⟨ny,nl⟩:=List.nodup_cons.mp nd;have hy:=sub y Xi;have:=ih (m:=m.erase y) nl fun z hz=>(List.mem_erase_of_ne (a:=z) (b:=y) (fun e=>ny (by rw[<- e]; exact hz))).mpr (sub z (Xf _ hz));rw[List.length_erase_of_mem hy] at this;have:=List.length_pos_of_mem hy;rw[Xm];omega
  exact this hm fun x hx=>(h x).mpr hx
 exact JV hm (fun z hz=>(h z).mpr hz) (by omega)
theorem jhB {l:List Int}{m:List Nat} (hl:l.Nodup) (hm:m.Pairwise (· < ·)) (h:∀ x:Int,x∈l ↔ ∃ t∈m,x=(t:Int)):srt l=zn m:=
 (jd_ (jgD (Yc (Yd hm)) hl fun x=>by rw[h x,mem_zn]) (jk9 hm)).symm
theorem jiT {l:List Int}{m:List Nat} (hm:m.Pairwise (· < ·)) (h:∀ x:Int,x∈l ↔ ∃ t∈m,x=(t:Int)) (hl:l.length<4000) (h64:m.length<64):jcg l=some (zn m):=by
 have e:=jhB (jbw l) hm fun x=>by rw[jjL]; exact h x
 have el:(dd l).length=m.length:=by rw[<- (Qk (dd l)).length_eq,e,j8]
 unfold jcg;rw[if_pos ⟨hl,by omega⟩,e]
theorem jgE {l:List Int}{m:List Nat} (hd:l.Nodup) (hm:m.Pairwise (· < ·)) (h:∀ x:Int,x∈l ↔ ∃ t∈m,x=(t:Int)) (hl:l.length<64):jf9 l=some (zn m):=by
 unfold jf9;rw[if_pos hl,jhB hd hm h]
theorem jiU {l:List Nat}{p:Int->Option Bool}{f:Int->Option β} (q:Nat->Bool) (g:Nat->β) (hl:l.length<=16777216) (hp:∀ k∈l,p (k:Int)=some (q k)) (hf:∀ k∈l,q k=true->f (k:Int)=some (g k)) :
  xh (zn l) p f=some ((l.filter q).map g):=by
 rw[MM.comp (fun x:Int=>q x.toNat) (fun x:Int=>g x.toNat) (by rw[j8]; exact hl) (fun x hx=>by
   obtain⟨t,ht,rfl⟩:=mem_zn.mp hx;rw[hp t ht]; rfl) (fun x hx e=>by
   obtain⟨t,ht,rfl⟩:=mem_zn.mp hx;rw[hf t ht e]; rfl)]
 congr 1;unfold zn;rw[List.filter_map,List.map_map];rfl
theorem jkg {l:List Nat}{f:Int->Option β} (g:Nat->β) (hl:l.length<=16777216) (hf:∀ k∈l,f (k:Int)=some (g k)):xh (zn l) (fun _=>some true) f=some (l.map g):=by
 rw[jiU (fun _=>true) g hl (fun _ _=>rfl) fun k hk _=>hf k hk,List.filter_eq_self.mpr (fun _ _=>rfl)]
theorem jkh (n b:Nat):(ths n b).Pairwise (· < ·):=(List.pairwise_lt_range).sublist List.filter_sublist
def lws (P:List (Nat×Nat)) (n h:Nat):List Nat:=(List.range n).filter fun s=>bl P n s h
def udr (P:List (Nat×Nat)) (n:Nat):List (List Int):=(List.range n).map fun h=>zn (lws P n h)
theorem jeO (P:List (Nat×Nat)) (n:Nat):(udr P n).length=n:=by simp[udr]
theorem jeP {h:Nat} (hh:h<n):pAt (udr P n) (h:Int)=some (zn (lws P n h)):=jhy hh
theorem jhC (P:List (Nat×Nat)) (n h:Nat):(lws P n h).Pairwise (· < ·):=(List.pairwise_lt_range).sublist List.filter_sublist
theorem Ye (P:List (Nat×Nat)) (n h:Nat):(lws P n h).length<=n:=by
 have:=wY (fun s=>bl P n s h) (List.range n);rw[XJ] at this;exact this
theorem mem_lws {h t:Nat}:t∈lws P n h ↔ t<n/\bl P n t h=true:=by
 unfold lws;rw[XX,Xu]
theorem Uo (o:Ok P n) (hj:j<n) (h:bl P n i j=true):i<j:=(((Ww o hj).mp h).lt o).1
theorem zq {h t:Nat} (o:Ok P n) (hh:h<n):t∈lws P n h ↔ bl P n t h=true:=by
 rw[mem_lws];exact⟨fun z=>z.2,fun z=>⟨Nat.lt_trans (Uo o hh z) hh,z⟩⟩
theorem jaM {a c:Nat} (o:Ok P n) (hc:c<n):bl P n a c=true ↔ ∃ p∈P,p.2=c/\(a=p.1 \/ bl P n a p.1=true):=by
 rw[Ww o hc,Lt.last];constructor
 ·rintro⟨p,hp,e,h⟩;obtain⟨h1,h2⟩:=o p hp;refine⟨p,hp,e,?_⟩;rcases h with h | h
  ·exact .inr ((Ww o (by omega)).mpr h)
  ·exact .inl h.symm
 ·rintro⟨p,hp,e,h⟩;obtain⟨h1,h2⟩:=o p hp;refine⟨p,hp,e,?_⟩;rcases h with h | h
  ·exact .inr h.symm
  ·exact .inl ((Ww o (by omega)).mp h)
theorem jk_ {b:Nat} (hd:dsB P n b=true):b<2 ^ n:=by
 unfold dsB at hd;rw[XB] at hd;exact wJ hd.1
theorem jeQ {b:Nat} (hb:b<2 ^ n):((ths n b).map fun t=>2 ^ t).sum=b:=
 MM.eq_of_bits (jke n fun t=>b.testBit t) hb fun t ht=>jhz ht
theorem Qt {t:Nat} (o:Ok P n) (ht:t<n):bl P n t t=false:=by
 cases h:bl P n t t with
 | false=>rfl
 | true=>exact absurd (Uo o ht h) (Nat.lt_irrefl _)
def gr (P:List (Nat×Nat)) (n b:Nat):Nat:=bN n fun s=>(Dr P n b).any fun t=>decide (s=t)||bl P n s t
theorem jki {b s:Nat} (hs:s<n):(gr P n b).testBit s=true ↔ ∃ t∈Dr P n b,s=t \/ bl P n s t=true:=by
 unfold gr;rw[jhz hs,List.any_eq_true];simp only[Bool.or_eq_true,Xs]
theorem jgF {l:List Nat} (h:∀ t∈l,t<n):MB.setN l<2 ^ n:=by
 refine Nat.lt_pow_two_of_testBit _ fun i hi=>?_;rw[MB.setN_bit];exact Xp fun hm=>by have:=h i hm; omega
theorem jla {b:Nat} (o:Ok P n):(Dr P n b).foldl (fun a t=>a ||| (bel P n).getD t 0) (MB.setN (Dr P n b))=gr P n b:=by
 have hdl:∀ t∈Dr P n b,t<n:=fun t ht=>((Wx o).mp ht).1;have bit:∀ i,((Dr P n b).foldl (fun a t=>a ||| (bel P n).getD t 0) (MB.setN (Dr P n b))).testBit i=(decide (i∈Dr P n b)||(Dr P n b).any fun t=>bl P n i t):=fun i=>by
  rw[ZE,MB.setN_bit];rfl
 refine MM.eq_of_bits (Nat.lt_pow_two_of_testBit _ fun i hi=>?_) (jke _ _) fun s hs=>?_
 ·rw[bit,Bool.or_eq_false_iff];refine⟨Xp fun hm=>by have:=hdl i hm; omega,List.any_eq_false.mpr fun t ht=>?_⟩;intro hz;have:=Uo o (hdl t ht) hz;have:=hdl t ht;omega
 ·rw[bit];show _=(gr P n b).testBit s;rw[XR,jki hs,Bool.or_eq_true,Xs,List.any_eq_true];constructor
  ·rintro (h | ⟨t,ht,h⟩)
   ·exact⟨s,h,.inl rfl⟩
   ·exact⟨t,ht,.inr h⟩
  ·rintro⟨t,ht,rfl | h⟩
   ·exact .inl ht
   ·exact .inr ⟨t,ht,h⟩
theorem jeR {b:Nat}:ths n (MB.setN (Dr P n b))=Dr P n b:=by
 unfold ths
 conv=>rhs; unfold Dr
 refine List.filter_congr fun t ht=>?_;rw[MB.setN_bit,XR,Xs];unfold Dr;rw[XX];exact and_iff_right ht
theorem jeS {b t:Nat}{L:List Nat} (o:Ok P n) (h9:n<=9) (ht:t<n) (hL:∀ s,s<n->(s∈L ↔ b.testBit s=true)) :
  (bif (!jdF (t:Int) (zn L)) then ((((pAt (udr P n) (t:Int)).bind fun l4=>xh l4 (fun _=>some true) (fun low=>some (jdF low (zn L))))).bind fun t5=>some (t5.all id)) else some false)=some (decide (t∈Dr P n b)):=by
 have hll:=Ye P n t;rw[Yb,jeP ht];simp only[MM.bs];cases hb:b.testBit t with
 | true=>
  rw[Xl ((hL t ht).mpr hb),XE,MM.cf,Xp fun z=>by rw[((Wx o).mp z).2.1] at hb; cases hb]
 | false=>
  rw[Xp (fun z=>by rw[(hL t ht).mp z] at hb; cases hb),wt,MM.ct,jkg (fun s=>decide (s∈L)) (by omega) (fun s hs=>by rw[Yb])];simp only[MM.bs];congr 1;rw[XR,Xs,List.all_map,wz,Wx o];constructor
  ·intro h;refine⟨ht,hb,fun s hs hst=>?_⟩;have:=h s (mem_lws.mpr ⟨hs,hst⟩);exact(hL s hs).mp (by simpa using this)
  ·rintro⟨_,_,h⟩ s hs;obtain⟨h1,h2⟩:=mem_lws.mp hs;simp[(hL s h1).mpr (h s h1 h2)]
theorem jeT {c:β->Option Bool}{f:β->Option β} (I:Nat->β->Prop) {R:β->Prop} (h:∀ k b,I k b->(c b=some false/\R b) \/ (c b=some true/\∃ b' k',f b=some b'/\k'<k/\I k' b')):∀ (m k:Nat) (b:β),k<m->I k b->∃ b',whM c f m b=some b'/\R b'
 | 0,k,b,hk,_=>absurd hk (Nat.not_lt_zero _)
 | m+1,k,b,hk,hI=>by
  rcases h k b hI with⟨h1,h2⟩ | ⟨h1,b',k',h2,h3,h4⟩
  ·exact⟨b,by rw[whM,h1,MM.bs,MM.cf],h2⟩
  ·obtain⟨b1,e1,r1⟩:=jeT I h m k' b' (by omega) h4;exact⟨b1,by rw[whM,h1,MM.bs,MM.ct,h2,MM.bs]; exact e1,r1⟩
theorem Yf {c:β->Option Bool}{f:β->Option β}{T:Option δ->Prop}{b:β} (I:Nat->β->Prop) (R:β->Prop) (k:Nat) (hk:k<100000) (hI:I k b)
  (h:∀ k b,I k b->(c b=some false/\R b) \/ (c b=some true/\∃ b' k',f b=some b'/\k'<k/\I k' b')) (hT:∀ b,R b->T (kk b)):T ((pWh c f b).bind kk):=by
 obtain⟨b',e,r⟩:=jeT I h 100000 k b hk hI;unfold pWh;rw[e,MM.bs];exact hT b' r
theorem jcw {f:β->α->Option (Fl β γ)}{kk:Fl β γ->Option δ}{R:Option δ->Prop} (I:Nat->β->Prop) (h0:I 0 b0) (hs:∀ k x b,l[k]?=some x->I k b->∃ b',f b x=some (.nx b')/\I (k+1) b')
  (hk:∀ b,I l.length b->R (kk (.nx b))):R ((Z4 l b0 f).bind kk):=by
 obtain⟨b',e,h⟩:=MM.forR_inv I h0 hs;rw[e,MM.bs];exact hk b' h
structure Ln (P:List (Nat×Nat)) (n:Nat) (l:List Nat):Prop where
 nd:l.Nodup
 mem:∀ t,t∈l ↔ t<n
 pw:l.Pairwise fun x y=>bl P n y x=false
theorem Ln.len {l:List Nat} (h:Ln P n l):l.length=n:=by
 have a:=G_ id h.nd (fun x hx=>Xu.mpr ((h.mem x).mp hx)) (fun _ _ _ _ e=>e);have b:=G_ id (List.nodup_range (n:=n)) (fun x hx=>(h.mem x).mpr (Xu.mp hx)) (fun _ _ _ _ e=>e);rw[XJ] at a b;omega
theorem Ln.before {l a c:List Nat}{s t:Nat} (h:Ln P n l) (o:Ok P n) (e:l=a++t::c) (hb:bl P n s t=true):s∈a:=by
 have ht:t<n:=(h.mem t).mp (by rw[e]; simp);have hs:s<n:=Nat.lt_trans (Uo o ht hb) ht;have hm:=(h.mem s).mpr hs;rw[e] at hm;have pw:=h.pw;rw[e,X7] at pw;rcases List.mem_append.mp hm with hm | hm
 ·exact hm
 ·rcases Xk.mp hm with rfl | hm
  ·rw[Qt o ht] at hb; cases hb
  ·rw[(ww.mp pw.2.1).1 s hm] at hb; cases hb
theorem jeU {l:List Nat} (h:i+1<l.length):∃ a x y c,l=a++x::y::c/\a.length=i:=
 ⟨l.take i,l[i],l[i+1],l.drop (i+2),by rw[<- wZ h,<- wZ,List.take_append_drop],by rw[wT]; omega⟩
def swp (P:List (Nat×Nat)) (n:Nat) (l:List Nat) (i:Nat):List Nat:=if bl P n (l.getD i 0) (l.getD (i+1) 0)=true then l else (l.set i (l.getD (i+1) 0)).set (i+1) (l.getD i 0)
theorem jkj {a c:List Nat}{x:Nat}:(a++x::c).getD a.length 0=x:=by simp
theorem jkk {a c:List Nat}{x y:Nat}:(a++x::y::c).getD (a.length+1) 0=y:=by simp
theorem jlb {a c:List Nat}{x y:Nat}:((a++x::y::c).set a.length y).set (a.length+1) x=a++y::x::c:=by
 simp[List.set_append]
theorem jbI {a c:List Nat}{x y:Nat}:swp P n (a++x::y::c) a.length=if bl P n x y=true then a++x::y::c else a++y::x::c:=by
 unfold swp;rw[jkj,jkk,jlb]
theorem Ln.exch {a c:List Nat}{x y:Nat} (h:Ln P n (a++x::y::c)) (hb:bl P n x y=false):Ln P n (a++y::x::c):=by
 have pm:(a++y::x::c).Perm (a++x::y::c):=List.Perm.append_left _ (List.Perm.swap _ _ _);obtain⟨nd,mem,pw⟩:=h;refine⟨pm.nodup_iff.mpr nd,fun t=>(pm.mem_iff).trans (mem t),?_⟩;rw[X7] at pw ⊢;obtain⟨h1,h2,h3⟩:=pw;rw[ww,ww] at h2;obtain⟨h4,h5,h6⟩:=h2;refine⟨h1,?_,fun p hp q hq=>h3 p hp q ?_⟩
 ·rw[ww,ww];refine⟨fun q hq=>?_,fun q hq=>h4 q (Xf _ hq),h6⟩;rcases Xk.mp hq with rfl | hq
  ·exact hb
  ·exact h5 q hq
 ·rcases Xk.mp hq with rfl | hq
  ·exact Xf _ Xi
  ·rcases Xk.mp hq with rfl | hq
   ·exact Xi
   ·exact Xf _ (Xf _ hq)
theorem Ln.swp {l:List Nat} (h:Ln P n l) (hi:i+1<n):Ln P n (swp P n l i):=by
 obtain⟨a,x,y,c,e,rfl⟩:=jeU (l:=l) (i:=i) (by rw[h.len]; exact hi);subst e;rw[jbI];split
 ·exact h
 ·rename_i hb
  exact h.exch (by simpa using hb)
theorem ZF:cut l none (some (i:Int))=l.take i:=by
 unfold cut;rw[HT.sIx_none,HT.sIx_nat,List.drop_zero,Nat.sub_zero];by_cases h:i<=l.length
 ·rw[Nat.min_eq_left h]
 ·rw[Nat.min_eq_right (by omega),wR (Xh _),wR (by omega)]
theorem JD:cut l (some (i:Int)) none=l.drop i:=by
 unfold cut;rw[HT.sIx_none,HT.sIx_nat];by_cases h:i<=l.length
 ·rw[Nat.min_eq_left h,wR (by rw[wF]; omega)]
 ·rw[Nat.min_eq_right (by omega),Nat.sub_self,List.take_zero,List.drop_eq_nil_of_le (by omega)]
theorem ZG (l m:List Nat):zn (l++m)=zn l++zn m:=by simp[zn]
theorem jiV (t:Nat) (l:List Nat):zn (t::l)=(t:Int)::zn l:=rfl
theorem QZ (l:List Nat) (i:Nat):(zn l).take i=zn (l.take i):=by simp[zn,List.map_take]
theorem Q0 (l:List Nat) (i:Nat):(zn l).drop i=zn (l.drop i):=by simp[zn,List.map_drop]
theorem jaN {a c:List Nat}{x:Nat}:pAt (zn (a++x::c)) ((a.length:Nat):Int)=some (x:Int):=MM.at_nat (by simp[zn])
theorem jgG (h9:n<=100):jar (n:Int)=some (zn (List.range n)):=by
 unfold jar;rw[if_pos ⟨⟨by omega,by omega⟩,by omega⟩];unfold JH;rw[Int.sub_zero,kb];congr 1;unfold zn;refine List.map_congr_left fun k _=>?_;omega
theorem ZH (f:α->List β) (k:Nat):∀ l:List α,(∀ x∈l,(f x).length<=k)->(l.flatMap f).length<=l.length * k
 | [],_=>by simp
 | a::l,h=>by
  have h1:=h a Xi;have h2:=ZH f k l fun x hx=>h x (Xf _ hx);rw[List.flatMap_cons,Xj,Xm,Nat.succ_mul];omega
theorem UK (P:List (Nat×Nat)) (h9:n<=9):(cvs P n).length<=81:=by
 unfold cvs;have:=ZH (cvL P n) n (List.range n) fun x _=>by
  unfold cvL;rw[Xr];have:=wY (fun h=>cvB P n x h) ((List.range (n-(x+1))).map fun d=>x+1+d);rw[Xr,XJ] at this;omega
 rw[XJ] at this;have:n * n<=9 * 9:=Nat.mul_le_mul h9 h9;omega
theorem jeV {l h:Nat} (o:Ok P n):(l,h)∈cvs P n ↔ h<n/\bl P n l h=true/\∀ m,bl P n l m=true->bl P n m h=false:=by
 unfold cvs;rw[List.mem_flatMap];constructor
 ·rintro⟨x,hx,hm⟩;unfold cvL at hm;obtain⟨y,hy,e⟩:=wn.mp hm;obtain⟨h1,h2⟩:=XX.mp hy;obtain⟨d,hd,e2⟩:=wn.mp h1;have:=Xu.mp hd;injection e with e3 e4
  subst e3; subst e4; subst e2;unfold cvB at h2;rw[XB,Bool.not_eq_true',List.any_eq_false] at h2;refine⟨by omega,h2.1,fun m hm1=>?_⟩;cases hz:bl P n m (x+1+d) with
  | false=>rfl
  | true=>
   have l2:=Uo o (by omega) hz;have l1:=Uo o (by omega) hm1;have:=h2.2 (m-(x+1)) (Xu.mpr (by omega));have em:x+1+(m-(x+1))=m:=by omega
   rw[em,hz,hm1] at this;simp at this
 ·rintro⟨hh,hb,hm⟩;have lt:=Uo o hh hb;refine⟨l,Xu.mpr (by omega),?_⟩;unfold cvL;refine wn.mpr ⟨h,XX.mpr ⟨wn.mpr ⟨h-(l+1),Xu.mpr (by omega),by omega⟩,?_⟩,rfl⟩;unfold cvB;rw[XB,Bool.not_eq_true',List.any_eq_false];refine⟨hb,fun d hd=>?_⟩;rw[XB];rintro⟨z1,z2⟩;rw[hm _ z2] at z1; cases z1
def ja (P:List (Nat×Nat)) (n g:Nat):List Nat:=((cvs P n).filter fun p=>decide (p.1=g)).map (·.2)
def jw (P:List (Nat×Nat)) (n g:Nat):List Nat:=((cvs P n).filter fun p=>decide (p.2=g)).map (·.1)
theorem jeW {h:Nat} (o:Ok P n):h∈ja P n g ↔ h<n/\bl P n g h=true/\∀ m,bl P n g m=true->bl P n m h=false:=by
 unfold ja;rw[<- jeV o,wn];constructor
 ·rintro⟨p,hp,rfl⟩;obtain⟨h1,h2⟩:=XX.mp hp;have:p.1=g:=wJ h2;subst this;exact h1
 ·intro h1;exact⟨(g,h),XX.mpr ⟨h1,Xl rfl⟩,rfl⟩
theorem jeX {l:Nat} (o:Ok P n):l∈jw P n g ↔ g<n/\bl P n l g=true/\∀ m,bl P n l m=true->bl P n m g=false:=by
 unfold jw;rw[<- jeV o,wn];constructor
 ·rintro⟨p,hp,rfl⟩;obtain⟨h1,h2⟩:=XX.mp hp;have:p.2=g:=wJ h2;subst this;exact h1
 ·intro h1;exact⟨(l,g),XX.mpr ⟨h1,Xl rfl⟩,rfl⟩
structure Sg (P:List (Nat×Nat)) (n:Nat) (r:List Nat):Prop where
 nd:r.Nodup
 lt:∀ t∈r,t<n
 pw:r.Pairwise fun x y=>bl P n y x=false
 cv:∀ x y m,x∈r->y∈r->bl P n x m=true->bl P n m y=true->m∈r
theorem Ln.sg {l:List Nat} (o:Ok P n) (h:Ln P n l):Sg P n l:=
 ⟨h.nd,fun t ht=>(h.mem t).mp ht,h.pw,fun x y m _ hy _ h2=>(h.mem m).mpr (Nat.lt_trans (Uo o ((h.mem y).mp hy) h2) ((h.mem y).mp hy))⟩
theorem Vq {u v:List Nat}{k:Nat} (h:k∉u):jaq (zn (u++k::v)) (k:Int)=some (u.length:Int):=by
 have e:(zn (u++k::v)).findIdx? (fun x=>decide (x=(k:Int)))=some u.length:=by
  rw[List.findIdx?_eq_some_iff_getElem];refine⟨by rw[j8]; simp,?_,fun i hi=>?_⟩
  ·simp[zn]
  ·have hi2:i<u.length:=hi;simp only[zn,List.getElem_map,Xs];rw[List.getElem_append_left hi2];intro q;have:u[i]=k:=by omega
   exact h (this ▸ List.getElem_mem hi2)
 unfold jaq;rw[e];rfl
def hgh (r tt:List Nat):List Int:=(tt.filter fun k=>decide (k∈r)).map fun (k:Nat)=>(jaq (zn r) (k:Int)).getD 0
theorem mem_hgh {r:List Nat}{x:Int}:x∈hgh r tt ↔ ∃ k∈tt,k∈r/\x=(jaq (zn r) (k:Int)).getD 0:=by
 unfold hgh;rw[wn];constructor
 ·rintro⟨k,hk,rfl⟩;obtain⟨h1,h2⟩:=XX.mp hk;exact⟨k,h1,wJ h2,rfl⟩
 ·rintro⟨k,h1,h2,rfl⟩;exact⟨k,XX.mpr ⟨h1,Xl h2⟩,rfl⟩
theorem UL {u v:List Nat}{k:Nat} (h:(u++k::v).Nodup):k∉u:=fun z=>by
 rw[List.nodup_append] at h;exact h.2.2 k z k Xi rfl
theorem jcx {u v:List Nat} (o:Ok P n) (S:Sg P n (u++g::v)) (h:∀ x∈v,bl P n g x=false):hgh (u++g::v) (ja P n g)=[]:=by
 rw[List.eq_nil_iff_forall_not_mem];intro x hx;obtain⟨k,hk,hkr,_⟩:=mem_hgh.mp hx;obtain⟨k1,k2,k3⟩:=(jeW o).mp hk;have pw:=S.pw;rw[X7] at pw;rcases List.mem_append.mp hkr with z | z
 ·rw[pw.2.2 k z g Xi] at k2; cases k2
 ·rcases Xk.mp z with rfl | z
  ·rw[Qt o k1] at k2; cases k2
  ·rw[h k z] at k2; cases k2
theorem jcy {x:Nat}{u a b:List Nat} (o:Ok P n) (S:Sg P n (u++g::(a++x::b))) (ha:∀ y∈a,bl P n g y=false) (hx:bl P n g x=true) :
  hgh (u++g::(a++x::b)) (ja P n g)≠[]/\jch (hgh (u++g::(a++x::b)) (ja P n g))=((u.length+1+a.length:Nat):Int):=by
 have e1:u++g::(a++x::b)=(u++g::a)++x::b:=by simp
 have pw:=S.pw;have nd:=S.nd;have hxn:x<n:=S.lt x (by simp);have pw1:=pw;rw[X7] at pw1;have pw2:=pw;rw[e1,X7] at pw2;have hxr:x∈u++g::(a++x::b):=by simp
 have hgr:g∈u++g::(a++x::b):=by simp
 have jx:x∈ja P n g:=(jeW o).mpr ⟨hxn,hx,fun m hm=>by
  cases hz:bl P n m x with
  | false=>rfl
  | true=>
   have hmr:=S.cv g x m hgr hxr hm hz;rw[e1] at hmr;rcases List.mem_append.mp hmr with z | z
   ·rcases List.mem_append.mp z with z | z
    ·rw[pw1.2.2 m z g Xi] at hm; cases hm
    ·rcases Xk.mp z with rfl | z
     ·rw[Qt o (S.lt m hgr)] at hm; cases hm
     ·rw[ha m z] at hm; cases hm
   ·rcases Xk.mp z with rfl | z
    ·rw[Qt o hxn] at hz; cases hz
    ·rw[(ww.mp pw2.2.1).1 m z] at hz; cases hz⟩
 have ix:(jaq (zn (u++g::(a++x::b))) (x:Int)).getD 0=((u.length+1+a.length:Nat):Int):=by
  rw[e1,Vq (UL (by rw[<- e1]; exact nd))];simp;omega
 have mx:((u.length+1+a.length:Nat):Int)∈hgh (u++g::(a++x::b)) (ja P n g):=mem_hgh.mpr ⟨x,jx,hxr,ix.symm⟩;have ne:hgh (u++g::(a++x::b)) (ja P n g)≠[]:=List.ne_nil_of_mem mx;obtain⟨m1,m2⟩:=Vd ne;refine⟨ne,Int.le_antisymm (m2 _ mx) ?_⟩;obtain⟨k,hk,hkr,ek⟩:=mem_hgh.mp m1;obtain⟨k1,k2,k3⟩:=(jeW o).mp hk;rw[ek];rw[e1] at hkr;rcases List.mem_append.mp hkr with z | z
 ·rcases List.mem_append.mp z with z | z
  ·rw[pw1.2.2 k z g Xi] at k2; cases k2
  ·rcases Xk.mp z with rfl | z
   ·rw[Qt o k1] at k2; cases k2
   ·rw[ha k z] at k2; cases k2
 ·rcases Xk.mp z with rfl | z
  ·rw[ix]; exact Int.le_refl _
  ·obtain⟨c,d,rfl⟩:=List.append_of_mem z;have e3:u++g::(a++x::(c++k::d))=(u++g::(a++x::c))++k::d:=by simp
   rw[e3,Vq (UL (by rw[<- e3]; exact nd))];simp;omega
theorem jcz {u v:List Nat} (o:Ok P n) (S:Sg P n (u++g::v)) (h:∀ x∈u,bl P n x g=false):hgh (u++g::v) (jw P n g)=[]:=by
 rw[List.eq_nil_iff_forall_not_mem];intro x hx;obtain⟨k,hk,hkr,_⟩:=mem_hgh.mp hx;obtain⟨k1,k2,k3⟩:=(jeX o).mp hk;have pw:=S.pw;rw[X7,ww] at pw;rcases List.mem_append.mp hkr with z | z
 ·rw[h k z] at k2; cases k2
 ·rcases Xk.mp z with rfl | z
  ·rw[Qt o k1] at k2; cases k2
  ·rw[pw.2.1.1 k z] at k2; cases k2
theorem jcA {x:Nat}{a b v:List Nat} (o:Ok P n) (S:Sg P n ((a++x::b)++g::v)) (hb:∀ y∈b,bl P n y g=false) (hx:bl P n x g=true) :
  hgh ((a++x::b)++g::v) (jw P n g)≠[]/\jci (hgh ((a++x::b)++g::v) (jw P n g))=((a.length:Nat):Int):=by
 have e1:(a++x::b)++g::v=a++x::(b++g::v):=by simp
 have pw:=S.pw;have nd:=S.nd;have hxr:x∈(a++x::b)++g::v:=by simp
 have hgr:g∈(a++x::b)++g::v:=by simp
 have hgn:g<n:=S.lt g hgr;have pw1:=pw;rw[X7,ww] at pw1;have pw2:=pw;rw[e1,X7] at pw2;have jx:x∈jw P n g:=(jeX o).mpr ⟨hgn,hx,fun m hm=>by
  cases hz:bl P n m g with
  | false=>rfl
  | true=>
   have hmr:=S.cv x g m hxr hgr hm hz;rcases List.mem_append.mp hmr with z | z
   ·rcases List.mem_append.mp z with z | z
    ·rw[pw2.2.2 m z x Xi] at hm; cases hm
    ·rcases Xk.mp z with rfl | z
     ·rw[Qt o (S.lt m hxr)] at hm; cases hm
     ·rw[hb m z] at hz; cases hz
   ·rcases Xk.mp z with rfl | z
    ·rw[Qt o hgn] at hz; cases hz
    ·rw[pw1.2.1.1 m z] at hz; cases hz⟩
 have ix:(jaq (zn ((a++x::b)++g::v)) (x:Int)).getD 0=((a.length:Nat):Int):=by
  rw[e1,Vq (UL (by rw[<- e1]; exact nd))];rfl
 have mx:((a.length:Nat):Int)∈hgh ((a++x::b)++g::v) (jw P n g):=mem_hgh.mpr ⟨x,jx,hxr,ix.symm⟩;have ne:hgh ((a++x::b)++g::v) (jw P n g)≠[]:=List.ne_nil_of_mem mx;obtain⟨m1,m2⟩:=Ve ne;refine⟨ne,Int.le_antisymm ?_ (m2 _ mx)⟩;obtain⟨k,hk,hkr,ek⟩:=mem_hgh.mp m1;obtain⟨k1,k2,k3⟩:=(jeX o).mp hk;rw[ek];rcases List.mem_append.mp hkr with z | z
 ·rcases List.mem_append.mp z with z | z
  ·obtain⟨c,d,rfl⟩:=List.append_of_mem z;have e3:(c++k::d++x::b)++g::v=c++k::(d++x::b++g::v):=by simp
   rw[e3,Vq (UL (by rw[<- e3]; exact nd))];simp;omega
  ·rcases Xk.mp z with rfl | z
   ·rw[ix]; exact Int.le_refl _
   ·rw[hb k z] at k2; cases k2
 ·rcases Xk.mp z with rfl | z
  ·rw[Qt o hgn] at k2; cases k2
  ·rw[pw1.2.1.1 k z] at k2; cases k2
def Uq (P:List (Nat×Nat)) (n:Nat):Nat->List Nat->List Nat
 | g,[]=>[g]
 | g,x::r=>if bl P n g x=true then g::Uq P n x r else x::Uq P n g r
def dmr (P:List (Nat×Nat)) (n:Nat):Nat->List Nat->List Nat
 | g,[]=>[g]
 | g,x::r=>if bl P n x g=true then dmr P n x r++[g] else dmr P n g r++[x]
def dm (P:List (Nat×Nat)) (n:Nat) (u:List Nat) (g:Nat):List Nat:=dmr P n g u.reverse
theorem ZI:∀ {v:List Nat},(∀ x∈v,bl P n g x=false)->Uq P n g v=v++[g]
 | [],_=>rfl
 | x::v,h=>by
  unfold Uq;rw[if_neg (by rw[h x Xi]; decide),ZI fun y hy=>h y (Xf _ hy)];rfl
theorem ZJ {x:Nat}{b:List Nat} (hx:bl P n g x=true):∀ {a:List Nat},(∀ y∈a,bl P n g y=false)->Uq P n g (a++x::b)=a++g::Uq P n x b
 | [],_=>by
  show Uq P n g (x::b)=_
  conv=>lhs; unfold Uq
  rw[if_pos hx];rfl
 | y::a,h=>by
  show Uq P n g (y::(a++x::b))=_
  conv=>lhs; unfold Uq
  rw[if_neg (by rw[h y Xi]; decide),ZJ hx fun z hz=>h z (Xf _ hz)];rfl
theorem jeY {r:List Nat}:∀ {b:List Nat},(∀ y∈b,bl P n y g=false)->dmr P n g (b++r)=dmr P n g r++b.reverse
 | [],_=>by simp
 | y::b,h=>by
  show dmr P n g (y::(b++r))=_
  conv=>lhs; unfold dmr
  rw[if_neg (by rw[h y Xi]; decide),jeY fun z hz=>h z (Xf _ hz)];simp
theorem jiW {u:List Nat} (h:∀ x∈u,bl P n x g=false):dm P n u g=g::u:=by
 have:=jeY (r:=[]) (b:=u.reverse) fun y hy=>h y (List.mem_reverse.mp hy);rw[wM,List.reverse_reverse] at this;unfold dm;rw[this];rfl
theorem jiX {x:Nat}{a b:List Nat} (hx:bl P n x g=true) (h:∀ y∈b,bl P n y g=false):dm P n (a++x::b) g=dm P n a x++g::b:=by
 have e:(a++x::b).reverse=b.reverse++x::a.reverse:=by simp
 unfold dm;rw[e,jeY (fun y hy=>h y (List.mem_reverse.mp hy)),List.reverse_reverse]
 conv=>lhs; lhs; unfold dmr
 rw[if_pos hx];simp
theorem Vr (P:List (Nat×Nat)) (n g:Nat):∀ v:List Nat,(∀ x∈v,bl P n g x=false) \/ ∃ a x b,v=a++x::b/\(∀ y∈a,bl P n g y=false)/\bl P n g x=true
 | []=>.inl (by simp)
 | y::v=>by
  cases hy:bl P n g y with
  | true=>exact .inr ⟨[],y,v,rfl,by simp,hy⟩
  | false=>
   rcases Vr P n g v with h | ⟨a,x,b,rfl,h1,h2⟩
   ·left
    intro x hx;rcases Xk.mp hx with rfl | hx
    ·exact hy
    ·exact h x hx
   ·right
    refine⟨y::a,x,b,rfl,fun z hz=>?_,h2⟩;rcases Xk.mp hz with rfl | hz
    ·exact hy
    ·exact h1 z hz
theorem jcB (P:List (Nat×Nat)) (n g:Nat) (u:List Nat):(∀ x∈u,bl P n x g=false) \/ ∃ a x b,u=a++x::b/\(∀ y∈b,bl P n y g=false)/\bl P n x g=true:=by
 have key:∀ r:List Nat,(∀ x∈r,bl P n x g=false) \/ ∃ a x b,r=a++x::b/\(∀ y∈a,bl P n y g=false)/\bl P n x g=true:=by
  intro r
  induction r with
  | nil=>exact .inl (by simp)
  | cons y v ih=>
   cases hy:bl P n y g with
   | true=>exact .inr ⟨[],y,v,rfl,by simp,hy⟩
   | false=>
    rcases ih with h | ⟨a,x,b,rfl,h1,h2⟩
    ·left
     intro x hx;rcases Xk.mp hx with rfl | hx
     ·exact hy
     ·exact h x hx
    ·right
     refine⟨y::a,x,b,rfl,fun z hz=>?_,h2⟩;rcases Xk.mp hz with rfl | hz
     ·exact hy
     ·exact h1 z hz
 rcases key u.reverse with h | ⟨a,x,b,e,h1,h2⟩
 ·exact .inl fun x hx=>h x (List.mem_reverse.mpr hx)
 ·refine .inr ⟨b.reverse,x,a.reverse,?_,fun y hy=>h1 y (List.mem_reverse.mp hy),h2⟩;have:=congrArg List.reverse e;rw[List.reverse_reverse] at this;rw[this];simp
theorem Q1 {P:List (Nat×Nat)}{n:Nat}:∀ (v a:List Nat) (g:Nat),(List.range' a.length v.length).foldl (swp P n) (a++g::v)=a++Uq P n g v
 | [],a,g=>rfl
 | x::v,a,g=>by
  rw[Xm,List.range'_succ,List.foldl_cons,jbI]
  conv=>rhs; unfold Uq
  split
  ·have:=Q1 (P:=P) (n:=n) v (a++[g]) x;simp only[Xj,wk,List.append_assoc,List.singleton_append] at this;exact this
  ·have:=Q1 (P:=P) (n:=n) v (a++[x]) g;simp only[Xj,wk,List.append_assoc,List.singleton_append] at this;exact this
theorem jgH {l:List Nat} (L:Ln P n l) (h1:1<=n):∃ g v,l=g::v/\(List.range (n-1)).foldl (swp P n) l=Uq P n g v:=by
 have hlen:=L.len;cases l with
 | nil=>simp at hlen; omega
 | cons g v=>
  refine⟨g,v,rfl,?_⟩;have:=Q1 (P:=P) (n:=n) v [] g;rw[Xm] at hlen;have e:List.range (n-1)=List.range' 0 v.length:=by rw[List.range_eq_range']; congr 1; omega
  rw[e];exact this
section
variable {X:Type}{f:Nat->X->X}{S:X->Prop}{N:Nat}
def eW (N m:Nat):List Nat:=List.range' m (N-m)
def rW (N m:Nat):List Nat:=(eW N m).reverse
def bW (N m:Nat):List Nat:=(List.range' m (N-m)).flatMap (rW N)
theorem jkl {m:Nat} (h:i∈eW N m):m<=i/\i<N:=by
 unfold eW at h;have:=List.mem_range'_1.mp h;omega
theorem jkm {m:Nat} (h:i∈rW N m):m<=i/\i<N:=jkl (List.mem_reverse.mp h)
def dW (k:Nat):List Nat:=(List.range' 1 k).reverse.flatMap List.range
theorem jeZ:(List.range N).map (fun i=>N-i)=(List.range' 1 N).reverse:=by
 refine List.ext_getElem (by simp) fun i h1 h2=>?_;simp at h1;simp;omega
theorem jlc:dW N=(List.range N).flatMap fun i=>List.range (N-i):=by
 unfold dW;rw[<- jeZ,List.flatMap_map]
theorem jld:bW N 0=(List.range N).flatMap (rW N):=by
 unfold bW;rw[Nat.sub_zero,List.range_eq_range']
end
end Lw
namespace Lw
theorem jlC (c:Int) {m:Nat} (h:0<m):∃ k:Nat,k<m/\c % (m:Int)=(k:Int):=by
 have h1:=Int.emod_nonneg c (show (m:Int)≠0 by omega);have h2:=Int.emod_lt_of_pos c (show (0:Int)<(m:Int) by omega);exact⟨(c % (m:Int)).toNat,by omega,by omega⟩
end Lw
namespace Lw
open PySem L2 L3 M01
theorem Gb (ns:List Int) (k:Nat):∃ c,zd ns (k:Int)=some c:=by
 unfold zd;by_cases h:k<ns.length
 ·have e:decide ((k:Int)<(ns.length:Int))=true:=Xl (by omega);rw[e];exact⟨_,MM.at_get h⟩
 ·have e:decide ((k:Int)<(ns.length:Int))=false:=Xp (by omega);rw[e];exact⟨0,rfl⟩
theorem zQ (ns:List Int) (k:Nat):∃ c,kr ns (k:Int)=some c:=by
 unfold kr;simp only[MM.bs];by_cases h:0<ns.length
 ·have e:decide ((0:Int)<(ns.length:Int))=true:=Xl (by omega);have h2:k % ns.length<ns.length:=Nat.mod_lt _ h;have e2:(k:Int) % (ns.length:Int)=((k % ns.length:Nat):Int):=by simp
  rw[e,MM.modP (by omega),e2];simp only[MM.ct,MM.bs,MM.at_get h2];exact⟨_,rfl⟩
 ·have e:decide ((0:Int)<(ns.length:Int))=false:=Xp (by omega);rw[e];exact⟨_,rfl⟩
theorem jkn (b t:Nat):QY (b:Int) (t:Int)=some (b.testBit t):=by
 unfold QY;rw[MM.shr];simp only[MM.bs];congr 1;have e1:Builtin.bitAnd ((b / 2 ^ t:Nat):Int) 1=(((b / 2 ^ t) &&& 1:Nat):Int):=MB.and_nat _ 1;rw[e1,Nat.and_one_is_mod,XR,Xs,Nat.testBit_eq_decide_div_mod_eq,Xs];omega
theorem yf {b:Nat} (h:b<2 ^ n) (hn:n<=100):qA (b:Int)=some (zn (ths n b)):=by
 unfold qA;have h1:=MB.bits_le h;rw[MM.rng (by omega)];simp only[MM.bs];rw[MM.compR (fun t=>b.testBit t) (fun t=>((t:Nat):Int)) (by omega) (fun k hk=>jkn b k) (fun k hk _=>rfl),MB.things_eq h];rfl
theorem jle {l:List Nat} (h:∀ t∈l,t<=1000):zm (zn l)=some ((MB.setN l:Nat):Int):=by
 unfold zm zn;simp only[MM.bs];rw[MM.forM_map,MM.forM_cast (b0:=(0:Int)) (fun b:Nat=>(b:Int)) (fun a t=>a ||| 2 ^ t) 0 rfl (fun b t ht=>by
  rw[MM.shl1 (h t ht)];simp only[MM.bs];rw[MB.or_nat])]
 rfl
theorem jaO (o:Ok P n) (h1:1<=n) (h9:n<=9):qY (n:Int) (zp P)=some ():=by
 unfold qY;have e:(!((decide ((1:Int)<=(n:Int)))&&(decide ((n:Int)<=9))))=false:=by
  rw[Xl (by omega),Xl (by omega)]; rfl
 rw[e,MM.cf,ZD,MM.bs];intro x hx;obtain⟨p,hp,rfl⟩:=wn.mp hx;obtain⟨h2,h3⟩:=o p hp;have e2:(!((decide ((0:Int)<=(p.1:Int)))&&((decide ((p.1:Int)<(p.2:Int)))&&(decide ((p.2:Int)<(n:Int))))))=false:=by
  rw[Xl (by omega),Xl (by omega),Xl (by omega)]; rfl
 rw[e2,MM.cf]
theorem jcC (o:Ok P n) (h9:n<=9):xp (n:Int) (zp P)=some (zn (bel P n)):=by
 unfold xp;rw[MM.rng (by omega)];simp only[MM.bs];refine MM.forM_then (R:=fun r=>r=some (zn (bel P n))) (fun k z=>z=zn (bel P k)) rfl ?_ ?_
 ·rintro k z hk rfl;unfold zp;rw[MM.forM_map,MM.forM_cast (b0:=(0:Int)) (fun b:Nat=>(b:Int)) (fun acc p=>if p.2=k then acc ||| (bel P k).getD p.1 0 ||| 2 ^ p.1 else acc) 0 rfl (fun b p hp=>by
   obtain⟨h2,h3⟩:=o p hp;by_cases h:p.2=k
   ·have e:decide ((p.2:Int)=(k:Int))=true:=Xl (by omega);rw[e,jiP (by rw[GW]; omega),MM.shl1 (by omega)];simp only[MM.ct,MM.bs];rw[MB.or_nat,MB.or_nat,if_pos h]
   ·have e:decide ((p.2:Int)=(k:Int))=false:=Xp (by omega);rw[e];simp only[MM.cf,MM.bs];rw[if_neg h])]
  simp only[MM.bs];rw[MM.app (by rw[j8,GW]; omega)];simp only[MM.bs];refine⟨_,rfl,?_⟩;show zn (bel P k)++[_]=zn (bel P k++[UY P (bel P k) k]);unfold zn UY;rw[List.map_append];rfl
 ·rintro z rfl;rfl
theorem jgI {l h:Nat} (hl:l<n) (hh:h<n) (h9:n<=9):yi (zn (bel P n)) (l:Int) (h:Int)=some (cvB P n l h):=by
 unfold yi;rw[Vo hh];simp only[MM.bs,jkn];show (bif (!bl P n l h) then some false else _)=some (bl P n l h&&_);cases hb:bl P n l h with
 | false=>
  rw[wt,MM.ct,Bool.false_and]
 | true=>
  rw[XE,MM.cf,Bool.true_and];have e:(l:Int)+1=((l+1:Nat):Int):=by omega
  rw[e,MM.rng2 (by omega) (by omega)];simp only[MM.bs];rw[MM.comp1 (fun x=>bl P n x.toNat h&&bl P n l x.toNat) (by simp; omega) (fun x hx=>by
   obtain⟨d,hd,rfl⟩:=wn.mp hx;have:=Xu.mp hd;rw[jkn];simp only[MM.bs];rw[Vo (by omega),kb];simp only[MM.bs,jkn];show (bif bl P n (l+1+d) h then some (bl P n l (l+1+d)) else some false)=_;cases bl P n (l+1+d) h <;> rfl)]
  simp only[MM.bs];congr 2;rw[List.map_map,List.any_map];congr 1
theorem jaP (h9:n<=9):qZ (zn (bel P n))=some (zp (cvs P n)):=by
 unfold qZ;rw[j8,GW,MM.rng (by omega)];simp only[MM.bs];refine MM.forM_then (R:=fun r=>r=some (zp (cvs P n))) (fun k z=>z=zp ((List.range k).flatMap (cvL P n))/\z.length<=9 * k) ⟨rfl,Xh _⟩ ?_ ?_
 ·rintro k z hk ⟨rfl,hlen⟩;have e:(k:Int)+1=((k+1:Nat):Int):=by omega
  rw[e,MM.rng2 (by omega) (by omega)];simp only[MM.bs];refine MM.forM_thenL (R:=fun r=>∃ b',r=some b'/\b'=zp ((List.range (k+1)).flatMap (cvL P n))/\b'.length<=9 * (k+1)) (fun j z=>z=zp ((List.range k).flatMap (cvL P n)++((((List.range j).map fun d=>k+1+d).filter fun h=>cvB P n k h).map fun h=>(k,h)))/\z.length<=9 * k+j)
   ⟨by simp,hlen⟩ ?_ ?_
  ·rintro j x z hx ⟨rfl,hz⟩;rw[Xy] at hx;cases hr:(List.range (n-(k+1)))[j]? with
   | none=>rw[hr] at hx; cases hx
   | some d=>
    rw[hr] at hx;have hjn:j<n-(k+1):=by
     have:=(List.getElem?_eq_some_iff.mp hr).1;simpa using this
    have hd:d=j:=by
     rw[List.getElem?_range hjn] at hr;exact(Option.some.inj hr).symm
    subst hd;obtain rfl:((k+1+d:Nat):Int)=x:=Option.some.inj hx;rw[jgI hk (by omega) h9];simp only[MM.bs];rw[w4,List.map_append,List.filter_append,List.map_append];cases hc:cvB P n k (k+1+d) with
    | false=>
     simp only[MM.cf,MM.bs];refine⟨_,rfl,?_,by omega⟩;simp[hc]
    | true=>
     simp only[MM.ct];rw[MM.app (by omega)];simp only[MM.bs];refine⟨_,rfl,?_,by simp; omega⟩;simp[hc,zp]
  ·rintro z ⟨rfl,hz⟩;refine⟨_,rfl,?_,?_⟩
   ·rw[Xr,XJ,w4,List.flatMap_append];simp[cvL]
   ·rw[Xr,XJ] at hz ⊢;omega
 ·rintro z ⟨rfl,_⟩;rfl
def qP (P:List (Nat×Nat)) (n:Nat):MOrder:=⟨(n:Int),zn (bel P n),zp (cvs P n)⟩
theorem jcD (o:Ok P n) (h1:1<=n) (h9:n<=9):xq (n:Int) (zp P)=some (qP P n):=by
 unfold xq;rw[jaO o h1 h9,jcC o h9];simp only[MM.bs];rw[jaP h9];rfl
theorem size (P:List (Nat×Nat)) (n:Nat):kR (qP P n)=some (n:Int):=by
 unfold kR;rfl
theorem Qu (b c:Nat):k7 (b:Int) (c:Int)=some (decide (b &&& c=c)):=by
 unfold k7;congr 1;rw[MB.and_nat,XR,Xs,Xs];omega
theorem JM (P:List (Nat×Nat)) (h9:n<=9) (b:Nat):jR (qP P n) (b:Int)=some (dsB P n b):=by
 unfold jR;rw[size];simp only[MM.bs];have e0:decide ((b:Int)<0)=false:=Xp (by omega);rw[e0,MM.cf,MM.shr];simp only[MM.bs];unfold dsB;have hp:0<2 ^ n:=Nat.pow_pos (by decide);by_cases hb:b<2 ^ n
 ·have e1:decide ((0:Int)<((b / 2 ^ n:Nat):Int))=false:=Xp (by rw[Nat.div_eq_of_lt hb]; omega);rw[e1,MM.cf,yf hb (by omega),Xl hb,Bool.true_and];simp only[MM.bs];unfold zn;rw[MM.comp1 (fun x=>decide (b &&& (bel P n).getD x.toNat 0=(bel P n).getD x.toNat 0)) (by rw[Xr]; have:=jiQ n b; omega) (fun x hx=>by
   obtain⟨t,ht,rfl⟩:=wn.mp hx;have:=(jeM ht).1;show (pAt (zn (bel P n)) (t:Int)).bind _=_;rw[Vo this];simp only[MM.bs];rw[Qu,kb])]
  simp only[MM.bs];congr 1;rw[List.map_map,jkd];rfl
 ·have h2:0<b / 2 ^ n:=Nat.div_pos (by omega) hp;have e1:decide ((0:Int)<((b / 2 ^ n:Nat):Int))=true:=Xl (by omega);rw[e1,MM.ct,Xp hb];rfl
theorem Yg {b:Nat} (h9:n<=9) (hd:dsB P n b=true):kt (qP P n) (b:Int)=some ():=by
 unfold kt;rw[JM P h9,hd];simp only[MM.bs];rw[XE,MM.cf]
theorem jgJ {b:Nat} (h9:n<=9) (hd:dsB P n b=true) :
  G7 (qP P n) (b:Int)=some ((MB.setN ((List.range n).filter fun t=>!b.testBit t&&decide (b &&& (bel P n).getD t 0=(bel P n).getD t 0)):Nat):Int):=by
 unfold G7;rw[Yg h9 hd,size];simp only[MM.bs];rw[MM.rng (by omega)];simp only[MM.bs];rw[MM.compR (fun t=>!b.testBit t&&decide (b &&& (bel P n).getD t 0=(bel P n).getD t 0)) (fun t=>((t:Nat):Int)) (by omega) (fun t ht=>by
  unfold zP;rw[jkn];simp only[MM.bs];cases b.testBit t with
  | true=>rw[XE,MM.cf]; rfl
  | false=>
   rw[wt,MM.ct,Bool.true_and];show (pAt (zn (bel P n)) (t:Int)).bind _=_;rw[Vo ht];simp only[MM.bs];rw[Qu]) (fun k hk _=>rfl)]
 simp only[MM.bs];have:=jle (l:=(List.range n).filter fun t=>!b.testBit t&&decide (b &&& (bel P n).getD t 0=(bel P n).getD t 0)) (fun t ht=>by
  have:=Xu.mp (XX.mp ht).1;omega)
 exact this
theorem jlZ (ns:List Int) {m:Nat} (em:most=(m:Int)) (h1:1<=m) (h9:m<=9):∃ n P,Drawn (ZB ns most) n P/\P.length<=300:=by
 subst em;unfold ZB;obtain⟨c0,e0⟩:=Gb ns 0;obtain⟨c1,e1⟩:=Gb ns 1;have e0':zd ns 0=some c0:=e0;have e1':zd ns 1=some c1:=e1;simp only[e0',e1',MM.bs];rw[MM.modP (by omega)];simp only[MM.bs];obtain⟨n,hn,hn9,en⟩:∃ n:Nat,1<=n/\n<=9/\1+c0 / 2 % (m:Int)=(n:Int):=by
  have a1:=wN (c0 / 2) (show (m:Int)≠0 by omega);have a2:=wW (c0 / 2) (show (0:Int)<(m:Int) by omega);exact⟨(1+c0 / 2 % (m:Int)).toNat,by omega,by omega,by omega⟩
 rw[en,MM.rng (by omega),MM.bs];refine MM.forM_then (R:=fun r=>∃ n P,Drawn r n P/\P.length<=300) (fun k (z:Int×List (Int×Int))=>∃ P,z.2=zp P/\Ok P n/\P.length<=9 * k) ⟨[],rfl,jbF,Xh _⟩ ?_ ?_
 ·rintro k z hk ⟨P,hz,ho,hl⟩;rw[MM.rng (by omega),MM.bs];refine MM.forM_then (R:=fun r=>∃ b':Int×List (Int×Int),r=some b'/\∃ P,b'.2=zp P/\Ok P n/\P.length<=9 * (k+1)) (fun j (z':Int×List (Int×Int))=>∃ P',z'.2=zp P'/\Ok P' n/\P'.length<=9 * k+j) ⟨P,hz,ho,by omega⟩ ?_ ?_
  ·rintro j z' hj ⟨P',hz',ho',hl'⟩;by_cases hc:z'.1 % 2=1
   ·have ed:decide (z'.1 % 2=1)=true:=by simpa using hc
    rw[ed,hz',MM.app (by rw[Ud]; omega)];simp only[MM.ct,MM.bs];exact⟨_,rfl,P'++[(j,k)],by rw[jbE]; rfl,jbG ho' (jbH hj hk),by simp; omega⟩
   ·have ed:decide (z'.1 % 2=1)=false:=by simpa using hc
    rw[ed];simp only[MM.cf,MM.bs];exact⟨_,rfl,P',hz',ho',by omega⟩
  ·rintro b ⟨P',hb,ho',hl'⟩;exact⟨_,rfl,P',hb,ho',by omega⟩
 ·rintro b ⟨P,hb,ho,hl⟩;exact⟨n,P,⟨by rw[hb],hn,hn9,ho,by omega⟩,by omega⟩
theorem jko (first:Int) {m:Nat} (em:most=(m:Int)) (h1:1<=m) (h9:m<=9):∃ n P,Drawn (G5 first most) n P/\P.length<=300:=by
 subst em;unfold G5;simp only[MM.bs];obtain⟨r,hr,hr3,er⟩:∃ r:Nat,1<=r/\r<=m/\(bif decide ((m:Int)<1+first % 3) then some (1:Int) else some (1+first % 3))=some (r:Int):=by
  by_cases h:(m:Int)<1+first % 3
  ·rw[Xl h];exact⟨1,by omega,by omega,rfl⟩
  ·rw[Xp h];exact⟨(1+first % 3).toNat,by omega,by omega,by
    have:((1+first % 3).toNat:Int)=1+first % 3:=by omega
    rw[this]; rfl⟩
 rw[er];simp only[MM.bs];rw[MM.divP (by omega) (by omega)];simp only[MM.bs];have hq:(m:Int) / (r:Int)=((m / r:Nat):Int):=by simp
 have hqp:0<m / r:=Nat.div_pos hr3 (by omega);rw[hq,MM.modP (by omega)];obtain⟨w,hw,hw2,ew⟩:∃ w:Nat,1<=w/\w<=m / r/\1+first / 3 % ((m / r:Nat):Int)=(w:Int):=by
  have a1:=wN (first / 3) (show ((m / r:Nat):Int)≠0 by omega);have a2:=wW (first / 3) (show (0:Int)<((m / r:Nat):Int) by omega);exact⟨(1+first / 3 % ((m / r:Nat):Int)).toNat,by omega,by omega,by omega⟩
 simp only[MM.bs,ew];have hrw:r * w<=9:=by
  have:=Nat.mul_le_mul_left r hw2;have:=Nat.mul_div_le m r;omega
 have hrw1:1<=r * w:=X6 hw (Nat.le_mul_of_pos_left w (by omega));rw[MM.mulP (by omega)];have em:(r:Int) * (w:Int)=((r * w:Nat):Int):=by simp
 simp only[MM.bs,em];rw[MM.rng (by omega),MM.bs];refine MM.forM_then (R:=fun r=>∃ n P,Drawn r n P/\P.length<=300) (fun k (z:List (Int×Int))=>∃ P,z=zp P/\Ok P (r * w)/\P.length<=2 * k) ⟨[],rfl,jbF,Xh _⟩ ?_ ?_
 ·rintro k z hk ⟨P,rfl,ho,hl⟩;have ekw:(k:Int) % (w:Int)=((k % w:Nat):Int):=by simp
  have hmd:=Nat.mod_lt k (show w > 0 by omega);have hdm:=Nat.div_add_mod k w;rw[MM.modP (by omega),ekw];simp only[MM.bs];obtain⟨P1,e1,o1,l1⟩:∃ P1,(bif decide (((k % w:Nat):Int)<(w:Int)-1) then (Wg (zp P) ((k:Int),(k:Int)+1)).bind fun pairs=>some pairs else some (zp P))=some (zp P1)/\Ok P1 (r * w)/\P1.length<=2 * k+1:=by
   by_cases h:k % w<w-1
   ·rw[Xl (by omega),MM.ct,MM.app (by rw[Ud]; omega),MM.bs];refine⟨P++[(k,k+1)],by rw[jbE]; rfl,jbG ho (jbH (by omega) ?_),by simp; omega⟩;have hqr:k / w<r:=by
     rw[Nat.div_lt_iff_lt_mul (by omega)]; exact hk
    have:w * (k / w)+w<=r * w:=by
     have:=Nat.mul_le_mul_left w (show k / w+1<=r from hqr);rw[Nat.mul_add,Nat.mul_one,Nat.mul_comm w r] at this;exact this
    omega
   ·rw[Xp (by omega),MM.cf];exact⟨P,rfl,ho,by omega⟩
  rw[e1];simp only[MM.bs];by_cases h:k+w<r * w
  ·rw[Xl (by omega)];simp only[MM.ct];rw[MM.app (by rw[Ud]; omega)];simp only[MM.bs];exact⟨_,rfl,P1++[(k,k+w)],by rw[jbE]; simp[zp],jbG o1 (jbH (by omega) h),by simp; omega⟩
  ·rw[Xp (by omega)];simp only[MM.cf,MM.bs];exact⟨_,rfl,P1,rfl,o1,by omega⟩
 ·rintro b ⟨P,rfl,ho,hl⟩;exact⟨r * w,P,⟨rfl,hrw1,hrw,ho,by omega⟩,by omega⟩
theorem jkp (ns:List Int) {m:Nat} (em:most=(m:Int)) (h1:1<=m) (h9:m<=9):∃ n P,Drawn (JX ns most) n P/\P.length<=300:=by
 unfold JX;obtain⟨c0,e0⟩:=Gb ns 0;obtain⟨c1,e1⟩:=zQ ns 0;obtain⟨c2,e2⟩:=zQ ns 1;have e0':zd ns 0=some c0:=e0;have e1':kr ns 0=some c1:=e1;have e2':kr ns 1=some c2:=e2;simp only[e0',e1',e2',MM.bs];cases hq:decide (c0 % 2=0) with
 | true=>
  simp only[MM.ct];exact jlZ ns em h1 h9
 | false=>
 simp only[MM.cf];rw[MM.modP (by omega)];simp only[MM.bs];obtain⟨n,hn,hn9,en⟩:∃ n:Nat,1<=n/\n<=9/\1+c1 % most=(n:Int):=by
  have a1:=wN c1 (show most≠0 by omega);have a2:=wW c1 (show (0:Int)<most by omega);exact⟨(1+c1 % most).toNat,by omega,by omega,by omega⟩
 rw[en];cases h0:decide (c1 / 9 % 7=0) with
 | true=>
  simp only[MM.ct];exact jko _ em h1 h9
 | false=>
 simp only[MM.cf];cases hw1:decide (c1 / 9 % 7=1) with
 | true=>
  simp only[MM.ct];have:(n:Int)-1=((n-1:Nat):Int):=by omega
  rw[this,MM.rng (by omega),MM.bs,MM.compR1 (fun k=>(((k:Nat):Int),(((k+1:Nat)):Int))) (by omega) (fun k hk=>by simp)];refine⟨n,(List.range (n-1)).map fun k=>(k,k+1),⟨?_,hn,hn9,fun p hp=>?_,by simp; omega⟩,by simp; omega⟩
  ·simp[zp,Function.comp_def]
  ·obtain⟨k,hk,rfl⟩:=wn.mp hp;have:=Xu.mp hk;exact⟨by simp,by simp; omega⟩
 | false=>
 simp only[MM.cf];cases h2:(decide ((n:Int)<2)||decide (c1 / 9 % 7=2)) with
 | true=>
  simp only[MM.ct];exact⟨n,[],⟨rfl,hn,hn9,jbF,by simp⟩,by simp⟩
 | false=>
  simp only[MM.cf];have hn2:2<=n:=by
   rw[Bool.or_eq_false_iff,decide_eq_false_iff_not] at h2;omega
  rw[MM.modP (by omega)];simp only[MM.bs];obtain⟨k0,hk0,ek0⟩:∃ k0:Nat,k0<=18/\1+c2 % (2 * (n:Int))=(k0:Int):=by
   have a1:=wN c2 (show 2 * (n:Int)≠0 by omega);have a2:=wW c2 (show (0:Int)<2 * (n:Int) by omega);exact⟨(1+c2 % (2 * (n:Int))).toNat,by omega,by omega⟩
  rw[ek0,MM.rng (by omega),MM.bs];refine MM.forM_then (R:=fun r=>∃ n P,Drawn r n P/\P.length<=300) (fun k (z:List (Int×Int))=>∃ P,z=zp P/\Ok P n/\P.length<=k) ⟨[],rfl,jbF,Xh _⟩ ?_ ?_
  ·rintro k z hk ⟨P,rfl,ho,hl⟩;obtain⟨c3,e3⟩:=zQ ns (8+k);have e3':kr ns (8+(k:Int))=some c3:=by
     have:(8+(k:Int))=((8+k:Nat):Int):=by omega
     rw[this]; exact e3
   have em2:Y7 (c1 / 7) ((k:Int)+1)=some (c1 / 7 * ((k:Int)+1)):=by
    unfold Y7;exact if_pos (.inr ⟨by omega,by omega⟩)
   rw[e3',em2];simp only[MM.bs];generalize c3+c1 / 7 * ((k:Int)+1)=c4;rw[MM.modP (by omega)];obtain⟨lo,hlo,elo⟩:∃ lo:Nat,lo<n-1/\c4 % ((n:Int)-1)=(lo:Int):=by
    have a1:=wN c4 (show ((n:Int)-1)≠0 by omega);have a2:=wW c4 (show (0:Int)<(n:Int)-1 by omega);exact⟨(c4 % ((n:Int)-1)).toNat,by omega,by omega⟩
   simp only[MM.bs,elo];rw[MM.modP (by omega)];obtain⟨x,hx,ex⟩:∃ x:Nat,x<n-1-lo/\c4 / 9 % ((n:Int)-1-(lo:Int))=(x:Int):=by
    have a1:=wN (c4 / 9) (show ((n:Int)-1-(lo:Int))≠0 by omega);have a2:=wW (c4 / 9) (show (0:Int)<(n:Int)-1-(lo:Int) by omega);exact⟨(c4 / 9 % ((n:Int)-1-(lo:Int))).toNat,by omega,by omega⟩
   simp only[MM.bs,ex];rw[MM.app (by rw[Ud]; omega)];simp only[MM.bs];refine⟨_,rfl,P++[(lo,lo+1+x)],by rw[jbE]; simp[zp],jbG ho (jbH (by omega) (by omega)),by simp; omega⟩
  ·rintro b ⟨P,rfl,ho,hl⟩;exact⟨n,P,⟨rfl,hn,hn9,ho,by omega⟩,by omega⟩
theorem jgK (o:Ok P n) (h9:n<=9) (hl:P.length<=300):G6 (n:Int) (zp P)=some (udr P n):=by
 unfold G6;rw[MM.rng (by omega)];simp only[MM.bs];refine MM.forM_then (R:=fun r=>r=some (udr P n)) (fun k z=>z=(List.range k).map fun h=>zn (lws P n h)) rfl ?_ ?_
 ·rintro k z hk rfl;refine MM.forM_thenL (R:=fun r=>∃ b',r=some b'/\b'=(List.range (k+1)).map fun h=>zn (lws P n h))
   (fun j f=>f.length<=10 * j/\∀ x:Int,x∈f ↔ ∃ p∈P.take j,p.2=k/\(x=(p.1:Int) \/ ∃ t∈lws P n p.1,x=(t:Int))) ⟨by simp,by simp⟩ ?_ ?_
  ·rintro j x f hx ⟨hlf,hf⟩;obtain⟨p,hp,rfl⟩:∃ p,P[j]?=some p/\x=((p.1:Int),(p.2:Int)):=by
    unfold zp at hx;rw[Xy] at hx;obtain⟨p,hp,e⟩:=Option.map_eq_some_iff.mp hx;exact⟨p,hp,e.symm⟩
   obtain⟨hj,_⟩:=List.getElem?_eq_some_iff.mp hp;obtain⟨h2,h3⟩:=o p (XG hp);have tk:P.take (j+1)=P.take j++[p]:=by rw[List.take_add_one,hp]; rfl
   by_cases h:p.2=k
   ·rw[Xl (by omega),jhy (by omega)];simp only[MM.ct,MM.bs];have hll:=Ye P n p.1;rw[MM.cat (by rw[j8]; simp; omega)];simp only[MM.bs];rw[MM.cat (by rw[Xj,j8]; simp; omega)];simp only[MM.bs];refine⟨_,rfl,by rw[Xj,Xj,j8]; simp; omega,fun x=>?_⟩;rw[List.mem_append,hf x,List.mem_append,XQ,mem_zn,tk];constructor
    ·rintro (⟨q,hq,r⟩ | r)
     ·exact⟨q,wb _ hq,r⟩
     ·exact⟨p,XM _ (XQ.mpr rfl),h,r⟩
    ·rintro⟨q,hq,r⟩;rcases List.mem_append.mp hq with hq | hq
     ·exact .inl ⟨q,hq,r⟩
     ·rw[XQ] at hq;subst hq;exact .inr r.2
   ·rw[Xp (by omega)];simp only[MM.cf,MM.bs];refine⟨_,rfl,by omega,fun x=>?_⟩;rw[hf x,tk];constructor
    ·rintro⟨q,hq,r⟩;exact⟨q,wb _ hq,r⟩
    ·rintro⟨q,hq,r⟩;rcases List.mem_append.mp hq with hq | hq
     ·exact⟨q,hq,r⟩
     ·rw[XQ] at hq;subst hq;exact absurd r.1 h
  ·rintro f ⟨hlf,hf⟩;rw[Ud] at hlf;rw[Ud,wR (Xh _)] at hf;rw[jiT (m:=lws P n k) (jhC P n k) (fun x=>?_) (by omega) (by have:=Ye P n k; omega)]
   ·simp only[MM.bs];rw[MM.app (by simp; omega)];simp only[MM.bs];refine⟨_,rfl,?_⟩;rw[w4,List.map_append];rfl
   ·rw[hf x];constructor
    ·rintro⟨p,hp,e,r⟩;obtain⟨h2,h3⟩:=o p hp;rcases r with rfl | ⟨t,ht,rfl⟩
     ·exact⟨p.1,(zq o hk).mpr ((jaM o hk).mpr ⟨p,hp,e,.inl rfl⟩),rfl⟩
     ·exact⟨t,(zq o hk).mpr ((jaM o hk).mpr ⟨p,hp,e,.inr ((zq o (by omega)).mp ht)⟩),rfl⟩
    ·rintro⟨t,ht,rfl⟩;obtain⟨p,hp,e,r⟩:=(jaM o hk).mp ((zq o hk).mp ht);obtain⟨h2,h3⟩:=o p hp;refine⟨p,hp,e,?_⟩;rcases r with rfl | r
     ·exact .inl rfl
     ·exact .inr ⟨t,(zq o (by omega)).mpr r,rfl⟩
 ·rintro z rfl;rfl
theorem jaQ {l:List Nat} (hl:∀ t∈l,t<=1000):zO (zn l)=some (((l.map fun t=>2 ^ t).sum:Nat):Int):=by
 unfold zO;simp only[MM.bs];refine MM.forM_thenL (R:=fun r=>r=some (((l.map fun t=>2 ^ t).sum:Nat):Int)) (fun j (z:Int)=>z=((((l.take j).map fun t=>2 ^ t).sum:Nat):Int)) rfl ?_ ?_
 ·rintro j x z hx rfl;obtain⟨t,ht,rfl⟩:∃ t,l[j]?=some t/\x=(t:Int):=by
   unfold zn at hx;rw[Xy] at hx;obtain⟨p,hp,e⟩:=Option.map_eq_some_iff.mp hx;exact⟨p,hp,e.symm⟩
  have hm:=hl t (XG ht);rw[MM.rng (by omega),MM.bs];refine MM.forM_then (R:=fun r=>∃ b',r=some b'/\b'=((((l.take (j+1)).map fun t=>2 ^ t).sum:Nat):Int)) (fun k (z:Int)=>z=((2 ^ k:Nat):Int)) rfl ?_ ?_
  ·rintro k z hk rfl;refine⟨_,rfl,?_⟩;rw[Nat.pow_succ]
   push_cast
   rfl
  ·rintro z rfl;refine⟨_,rfl,?_⟩;rw[List.take_add_one,ht,List.map_append,List.sum_append]
   push_cast
   simp
 ·rintro z rfl;rw[j8,wR (Xh _)]
theorem jgL {b:Nat} (hb:b<2 ^ n) (hn:n<=1000):zO (zn (ths n b))=some (b:Int):=by
 rw[jaQ fun t ht=>by have:=(jeM ht).1; omega,jeQ hb]
theorem Ja (ns:List Int) (k:Nat):∃ c,zN ns (k:Int)=some c:=by
 unfold zN;obtain⟨c0,e0⟩:=Gb ns 0;have e0':zd ns 0=some c0:=e0;rw[e0'];simp only[MM.bs];cases hq:decide (c0 % 2=0) with
 | true=>
  simp only[MM.ct];exact Gb ns k
 | false=>
  simp only[MM.cf];exact zQ ns k
theorem je0 (o:Ok P n) (h9:n<=9) (ns:List Int) (at_:Nat):∃ l,Ln P n l/\Uc (udr P n) ns (at_:Int)=some (zn l):=by
 unfold Uc;obtain⟨c0,e0⟩:=Gb ns at_;obtain⟨c1,e1⟩:=Gb ns 0;obtain⟨c3,e3⟩:=zQ ns 3;have e1':zd ns 0=some c1:=e1;have e3':kr ns 3=some c3:=e3;rw[e0];simp only[MM.bs];rw[jeO];refine Yf (T:=fun r=>∃ l,Ln P n l/\r=some (zn l)) (fun k (z:List Int×Int)=>∃ l:List Nat,z.1=zn l/\k+l.length=n/\l.Nodup/\(∀ t∈l,t<n)/\(l.Pairwise fun x y=>bl P n y x=false)/\∀ t∈l,∀ s,bl P n s t=true->s∈l)
  (fun z=>∃ l:List Nat,z.1=zn l/\Ln P n l) n (by omega) ⟨[],rfl,by simp,List.nodup_nil,by simp,.nil,by simp⟩ ?_ ?_
 ·rintro k ⟨z1,z2⟩ ⟨l,rfl,hk,nd,lt,pw,dc⟩;dsimp only;have hll:l.length<=n:=by omega
  by_cases hlt:l.length<n
  ·right
   have hb:∀ s,(MB.setN l).testBit s=true ↔ s∈l:=fun s=>by rw[MB.setN_bit,Xs]
   have hdl:(Dr P n (MB.setN l)).length<=n:=by
    have:=wY (fun t=>!(MB.setN l).testBit t&&decide ((MB.setN l) &&& (bel P n).getD t 0=(bel P n).getD t 0)) (List.range n);rw[XJ] at this;exact this
   have hpos:0<(Dr P n (MB.setN l)).length:=by
    rcases Nat.eq_zero_or_pos (Dr P n (MB.setN l)).length with h0 | h0
    ·have:=jkf o (List.length_eq_zero_iff.mp h0);have b:=G_ id (List.nodup_range (n:=n)) (fun x hx=>(hb x).mp (this x (Xu.mp hx))) (fun _ _ _ _ e=>e);rw[XJ] at b;omega
    ·exact h0
   refine⟨by rw[j8]; exact congrArg some (Xl (by omega)),?_⟩;rw[MM.rng (by omega),MM.bs];refine MM.forM_then (R:=fun r=>∃ (b':List Int×Int) (k':Nat),r=some b'/\k'<k/\∃ l:List Nat,b'.1=zn l/\k'+l.length=n/\l.Nodup/\(∀ t∈l,t<n)/\(l.Pairwise fun x y=>bl P n y x=false)/\∀ t∈l,∀ s,bl P n s t=true->s∈l)
    (fun k (f:List Int)=>f=zn ((List.range k).filter fun t=>decide (t∈Dr P n (MB.setN l)))) rfl ?_ ?_
   ·rintro j f hj rfl;have hfl:=wY (fun t=>decide (t∈Dr P n (MB.setN l))) (List.range j);rw[XJ] at hfl;rw[jeS (b:=MB.setN l) o h9 hj (fun s hs=>(hb s).symm)];simp only[MM.bs];rw[w4,List.filter_append];by_cases h:j∈Dr P n (MB.setN l)
    ·rw[Xl h,MM.ct,MM.app (by rw[j8]; omega)];simp only[MM.bs];refine⟨_,rfl,?_⟩;simp[zn,h]
    ·rw[Xp h,MM.cf];simp only[MM.bs];refine⟨_,rfl,?_⟩;simp[h]
   ·rintro f rfl;have ef:(List.range n).filter (fun t=>decide (t∈Dr P n (MB.setN l)))=Dr P n (MB.setN l):=by
     conv=>rhs; unfold Dr
     refine List.filter_congr fun t ht=>?_;rw[XR,Xs];unfold Dr;rw[XX];exact and_iff_right ht
    rw[ef,e1',e3'];simp only[MM.bs];obtain⟨cell,ecell⟩:∃ cell,(bif decide (c1 % 2=1) then ((kr ns ((at_:Int)+((zn l).length:Int))).bind fun t18=>((Y7 (c3 / 11) (((zn l).length:Int)+1))).bind fun t19=>some ((t18+t19))).bind fun cell=>some cell else some z2)=some cell:=by
     cases hq:decide (c1 % 2=1) with
     | false=>exact ⟨z2,by rw[MM.cf]⟩
     | true=>
      obtain⟨c4,e4⟩:=zQ ns (at_+l.length);have e4':kr ns ((at_:Int)+((zn l).length:Int))=some c4:=by
       have:(at_:Int)+((zn l).length:Int)=((at_+l.length:Nat):Int):=by rw[j8]; omega
       rw[this]; exact e4
      have em:Y7 (c3 / 11) (((zn l).length:Int)+1)=some (c3 / 11 * (((zn l).length:Int)+1)):=by
       unfold Y7;exact if_pos (.inr ⟨by rw[j8]; omega,by rw[j8]; omega⟩)
      rw[MM.ct,e4',em];simp only[MM.bs];exact⟨_,rfl⟩
    rw[ecell];simp only[MM.bs];rw[j8,MM.modP (by omega)];obtain⟨m,hm,em⟩:∃ m:Nat,m<(Dr P n (MB.setN l)).length/\cell % ((Dr P n (MB.setN l)).length:Int)=(m:Int):=by
     have a1:=wN cell (show ((Dr P n (MB.setN l)).length:Int)≠0 by omega);have a2:=wW cell (show (0:Int)<((Dr P n (MB.setN l)).length:Int) by omega);exact⟨(cell % ((Dr P n (MB.setN l)).length:Int)).toNat,by omega,by omega⟩
    simp only[MM.bs,em];rw[jiP hm];simp only[MM.bs];have hmem:(Dr P n (MB.setN l)).getD m 0∈Dr P n (MB.setN l):=getD_mem hm;generalize (Dr P n (MB.setN l)).getD m 0=d at hmem ⊢;obtain⟨d1,d2,d3⟩:=(Wx o).mp hmem;have dn:d∉l:=fun z=>by rw[(hb d).mpr z] at d2; cases d2
    have dlow:∀ s,bl P n s d=true->s∈l:=fun s hs=>(hb s).mp (d3 s (Nat.lt_trans (Uo o d1 hs) d1) hs);rw[MM.app (by rw[j8]; omega)];simp only[MM.bs];rw[MM.divP (by omega) (by
      have:(2:Int) ^ 250 > 1000:=by decide
      omega)]
    simp only[MM.bs];refine⟨_,k-1,rfl,by omega,l++[d],by rw[ZG]; rfl,by simp; omega,?_,?_,?_,?_⟩
    ·rw[List.nodup_append];exact⟨nd,by simp,fun a ha b hb e=>by rw[XQ] at hb; subst hb; subst e; exact dn ha⟩
    ·intro t ht;rcases List.mem_append.mp ht with ht | ht
     ·exact lt t ht
     ·rw[XQ.mp ht]; exact d1
    ·rw[X7];refine⟨pw,by simp,fun a ha b hb=>?_⟩;rw[XQ] at hb;subst hb;cases hz:bl P n b a with
     | false=>rfl
     | true=>exact absurd (dc a ha b hz) dn
    ·intro t ht s hs;rcases List.mem_append.mp ht with ht | ht
     ·exact wb _ (dc t ht s hs)
     ·rw[XQ.mp ht] at hs;exact wb _ (dlow s hs)
  ·left
   refine⟨by rw[j8]; exact congrArg some (Xp (by omega)),l,rfl,nd,fun t=>⟨lt t,fun ht=>?_⟩,pw⟩;apply Classical.byContradiction;intro hn;have a:=G_ id (A:=t::l) (B:=List.range n) (List.nodup_cons.mpr ⟨hn,nd⟩) (fun x hx=>Xu.mpr (by
    rcases Xk.mp hx with rfl | hx
    ·exact ht
    ·exact lt x hx)) (fun _ _ _ _ e=>e)
   rw[XJ,Xm] at a;omega
 ·rintro⟨z1,z2⟩ ⟨l,rfl,hl⟩;exact⟨l,hl,rfl⟩
theorem Vs {t:Nat} (ht:t<n):jY (qP P n) (t:Int)=some ():=by
 unfold jY;have e:(decide ((0:Int)<=(t:Int))&&decide ((t:Int)<(qP P n).many))=true:=by
  rw[XB];exact⟨Xl (by omega),Xl (by show (t:Int)<(n:Int); omega)⟩
 rw[e,XE,MM.cf]
theorem jgM {b:Nat} (o:Ok P n) (h9:n<=9) (hd:dsB P n b=true):qR (qP P n) (b:Int)=some ((gr P n b:Nat):Int):=by
 have hdl:∀ t∈Dr P n b,t<n:=fun t ht=>((Wx o).mp ht).1;unfold qR;rw[jgJ h9 hd];simp only[MM.bs];have e1:qA ((MB.setN ((List.range n).filter fun t=>!b.testBit t&&decide (b &&& (bel P n).getD t 0=(bel P n).getD t 0)):Nat):Int)=some (zn (Dr P n b)):=by
  have:=yf (n:=n) (b:=MB.setN (Dr P n b)) (jgF hdl) (by omega);rw[jeR] at this;exact this
 rw[e1];simp only[MM.bs];refine MM.forM_thenL (R:=fun r=>r=some ((gr P n b:Nat):Int)) (fun j (z:Int)=>z=((((Dr P n b).take j).foldl (fun a t=>a ||| (bel P n).getD t 0) (MB.setN (Dr P n b)):Nat):Int)) rfl ?_ ?_
 ·rintro j x z hx rfl;obtain⟨t,ht,rfl⟩:∃ t,(Dr P n b)[j]?=some t/\x=(t:Int):=by
   unfold zn at hx;rw[Xy] at hx;obtain⟨p,hp,e⟩:=Option.map_eq_some_iff.mp hx;exact⟨p,hp,e.symm⟩
  have htn:=hdl t (XG ht);have eb:(qP P n).beneath=zn (bel P n):=rfl;rw[eb,Vo htn];simp only[MM.bs];refine⟨_,rfl,?_⟩;rw[MB.or_nat,List.take_add_one,ht,List.foldl_append];rfl
 ·rintro z rfl;rw[j8,wR (Xh _),jla o]
theorem jcE {b:Nat} (o:Ok P n) (h9:n<=9) (hd:dsB P n b=true):qd ⟨qP P n⟩ (b:Int)=some ((gr P n b:Nat):Int):=by
 unfold qd;exact jgM o h9 hd
theorem jcF (m:MOrder):xt m=some ⟨m⟩:=by
 unfold xt;rw[MM.bs]
theorem ZK {l:List Nat} (o:Ok P n) (h9:n<=9) (h:Ln P n l):kS (qP P n) (zn l)=some true:=by
 have hlen:=h.len;unfold kS;rw[size,jgE (m:=List.range n) (Yc h.nd) List.pairwise_lt_range (fun x=>by
  rw[mem_zn];constructor
  ·rintro⟨t,ht,rfl⟩; exact ⟨t,Xu.mpr ((h.mem t).mp ht),rfl⟩
  ·rintro⟨t,ht,rfl⟩; exact ⟨t,(h.mem t).mpr (Xu.mp ht),rfl⟩) (by rw[j8]; omega)]
 simp only[MM.bs];rw[jgG (by omega)];simp only[MM.bs];rw[MM.isEq_self,XE,MM.cf];refine jcw (R:=fun r=>r=some true) (fun k (z:Int)=>z=((MB.setN (l.take k):Nat):Int)) rfl (fun k x z hx hz=>?_) (fun z _=>by rw[eln])
 ·subst hz;obtain⟨t,ht,rfl⟩:∃ t,l[k]?=some t/\x=(t:Int):=by
   unfold zn at hx;rw[Xy] at hx;obtain⟨p,hp,e⟩:=Option.map_eq_some_iff.mp hx;exact⟨p,hp,e.symm⟩
  have htn:t<n:=(h.mem t).mp (XG ht);obtain⟨hk,ek⟩:=List.getElem?_eq_some_iff.mp ht;have es:l=l.take k++t::l.drop (k+1):=by
   rw[<- ek,<- wZ hk,List.take_append_drop]
  have eb:(qP P n).beneath=zn (bel P n):=rfl;rw[eb,Vo htn];simp only[MM.bs];rw[Qu,Xl ((Vp o htn).mpr fun s hs hst=>by rw[MB.setN_bit]; exact Xl (h.before o es hst))];simp only[MM.bs,XE,MM.cf];rw[MM.shl1 (by omega)];simp only[MM.bs];refine⟨_,rfl,?_⟩;rw[MB.or_nat,List.take_add_one,ht];unfold MB.setN;rw[List.foldl_append];rfl
theorem Yh {l:List Nat} (o:Ok P n) (h9:n<=9) (h:Ln P n l):((((kS (qP P n) (zn l))).bind fun t1=>some ((!t1)))).bind (fun q2=>bif q2 then (none:Option Unit) else some ())=some ():=by
 rw[ZK o h9 h];simp only[MM.bs,XE,MM.cf]
theorem Q2 {l:List Nat} (o:Ok P n) (h9:n<=9) (h:Ln P n l):j3 (qP P n) (zn l)=some ():=by
 unfold j3;exact Yh o h9 h
theorem Yi:∀ (w:List Nat) {l:List Nat},(∀ i∈w,i+1<n)->Ln P n l->Ln P n (w.foldl (swp P n) l)
 | [],_,_,h=>h
 | i::w,_,hw,h=>Yi w (fun j hj=>hw j (Xf _ hj)) (h.swp (hw i Xi))
theorem Yj (h9:n<=9) (hg:g<n):ke (qP P n) (g:Int)=some (zn (ja P n g)):=by
 unfold ke;have en:(qP P n).neighbours=zp (cvs P n):=rfl;have hl:=UK P h9;rw[Vs hg,MM.bs,en,MM.comp (fun z:Int×Int=>decide (z.1=(g:Int))) (fun z=>z.2) (by rw[Ud]; omega) (fun _ _=>rfl) (fun _ _ _=>rfl)];congr 1;unfold zp zn ja;rw[List.filter_map,List.map_map,List.map_map];have:((fun z:Int×Int=>decide (z.1=(g:Int))) ∘ fun p:Nat×Nat=>((p.1:Int),(p.2:Int)))=fun p=>decide (p.1=g):=by
  funext p
  simp only[Function.comp_def];rw[decide_eq_decide];omega
 rw[this];rfl
theorem je1 {r:List Nat} (hl:tt.length<=1000):jT (zn r) (zn tt)=some (hgh r tt):=by
 unfold jT;rw[jiU (fun k=>decide (k∈r)) (fun k=>(jaq (zn r) (k:Int)).getD 0) (by omega) (fun k _=>by rw[Yb]) (fun k _ hk=>by
  have hm:=wJ hk;obtain⟨u,v,hu,e⟩:∃ u v,k∉u/\r=u++k::v:=by
   obtain⟨u,v,e,h⟩:=List.eq_append_cons_of_mem hm;exact⟨u,v,h,e⟩
  rw[e,Vq hu];rfl)]
 rfl
theorem jkq (h9:n<=9):(ja P n g).length<=1000:=by
 unfold ja;rw[Xr];have:=wY (fun p:Nat×Nat=>decide (p.1=g)) (cvs P n);have:=UK P h9;omega
theorem je2 {g0:Nat}{v0:List Nat} (o:Ok P n) (h9:n<=9) (S:Sg P n (g0::v0)) (hl:v0.length<=9):G9 (qP P n) (zn (g0::v0))=some (zn (Uq P n g0 v0)):=by
 unfold G9;have e0:pAt (zn (g0::v0)) 0=some (g0:Int):=jaN (a:=[]);simp only[MM.bs,e0];have step:∀ g,g<n->((ke (qP P n) (g:Int)).bind fun t2=>jT (zn (g0::v0)) t2)=some (hgh (g0::v0) (ja P n g)):=fun g hg=>by
  rw[Yj h9 hg,MM.bs,je1 (jkq h9)]
 rw[step g0 (S.lt g0 Xi)];simp only[MM.bs];refine Yf (T:=fun r=>r=some (zn (Uq P n g0 v0)))
  (fun k (z:List Int×Int×List Int)=>∃ (u:List Nat) (g:Nat) (v w:List Nat),g0::v0=u++g::v/\z=(zn (w++v),(g:Int),hgh (g0::v0) (ja P n g))/\w.length=u.length+1/\w.drop 1++Uq P n g v=Uq P n g0 v0/\k=v.length)
  (fun z=>∃ (g:Nat) (v w:List Nat),z.1=zn (w++v)/\z.2.1=((g:Nat):Int)/\1<=w.length/\w.drop 1++(v++[g])=Uq P n g0 v0/\(w++v).length<=100)
  v0.length (by omega) ⟨[],g0,v0,[g0],rfl,rfl,rfl,rfl,rfl⟩ ?_ ?_
 ·rintro k z ⟨u,g,v,w,er,rfl,hw,ht,rfl⟩;have hgn:g<n:=S.lt g (by rw[er]; simp);have hlr:=congrArg List.length er;rw[Xm,Xj,Xm] at hlr;have S':=S;rw[er] at S';rcases Vr P n g v with h | ⟨a,x,b,rfl,ha,hx⟩
  ·left
   have:=jcx o S' h;rw[<- er] at this;rw[this];refine⟨rfl,g,v,w,rfl,rfl,by omega,?_,by rw[Xj]; omega⟩;rw[<- ZI h];exact ht
  ·right
   obtain⟨ne,mn⟩:=jcy o S' ha hx;rw[<- er] at ne mn;have hxn:x<n:=S.lt x (by rw[er]; simp);refine⟨by
    have:(hgh (g0::v0) (ja P n g)).length≠0:=fun z=>ne (List.length_eq_zero_iff.mp z);exact congrArg some (Xl (by show (0:Int)<((hgh (g0::v0) (ja P n g)).length:Int); omega)),(zn ((w++a++[g])++b),(x:Int),hgh (g0::v0) (ja P n x)),b.length,?_,by simp; omega,u++g::a,x,b,w++a++[g],by rw[er]; simp,rfl,by simp; omega,?_,rfl⟩
   ·have em:jel (hgh (g0::v0) (ja P n g))=some ((u.length+1+a.length:Nat):Int):=by
     unfold jel;rw[if_neg ne,mn]
    rw[em];simp only[MM.bs];have es:jfg (zn (w++(a++x::b))) ((u.length+1+a.length:Nat):Int) (g:Int)=some (zn ((w++a++[g])++b)):=by
     unfold jfg;rw[j8,jeN (by rw[Xj,Xj,Xm]; omega),MM.bs];congr 1;have e1:w++(a++x::b)=(w++a)++x::b:=by simp
     have e2:u.length+1+a.length=(w++a).length:=by simp; omega
     unfold zn;rw[<- List.map_set,e1,e2,List.set_append_right _ _ (Xh _),Nat.sub_self];simp
    have eg:pAt (zn (g0::v0)) ((u.length+1+a.length:Nat):Int)=some (x:Int):=by
     have e1:g0::v0=(u++g::a)++x::b:=by rw[er]; simp
     have e2:u.length+1+a.length=(u++g::a).length:=by simp; omega
     rw[e1,e2];exact jaN
    rw[es];simp only[MM.bs];rw[eg];simp only[MM.bs];rw[step x hxn];simp only[MM.bs]
   ·rw[<- ht,ZJ hx ha];cases w with
    | nil=>simp at hw
    | cons w0 w=>simp
 ·rintro⟨z1,z2,z3⟩ ⟨g,v,w,rfl,rfl,hw,ht,hlen⟩;dsimp only;have ec:cut (zn (w++v)) (some 1) none=zn ((w++v).drop 1):=by
   rw[<- Q0];exact JD (i:=1)
  rw[ec,MM.cat (by rw[j8,wF,wk]; omega)];simp only[MM.bs];rw[<- ht];congr 1;cases w with
  | nil=>simp at hw
  | cons w0 w=>simp[zn]
theorem Yk (h9:n<=9) (hg:g<n):kf (qP P n) (g:Int)=some (zn (jw P n g)):=by
 unfold kf;have en:(qP P n).neighbours=zp (cvs P n):=rfl;have hl:=UK P h9;rw[Vs hg,MM.bs,en,MM.comp (fun z:Int×Int=>decide (z.2=(g:Int))) (fun z=>z.1) (by rw[Ud]; omega) (fun _ _=>rfl) (fun _ _ _=>rfl)];congr 1;unfold zp zn jw;rw[List.filter_map,List.map_map,List.map_map];have:((fun z:Int×Int=>decide (z.2=(g:Int))) ∘ fun p:Nat×Nat=>((p.1:Int),(p.2:Int)))=fun p=>decide (p.2=g):=by
  funext p
  simp only[Function.comp_def];rw[decide_eq_decide];omega
 rw[this];rfl
theorem jcG {r:List Nat} (hl:tt.length<=1000):jT (zn r) (zn tt)=some (hgh r tt):=by
 unfold jT;rw[jiU (fun k=>decide (k∈r)) (fun k=>(jaq (zn r) (k:Int)).getD 0) (by omega) (fun k _=>by rw[Yb]) (fun k _ hk=>by
  have hm:=wJ hk;obtain⟨u,v,hu,e⟩:∃ u v,k∉u/\r=u++k::v:=by
   obtain⟨u,v,e,h⟩:=List.eq_append_cons_of_mem hm;exact⟨u,v,h,e⟩
  rw[e,Vq hu];rfl)]
 rfl
theorem jkr (h9:n<=9):(jw P n g).length<=1000:=by
 unfold jw;rw[Xr];have:=wY (fun p:Nat×Nat=>decide (p.2=g)) (cvs P n);have:=UK P h9;omega
theorem ZL {g0:Nat}{u0:List Nat} (o:Ok P n) (h9:n<=9) (S:Sg P n (u0++[g0])) (hl:u0.length<=9):q9 (qP P n) (zn (u0++[g0]))=some (zn (dm P n u0 g0)):=by
 unfold q9;have e0:pAt (zn (u0++[g0])) (-1)=some (g0:Int):=by
  have:=jiR (S:=u0++[g0]) (by simp);rw[this];simp
 simp only[MM.bs,e0];have step:∀ g,g<n->((kf (qP P n) (g:Int)).bind fun t2=>jT (zn (u0++[g0])) t2)=some (hgh (u0++[g0]) (jw P n g)):=fun g hg=>by
  rw[Yk h9 hg,MM.bs,jcG (jkr h9)]
 rw[step g0 (S.lt g0 (by simp))];simp only[MM.bs];refine Yf (T:=fun r=>r=some (zn (dm P n u0 g0)))
  (fun k (z:List Int×Int×List Int)=>∃ (u:List Nat) (g:Nat) (v w:List Nat),u0++[g0]=u++g::v/\z=(zn (u++w),(g:Int),hgh (u0++[g0]) (jw P n g))/\w.length=v.length+1/\dm P n u g++w.dropLast=dm P n u0 g0/\k=u.length)
  (fun z=>∃ (g:Nat) (u w:List Nat),z.1=zn (u++w)/\z.2.1=((g:Nat):Int)/\1<=w.length/\(g::u)++w.dropLast=dm P n u0 g0/\(u++w).length<=100)
  u0.length (by omega) ⟨u0,g0,[],[g0],rfl,rfl,rfl,by simp,rfl⟩ ?_ ?_
 ·rintro k z ⟨u,g,v,w,er,rfl,hw,ht,rfl⟩;have hgn:g<n:=S.lt g (by rw[er]; simp);have hlr:=congrArg List.length er;simp only[Xj,Xm,List.length_nil] at hlr;have S':=S;rw[er] at S';rcases jcB P n g u with h | ⟨a,x,b,rfl,hb,hx⟩
  ·left
   have:=jcz o S' h;rw[<- er] at this;rw[this];refine⟨rfl,g,u,w,rfl,rfl,by omega,?_,by rw[Xj]; omega⟩;rw[<- jiW h];exact ht
  ·right
   obtain⟨ne,mn⟩:=jcA o S' hb hx;rw[<- er] at ne mn;have hxn:x<n:=S.lt x (by rw[er]; simp);refine⟨by
    have:(hgh (u0++[g0]) (jw P n g)).length≠0:=fun z=>ne (List.length_eq_zero_iff.mp z);exact congrArg some (Xl (by show (0:Int)<((hgh (u0++[g0]) (jw P n g)).length:Int); omega)),(zn (a++(g::b++w)),(x:Int),hgh (u0++[g0]) (jw P n x)),a.length,?_,by simp,a,x,b++g::v,g::b++w,by rw[er]; simp,rfl,by simp; omega,?_,rfl⟩
   ·have em:jem (hgh (u0++[g0]) (jw P n g))=some ((a.length:Nat):Int):=by
     unfold jem;rw[if_neg ne,mn]
    rw[em];simp only[MM.bs];have es:jfg (zn ((a++x::b)++w)) ((a.length:Nat):Int) (g:Int)=some (zn (a++(g::b++w))):=by
     unfold jfg;rw[j8,jeN (by simp),MM.bs];congr 1;have e1:(a++x::b)++w=a++x::(b++w):=by simp
     unfold zn;rw[<- List.map_set,e1,List.set_append_right _ _ (Xh _),Nat.sub_self];simp
    have eg:pAt (zn (u0++[g0])) ((a.length:Nat):Int)=some (x:Int):=by
     have e1:u0++[g0]=a++x::(b++g::v):=by rw[er]; simp
     rw[e1];exact jaN
    rw[es];simp only[MM.bs];rw[eg];simp only[MM.bs];rw[step x hxn];simp only[MM.bs]
   ·rw[<- ht,jiX hx hb];have:w≠[]:=fun z=>by rw[z] at hw; simp at hw
    rw[List.dropLast_append_of_ne_nil this];simp
 ·rintro⟨z1,z2,z3⟩ ⟨g,u,w,rfl,rfl,hw,ht,hlen⟩;dsimp only;have ec:cut (zn (u++w)) none (some (-1))=zn ((u++w).dropLast):=by
   have hp:0<(u++w).length:=by rw[Xj]; omega
   unfold cut;rw[HT.sIx_none,List.drop_zero,Nat.sub_zero,j8];have:HT.sIx (u++w).length (u++w).length (some (-1))=(u++w).length-1:=by
    show (if (-1:Int)<0 then ((-1:Int)+((u++w).length:Int)).toNat else min (-1:Int).toNat (u++w).length)=_;rw[if_pos (by decide)];omega
   rw[this,QZ,List.dropLast_eq_take]
  rw[ec,MM.cat (by rw[j8,List.length_dropLast,wk]; omega)];simp only[MM.bs];rw[<- ht];congr 1;have:w≠[]:=fun z=>by rw[z] at hw; simp at hw
  rw[List.dropLast_append_of_ne_nil this];simp[zn]
theorem JY {P:List (Nat×Nat)}{n:Nat}{c:List Nat}:∀ (v a:List Nat) (g:Nat),(List.range' a.length v.length).foldl (swp P n) (a++g::(v++c))=a++Uq P n g v++c
 | [],a,g=>by simp[Uq]
 | x::v,a,g=>by
  rw[Xm,List.range'_succ,List.foldl_cons,List.cons_append,jbI]
  conv=>rhs; unfold Uq
  split
  ·have:=JY (P:=P) (n:=n) (c:=c) v (a++[g]) x;simp only[Xj,wk,List.append_assoc,List.singleton_append,List.cons_append,List.nil_append] at this ⊢;exact this
  ·have:=JY (P:=P) (n:=n) (c:=c) v (a++[x]) g;simp only[Xj,wk,List.append_assoc,List.singleton_append,List.cons_append,List.nil_append] at this ⊢;exact this
theorem Vt {a:List Nat}:∀ (r:List Nat) (c:List Nat) (g:Nat),((List.range' a.length r.length).reverse).foldl (swp P n) (a++r.reverse++g::c)=a++dmr P n g r++c
 | [],c,g=>by simp[dmr]
 | x::r,c,g=>by
  rw[Xm,List.range'_1_concat,List.reverse_append,List.reverse_singleton,List.singleton_append,List.foldl_cons,List.reverse_cons];have el:a.length+r.length=(a++r.reverse).length:=by simp
  have es:swp P n (a++(r.reverse++[x])++g::c) (a.length+r.length)=if bl P n x g=true then a++r.reverse++x::g::c else a++r.reverse++g::x::c:=by
   rw[el,show a++(r.reverse++[x])++g::c=(a++r.reverse)++x::g::c by simp];exact jbI
  rw[es]
  conv=>rhs; unfold dmr
  split
  ·rw[Vt r (g::c) x]; simp
  ·rw[Vt r (x::c) g]; simp
theorem Ln.sgT {a c:List Nat} (o:Ok P n) (h:Ln P n (a++c)):Sg P n a:=by
 have s:=h.sg o;obtain⟨p1,p2,p3⟩:=X7.mp h.pw;refine⟨(List.nodup_append.mp h.nd).1,fun t ht=>s.lt t (wb _ ht),p1,fun x y m hx hy h1 h2=>?_⟩;rcases List.mem_append.mp (s.cv x y m (wb _ hx) (wb _ hy) h1 h2) with hm | hm
 ·exact hm
 ·rw[p3 y hy m hm] at h2; cases h2
theorem Ln.sgD {a c:List Nat} (o:Ok P n) (h:Ln P n (a++c)):Sg P n c:=by
 have s:=h.sg o;obtain⟨p1,p2,p3⟩:=X7.mp h.pw;refine⟨(List.nodup_append.mp h.nd).2.1,fun t ht=>s.lt t (XM _ ht),p2,fun x y m hx hy h1 h2=>?_⟩;rcases List.mem_append.mp (s.cv x y m (XM _ hx) (XM _ hy) h1 h2) with hm | hm
 ·rw[p3 m hm x hx] at h1; cases h1
 ·exact hm
theorem Yl:∀ (v:List Nat) (g:Nat),(Uq P n g v).length=v.length+1
 | [],g=>rfl
 | x::v,g=>by
  unfold Uq;split
  ·rw[Xm,Yl v x,Xm]
  ·rw[Xm,Yl v g,Xm]
theorem jaR:∀ (r:List Nat) (g:Nat),(dmr P n g r).length=r.length+1
 | [],g=>rfl
 | x::r,g=>by
  unfold dmr;split
  ·rw[Xj,jaR r x]; rfl
  ·rw[Xj,jaR r g]; rfl
theorem jcH {l:List Nat}{e:Nat}{sl:List Int->Option (List Int)} (hsl:∀ g v,Sg P n (g::v)->v.length<=9->sl (zn (g::v))=some (zn (Uq P n g v))) (o:Ok P n) (h9:n<=9) (L:Ln P n l) (h1:1<=e) (hn:e<=n) :
  (((sl (cut (zn l) none (some (e:Int)))).bind fun t2=>(some (cut (zn l) (some (e:Int)) none)).bind fun t3=>Um t2 t3).bind fun row=>some row)=some (zn ((List.range (e-1)).foldl (swp P n) l)):=by
 have hlen:=L.len;rw[ZF,JD,QZ,Q0];obtain⟨g,v,ev⟩:∃ g v,l.take e=g::v:=by
  cases q:l.take e with
  | nil=>
   have:=congrArg List.length q;rw[wT,List.length_nil] at this;omega
  | cons g v=>exact ⟨g,v,rfl⟩
 have hv:v.length=e-1:=by
  have:=congrArg List.length ev;rw[wT,Xm] at this;omega
 have el:l=(g::v)++l.drop e:=by rw[<- ev,List.take_append_drop]
 have L':Ln P n ((g::v)++l.drop e):=el ▸ L;rw[ev,hsl g v (L'.sgT o) (by omega),MM.bs,MM.bs,MM.cat (by rw[j8,j8,Yl,wF]; omega),MM.bs,<- ZG];have:=JY (P:=P) (n:=n) (c:=l.drop e) v [] g;rw[hv,List.length_nil,List.nil_append,List.nil_append,<- List.range_eq_range',<- List.cons_append,<- el] at this;rw[this]
theorem jcI {l:List Nat}{k:Nat}{sl:List Int->Option (List Int)} (hsl:∀ u g,Sg P n (u++[g])->u.length<=9->sl (zn (u++[g]))=some (zn (dm P n u g))) (o:Ok P n) (h9:n<=9) (L:Ln P n l) (hk:k<n) :
  (((some (cut (zn l) none (some (k:Int)))).bind fun t2=>(sl (cut (zn l) (some (k:Int)) none)).bind fun t3=>Um t2 t3).bind fun row=>some row)=some (zn ((rW (n-1) k).foldl (swp P n) l)):=by
 have hlen:=L.len;rw[ZF,JD,QZ,Q0];obtain⟨u,g,ev⟩:∃ u g,l.drop k=u++[g]:=by
  rcases List.eq_nil_or_concat (l.drop k) with q | ⟨u,g,q⟩
  ·have:=congrArg List.length q;rw[wF,List.length_nil] at this;omega
  ·exact⟨u,g,by rw[q,List.concat_eq_append]⟩
 have hu:u.length=n-1-k:=by
  have:=congrArg List.length ev;rw[wF,Xj,wk] at this;omega
 have el:l=l.take k++(u++[g]):=by rw[<- ev,List.take_append_drop]
 have L':Ln P n (l.take k++(u++[g])):=el ▸ L;have hdl:(dm P n u g).length=u.length+1:=by unfold dm; rw[jaR,List.length_reverse]
 rw[ev,hsl u g (L'.sgD o) (by omega),MM.bs,MM.bs,MM.cat (by rw[j8,j8,hdl,wT]; omega),MM.bs,<- ZG];have:=Vt (P:=P) (n:=n) (a:=l.take k) u.reverse [] g;rw[List.length_reverse,hu,List.reverse_reverse,wM,wT,hlen,show min k n=k by omega,List.append_assoc,<- el] at this;unfold rW eW;rw[this];rfl
theorem jcJ {l:List Nat}{sl:List Int->Option (List Int)} (hsl:∀ g v,Sg P n (g::v)->v.length<=9->sl (zn (g::v))=some (zn (Uq P n g v))) (o:Ok P n) (h9:n<=9) (L:Ln P n l) :
  ((jaG (n:Int) 1).bind fun l4=>L3.forM l4 (zn l) (fun row end_=>(((sl (cut row none (some end_))).bind fun t2=>(some (cut row (some end_) none)).bind fun t3=>Um t2 t3).bind fun row=>some row)))=some (zn ((dW (n-1)).foldl (swp P n) l)):=by
 have er:jaG (n:Int) 1=some ((List.range (n-1)).map fun k=>(((n-k:Nat):Nat):Int)):=by
  unfold jaG;rw[if_pos ⟨by omega,by omega,by omega,by omega⟩];unfold Wp;rw[show ((n:Int)-1).toNat=n-1 by omega];congr 1;refine List.map_congr_left fun k hk=>?_;have:=Xu.mp hk;omega
 rw[er,MM.bs,<- Option.bind_fun_some (L3.forM _ _ _)];refine MM.forM_thenL (R:=fun x=>x=some (zn ((dW (n-1)).foldl (swp P n) l))) (fun k row=>row=zn (((List.range k).flatMap fun i=>List.range (n-1-i)).foldl (swp P n) l)) rfl (fun k x row hx hrow=>?_) (fun row hrow=>?_)
 ·subst hrow;rw[Xy] at hx;cases q:(List.range (n-1))[k]? with
  | none=>rw[q] at hx; cases hx
  | some j=>
   rw[q] at hx;obtain⟨hk,ek⟩:=List.getElem?_eq_some_iff.mp q;rw[XJ] at hk;rw[List.getElem_range] at ek;subst ek;cases hx;have L1:=Yi (P:=P) (n:=n) ((List.range k).flatMap fun i=>List.range (n-1-i)) (fun i hi=>by
    obtain⟨j,_,hj⟩:=List.mem_flatMap.mp hi;have:=Xu.mp hj;omega) L
   refine⟨_,jcH hsl o h9 L1 (by omega) (by omega),?_⟩;rw[w4,List.flatMap_append,List.flatMap_singleton,List.foldl_append,show n-k-1=n-1-k by omega]
 ·subst hrow;rw[Xr,XJ,jlc]
theorem jcK {l:List Nat}{sl:List Int->Option (List Int)} (hsl:∀ u g,Sg P n (u++[g])->u.length<=9->sl (zn (u++[g]))=some (zn (dm P n u g))) (o:Ok P n) (h9:n<=9) (h1:1<=n) (L:Ln P n l) :
  ((yE 0 ((n:Int)-1)).bind fun l4=>L3.forM l4 (zn l) (fun row first=>(((some (cut row none (some first))).bind fun t2=>(sl (cut row (some first) none)).bind fun t3=>Um t2 t3).bind fun row=>some row)))=some (zn ((bW (n-1) 0).foldl (swp P n) l)):=by
 rw[show (n:Int)-1=((n-1:Nat):Int) by omega,MM.rng (by omega),MM.bs,<- Option.bind_fun_some (L3.forM _ _ _)];refine MM.forM_then (R:=fun x=>x=some (zn ((bW (n-1) 0).foldl (swp P n) l))) (fun k row=>row=zn (((List.range k).flatMap (rW (n-1))).foldl (swp P n) l)) rfl (fun k row hk hrow=>?_) (fun row hrow=>?_)
 ·subst hrow;have L1:=Yi (P:=P) (n:=n) ((List.range k).flatMap (rW (n-1))) (fun i hi=>by
   obtain⟨j,_,hj⟩:=List.mem_flatMap.mp hi;have:=(jkm hj).2;omega) L
  refine⟨_,jcI hsl o h9 L1 (by omega),?_⟩;rw[w4,List.flatMap_append,List.flatMap_singleton,List.foldl_append]
 ·subst hrow;rw[jld]
theorem jgN {l:List Nat} (o:Ok P n) (h9:n<=9) (L:Ln P n l):kU ⟨qP P n⟩ (zn l)=some (zn ((dW (n-1)).foldl (swp P n) l)):=by
 have hlen:=L.len;unfold kU;have e:=jcJ (sl:=G9 (qP P n)) (fun g v S hv=>je2 o h9 S hv) o h9 L;rw[Q2 o h9 L,MM.bs,MM.bs,j8,hlen,e,MM.bs]
theorem je3 {l:List Nat} (o:Ok P n) (h9:n<=9) (h1:1<=n) (L:Ln P n l):kW ⟨qP P n⟩ (zn l)=some (zn ((bW (n-1) 0).foldl (swp P n) l)):=by
 have hlen:=L.len;unfold kW;have e:=jcK (sl:=q9 (qP P n)) (fun u g S hu=>ZL o h9 S hu) o h9 h1 L;rw[Q2 o h9 L,MM.bs,MM.bs,j8,hlen,e,MM.bs]
theorem jcL {l:List Nat} (o:Ok P n) (h9:n<=9) (h1:1<=n) (L:Ln P n l):kT ⟨qP P n⟩ (zn l)=some (zn ((List.range (n-1)).foldl (swp P n) l)):=by
 have hlen:=L.len;unfold kT;rw[Q2 o h9 L,MM.bs];obtain⟨g,v,rfl,ef⟩:=jgH L h1;rw[ef];exact je2 o h9 (L.sg o) (by simp at hlen; omega)
theorem jks {a:Int} (h:a.natAbs<1000):a.natAbs.log2<250:=by
 have h2:a.natAbs<2 ^ 250:=Xt h (by decide);rcases Nat.eq_zero_or_pos a.natAbs with h0 | h0
 ·rw[h0]; decide
 ·exact(Nat.log2_lt (wQ h0)).mpr h2
theorem jlf {a:Int} (h:a.natAbs<1000):(Str.ofString (toString a)).length<=251:=by
 have:=int_text_length_le (a:=a) (k:=250) (by decide) (jks h);rw[ofString_length];exact this
theorem je4:∀ {l:List Int},(∀ x∈l,x.natAbs<1000)->PyData.showableAll (l.map PyData.int)=true
 | [],_=>by simp only[List.map_nil,PyData.showableAll]
 | x::l,h=>by
  have hx:=jks (h x Xi);rw[X8];simp only[PyData.showableAll,PyData.showable,XB,Xs];exact⟨by omega,je4 fun y hy=>h y (Xf _ hy)⟩
theorem je5:∀ {l:List Int},(∀ x∈l,x.natAbs<1000)->((PyData.shownAll (l.map PyData.int)).map (·.length)).sum<=251 * l.length/\(PyData.shownAll (l.map PyData.int)).length=l.length
 | [],_=>by simp[PyData.shownAll]
 | x::l,h=>by
  have hx:=jlf (h x Xi);have ih:=je5 (l:=l) fun y hy=>h y (Xf _ hy);rw[X8];simp only[PyData.shownAll,PyData.shown,X8,List.sum_cons,Xm];refine⟨?_,by omega⟩;have e:((toString x:String):Str).length<=251:=hx;omega
def jkM (l:List Int):Prop:=l.length<=20/\∀ x∈l,x.natAbs<1000
theorem jlg {l:List Int} (h:jkM l):∃ w:Str,((some l).bind fun i3=>(jct i3).bind fun y4=>(VZ Str.empty y4).bind fun j2=>(VZ j2 (" is no line of the order":Str)).bind fun j5=>jjZ j5)=some w:=by
 obtain⟨s1,s2⟩:=je5 h.2;have hl:=h.1;have ht:=tupleText_len_le (PyData.shownAll (l.map PyData.int));have hs:(shT l).shown.length<=20000:=by
  unfold shT;simp only[PyData.shown];omega
 have e:jct l=some (shT l).shown:=by
  unfold jct;refine if_pos ⟨?_,by rw[wa]; omega⟩;unfold shT;simp only[PyData.showable];exact je4 h.2
 have c1:∀ {a b:Str},a.length+b.length<=100000->VZ a b=some (a++b):=fun h=>by
  unfold VZ;rw[if_pos (by rw[wa]; omega)]
 have l0:Str.empty.length=0:=rfl;have l1:(" is no line of the order":Str).length<=100:=by decide
 have l2:=Str.length_append Str.empty (shT l).shown;have l3:=Str.length_append (Str.empty++(shT l).shown) (" is no line of the order":Str);rw[MM.bs,e,MM.bs,c1 (by omega),MM.bs,c1 (by omega),MM.bs];exact⟨_,by unfold jjZ; exact if_pos (by rw[wa]; omega)⟩
theorem Jb (h9:n<=9) (hl:row.length<64) (h:¬ row.Perm (zn (List.range n))):kS (qP P n) row=some false:=by
 have e1:jf9 row=some (srt row):=by unfold jf9; exact if_pos hl
 unfold kS;rw[e1,size];simp only[MM.bs];rw[jgG (by omega)];simp only[MM.bs];have e2:jb2 (srt row) (zn (List.range n))=false:=by
  cases q:jb2 (srt row) (zn (List.range n)) with
  | false=>rfl
  | true=>
   have:=Qk row;rw[MM.isEq_iff.mp q] at this;exact absurd this.symm h
 rw[e2,wt,MM.ct]
theorem jaS {f:β->α->Option (Fl β γ)}{b:β}{x:α}{r:List α}{c:γ} (h:f b x=some (.rt c)):Z4 (x::r) b f=some (.rt c):=by
 show ((f b x).bind _)=_;rw[h];rfl
theorem jiY (b:γ) (f:γ->δ) (g:β->δ):(Fl.rt b:Fl β γ).el f g=f b:=rfl
theorem jcM {t s:Nat} (o:Ok P n) (h9:n<=9) (hl:row.length<63) (ht:t<n) (hs:bl P n s t=true):kS (qP P n) ((t:Int)::row)=some false:=by
 have e1:jf9 ((t:Int)::row)=some (srt ((t:Int)::row)):=by unfold jf9; exact if_pos (by rw[Xm]; omega)
 unfold kS;rw[e1,size];simp only[MM.bs];rw[jgG (by omega)];simp only[MM.bs];cases jb2 (srt ((t:Int)::row)) (zn (List.range n)) with
 | false=>rw[wt,MM.ct]
 | true=>
  rw[XE,MM.cf];have eb:(qP P n).beneath=zn (bel P n):=rfl;have hd:decide (0 &&& (bel P n).getD t 0=(bel P n).getD t 0)=false:=Xp fun z=>by
   have:=(Vp o ht).mp z s (by have:=Uo o ht hs; omega) hs;simp at this
  have ho:=Qu 0 ((bel P n).getD t 0);rw[hd] at ho;have ho:k7 0 (((bel P n).getD t 0:Nat):Int)=some false:=ho;rw[jaS (c:=false) (by
   rw[eb,Vo ht];simp only[MM.bs];rw[ho];simp only[MM.bs,wt,MM.ct]),MM.bs]
  exact jiY _ _ _
theorem jlh {l:List Nat} (h9:n<=9) (hl:l.length<=11) (h:∀ t∈l,t<=n):jkM (zn l):=by
 refine⟨by rw[j8]; omega,fun x hx=>?_⟩;obtain⟨t,ht,rfl⟩:=mem_zn.mp hx;have:=h t ht;omega
def Nl (P:List (Nat×Nat)) (n:Nat) (row:List Int):Prop:=jkM row/\kS (qP P n) row=some false
theorem jl0 {x:α}:cut (l++[x]) none (some (-1))=l:=by
 unfold cut;have e:HT.sIx (l++[x]).length (l++[x]).length (some (-1))=l.length:=by
  unfold HT.sIx;rw[Xj,wk];simp;omega
 rw[e];have e0:HT.sIx (l++[x]).length 0 none=0:=rfl;rw[e0];simp
theorem jgO {l:List Nat} (o:Ok P n) (h1:1<=n) (h9:n<=9) (L:Ln P n l) (c:Int):∃ row,yt (zn l) (udr P n) c=some row/\Nl P n row:=by
  have hlen:=L.len;have hlt:∀ t∈l,t<n:=fun t ht=>(L.mem t).mp ht;obtain⟨x,l',rfl⟩:∃ x l',l=x::l':=by
    cases l with
    | nil=>rw[List.length_nil] at hlen; omega
    | cons x l'=>exact ⟨x,l',rfl⟩
  rw[Xm] at hlen;obtain⟨m,y,e⟩:∃ m y,x::l'=m++[y]:=⟨(x::l').dropLast,(x::l').getLast (by simp),(List.dropLast_concat_getLast (by simp)).symm⟩;have hm:m.length+1=n:=by
    have:=congrArg List.length e;rw[Xm,Xj,wk] at this;omega
  have hml:∀ t∈m,t<n:=fun t ht=>hlt t (by rw[e]; exact wb _ ht);have hl':∀ t∈l',t<n:=fun t ht=>hlt t (Xf _ ht);have hx:x<n:=hlt x Xi;have prm:∀ {row:List Int},row.Perm (zn (List.range n))->row.length=n/\(∀ v∈row,∃ t:Nat,t<n/\v=(t:Int))/\row.Nodup:=fun {row} h=>by
    refine⟨by rw[h.length_eq,j8,XJ],fun v hv=>?_,?_⟩
    · obtain⟨t,ht,e⟩:=mem_zn.mp (h.mem_iff.mp hv)
      exact⟨t,Xu.mp ht,e⟩
    · exact h.nodup_iff.mpr (Yc List.nodup_range)
  have small:∀ {row:List Int},row.length<=11->(∀ v∈row,v=-1 \/ ∃ t:Nat,t<=n/\v=(t:Int))->jkM row:=fun hr h=>⟨by omega,fun v hv=>by
    rcases h v hv with rfl | ⟨t,ht,rfl⟩
    · decide
    · omega⟩
  unfold yt;simp only[MM.bs];have c1:cut (zn (x::l')) (some 1) none=zn l':=by
    have:=JD (l:=zn (x::l')) (i:=1);rw[Q0] at this;exact this
  have c2:cut (zn (x::l')) none (some (-1))=zn m:=by
    rw[e,ZG];exact jl0
  have c3:cut (zn (x::l')) none (some 1)=[(x:Int)]:=by
    have:=ZF (l:=zn (x::l')) (i:=1);rw[QZ] at this;exact this
  have zl:(zn (x::l')).length=n:=by rw[j8,Xm]; omega
  rw[c1,c2,c3,zl,MM.cat (by simp; omega),MM.cat (by rw[j8]; simp; omega),MM.cat (by rw[j8]; simp; omega),MM.cat (by rw[j8]; simp; omega)];simp only[MM.bs];have r1:Nl P n (zn l'):=⟨jlh h9 (by omega) fun t ht=>wG (hl' t ht),Jb h9 (by rw[j8]; omega) fun h=>by
    have:=(prm h).1;rw[j8] at this;omega⟩
  have r2:Nl P n (zn (x::l')++[0]):=⟨small (by rw[Xj,zl]; simp; omega) (fun v hv=>by
      rcases List.mem_append.mp hv with hv | hv
      · obtain⟨t,ht,rfl⟩:=mem_zn.mp hv
        exact .inr ⟨t,wG (hlt t ht),rfl⟩
      · exact .inr ⟨0,by omega,by simpa using hv⟩),Jb h9 (by rw[Xj,zl]; simp; omega) fun h=>by
    have:=(prm h).1;rw[Xj,zl] at this;simp at this⟩
  have r3:Nl P n (zn m++[(n:Int)]):=⟨small (by rw[Xj,j8]; simp; omega) (fun v hv=>by
      rcases List.mem_append.mp hv with hv | hv
      · obtain⟨t,ht,rfl⟩:=mem_zn.mp hv
        exact .inr ⟨t,wG (hml t ht),rfl⟩
      · exact .inr ⟨n,Xh _,by simpa using hv⟩),Jb h9 (by rw[Xj,j8]; simp; omega) fun h=>by
    obtain⟨t,ht,e⟩:=(prm h).2.1 (n:Int) (by simp);omega⟩
  have r4:Nl P n ([(0-1:Int)]++zn l'):=⟨small (by rw[Xj,j8]; simp; omega) (fun v hv=>by
      rcases List.mem_append.mp hv with hv | hv
      · exact .inl (by simpa using hv)
      · obtain⟨t,ht,rfl⟩:=mem_zn.mp hv
        exact .inr ⟨t,wG (hl' t ht),rfl⟩),Jb h9 (by rw[Xj,j8]; simp; omega) fun h=>by
    obtain⟨t,ht,e⟩:=(prm h).2.1 (0-1:Int) (by simp);omega⟩
  have r0:∀ z∈([zn l',zn (x::l')++[0],zn m++[(n:Int)],[(0-1:Int)]++zn l']:List (List Int)),Nl P n z:=fun z hz=>by
    simp only[Xk,List.not_mem_nil,or_false] at hz;rcases hz with rfl | rfl | rfl | rfl <;> assumption
  obtain⟨S5,e5,s5,n5⟩:∃ S:List (List Int),((bif decide (1<(n:Int)) then (Wg [zn l',zn (x::l')++[0],zn m++[(n:Int)],[(0-1:Int)]++zn l'] (zn m++[(x:Int)])).bind fun some_=>some some_ else some [zn l',zn (x::l')++[0],zn m++[(n:Int)],[(0-1:Int)]++zn l'])=some S)/\(∀ z∈S,Nl P n z)/\0<S.length/\S.length<=5:=by
    by_cases q:1<n
    · have r5:Nl P n (zn m++[(x:Int)]):=⟨small (by rw[Xj,j8]; simp; omega) (fun v hv=>by
          rcases List.mem_append.mp hv with hv | hv
          · obtain⟨t,ht,rfl⟩:=mem_zn.mp hv
            exact .inr ⟨t,wG (hml t ht),rfl⟩
          · exact .inr ⟨x,wG hx,by simpa using hv⟩),Jb h9 (by rw[Xj,j8]; simp; omega) fun h=>by
        have hn:=(prm h).2.2;rw[List.nodup_append] at hn;cases m with
        | nil=>simp at hm; omega
        | cons x' m'=>
          rw[List.cons_append] at e;injection e with e1 _
          subst e1;exact hn.2.2 (x:Int) (by rw[jiV]; exact Xi) (x:Int) (by simp) rfl⟩
      rw[Xl (by omega),MM.ct,MM.app (by simp),MM.bs];refine⟨_,rfl,fun z hz=>?_,by simp,by simp⟩;rcases List.mem_append.mp hz with hz | hz
      · exact r0 z hz
      · rw[XQ] at hz
        subst hz;exact r5
    · rw[Xp (by omega),MM.cf]
      exact⟨_,rfl,r0,by simp,by simp⟩
  rw[e5,MM.bs,MM.rng (by omega),MM.bs];refine MM.forM_then (R:=fun r=>∃ row,r=some row/\Nl P n row) (fun k (z:List (List Int))=>(∀ r∈z,Nl P n r)/\0<z.length/\z.length<=5+k) ⟨s5,n5.1,n5.2⟩ ?_ ?_
  · rintro k z hk ⟨z1,z2,z3⟩
    rw[jeP hk];simp only[MM.bs];rw[j8];by_cases q:0<(lws P n k).length
    · rw[Xl (by omega),MM.ct]
      obtain⟨s,hs⟩:=List.exists_mem_of_length_pos q;have hs:=(zq o hk).mp hs;have hin:k∈x::l':=(L.mem k).mpr hk;obtain⟨a,b,eab⟩:=List.append_of_mem hin;have na:k∉a:=fun z=>by
        have:=L.nd;rw[eab,List.nodup_append] at this;exact this.2.2 k z k Xi rfl
      have hab:a.length+(b.length+1)=n:=by
        have:=congrArg List.length eab;rw[Xm,Xj,Xm] at this;omega
      have ei:jaq (zn (x::l')) (k:Int)=some ((a.length:Nat):Int):=by
        rw[eab];exact Vq na
      rw[ei];simp only[MM.bs];have d1:cut (zn (x::l')) none (some ((a.length:Nat):Int))=zn a:=by
        rw[ZF,QZ,eab];simp
      have d2:cut (zn (x::l')) (some (((a.length:Nat):Int)+1)) none=zn b:=by
        rw[show ((a.length:Nat):Int)+1=((a.length+1:Nat):Int) by omega,JD,Q0,eab,show a.length+1=(a++[k]).length by simp,show a++k::b=(a++[k])++b by simp,List.drop_left]
      rw[d1,d2,MM.cat (by rw[j8]; simp; omega),MM.bs,MM.cat (by rw[Xj,j8,j8]; simp; omega),MM.bs,MM.app (by omega),MM.bs,MM.bs];refine⟨_,rfl,fun r hr=>?_,by rw[Xj]; omega,by rw[Xj]; simp; omega⟩;rcases List.mem_append.mp hr with hr | hr
      · exact z1 r hr
      · rw[XQ] at hr
        subst hr;have ec:[(k:Int)]++zn a++zn b=(k:Int)::zn (a++b):=by rw[ZG]; rfl
        rw[ec];refine⟨small (by rw[Xm,j8,Xj]; omega) (fun v hv=>?_),jcM o h9 (by rw[j8,Xj]; omega) hk hs⟩;rcases Xk.mp hv with rfl | hv
        · exact .inr ⟨k,wG hk,rfl⟩
        · obtain⟨t,ht,rfl⟩:=mem_zn.mp hv
          refine .inr ⟨t,wG (hlt t ?_),rfl⟩;rw[eab];rcases List.mem_append.mp ht with h | h
          · exact wb _ h
          · exact XM _ (Xf _ h)
    · rw[Xp (by omega),MM.cf,MM.bs]
      exact⟨_,rfl,z1,z2,by omega⟩
  · rintro z ⟨z1,z2,z3⟩
    obtain⟨j,hj,ej⟩:=jlC c z2;rw[MM.modP (by omega),ej];simp only[MM.bs];rw[MM.at_get hj];exact⟨_,rfl,z1 _ (List.getElem_mem hj)⟩
theorem jkt {l:List Nat} (hn:l.Nodup) (hl:∀ t∈l,t<n):(l.map fun t=>2 ^ t).sum=MB.setN l:=by
 have hb:MB.setN l<2 ^ n:=Nat.lt_pow_two_of_testBit _ fun i hi=>by
  rw[MB.setN_bit];exact Xp fun z=>by have:=hl i z; omega
 have p:l.Perm (ths n (MB.setN l)):=(List.perm_ext_iff_of_nodup hn (Yd (jkh _ _))).mpr fun t=>by
  unfold ths;rw[XX,Xu,MB.setN_bit,Xs];exact⟨fun h=>⟨hl t h,h⟩,fun h=>h.2⟩
 rw[(p.map fun t=>2 ^ t).sum_nat,jeQ hb]
theorem jbJ {b:Int} (h:b<0):jR (qP P n) b=some false:=by
 unfold jR;rw[Xl h,MM.ct,MM.bs,MM.ct]
theorem je6 {b:Nat} (h9:n<=9) (h:dsB P n b≠true):jR (qP P n) (b:Int)=some false:=by
 rw[JM P h9 b];cases q:dsB P n b with
 | true=>exact absurd q h
 | false=>rfl
theorem jgP (o:Ok P n) (h9:n<=9) (c:Int):∃ b,xr (udr P n) c=some b/\jR (qP P n) b=some false:=by
 have h512:=jlY h9;unfold xr;simp only[MM.bs];rw[jeO,jgG (by omega),MM.bs];have ew:zO (zn (List.range n))=some (((2 ^ n-1:Nat):Nat):Int):=by
  have e:ths n (2 ^ n-1)=List.range n:=by
   unfold ths;rw[List.filter_eq_self];intro t ht;rw[Nat.testBit_two_pow_sub_one,Xl (Xu.mp ht)]
  rw[<- e];exact jgL (Nat.sub_lt (Nat.two_pow_pos n) (by decide)) (by omega)
 rw[ew,MM.bs,MM.rng (by omega),MM.bs];have p:=Nat.two_pow_pos n;have m1:0<=c / 4 % 1000:=wN _ (by decide);have m2:0<=c % (10 ^ 20:Int):=wN _ (by decide);refine MM.forM_then (R:=fun r=>∃ b,r=some b/\jR (qP P n) b=some false) (fun k (z:List Int)=>(∀ b∈z,jR (qP P n) b=some false)/\0<z.length/\z.length<=3+k) ⟨fun b hb=>?_,by simp,by simp⟩ ?_ ?_
 ·simp only[Xk,List.not_mem_nil,or_false] at hb;rcases hb with rfl | rfl | rfl
  ·exact jbJ (by omega)
  ·obtain⟨j,ej⟩:∃ j:Nat,c / 4 % 1000=(j:Int):=⟨(c / 4 % 1000).toNat,by omega⟩;rw[ej,show ((2 ^ n-1:Nat):Int)+1+(j:Int)=((2 ^ n+j:Nat):Int) by omega];exact je6 h9 fun z=>by
    have:=jk_ z;omega
  ·exact jbJ (by omega)
 ·rintro k z hk ⟨z1,z2,z3⟩;rw[jeP hk];simp only[MM.bs];rw[j8];by_cases q:0<(lws P n k).length
  ·rw[Xl (by omega),MM.ct];obtain⟨s,r,es⟩:∃ s r,lws P n k=s::r:=by
    cases h:lws P n k with
    | nil=>rw[h] at q; simp at q
    | cons s r=>exact ⟨s,r,rfl⟩
   have up:=jhC P n k;rw[es] at up;obtain⟨u1,u2⟩:=ww.mp up;have hs:=(zq o hk).mp (es ▸ Xi);have hsk:=Uo o hk hs;have hr:∀ t∈r,t<k:=fun t ht=>Uo o hk ((zq o hk).mp (es ▸ Xf _ ht));have rl:r.length<=9:=by
    have:=Ye P n k;rw[es,Xm] at this;omega
   have dr:cut (zn (lws P n k)) (some 1) none=zn r:=by
    have:=JD (l:=zn (lws P n k)) (i:=1);rw[Q0,es] at this;rw[es];exact this
   rw[dr,MM.cat (by rw[j8]; simp; omega),MM.bs];have ek:[(k:Int)]++zn r=zn (k::r):=rfl;have kn:(k::r).Nodup:=List.nodup_cons.mpr ⟨fun z=>by have:=hr k z; omega,Yd u2⟩;rw[ek,jaQ (fun t ht=>by
    rcases Xk.mp ht with rfl | ht
    ·omega
    ·have:=hr t ht;omega)]
   simp only[MM.bs];rw[MM.app (by omega),MM.bs,MM.bs];refine⟨_,rfl,fun b hb=>?_,by rw[Xj]; omega,by rw[Xj]; simp; omega⟩;rcases List.mem_append.mp hb with hb | hb
   ·exact z1 b hb
   ·rw[XQ] at hb;subst hb;refine je6 h9 fun hd=>?_;rw[jkt (n:=n) kn (fun t ht=>by
     rcases Xk.mp ht with rfl | ht
     ·exact hk
     ·have:=hr t ht;omega)] at hd
    obtain⟨d1,d2⟩:=(jhA o).mp hd;have:=d2 s k hk (by rw[MB.setN_bit]; exact Xl Xi) hs;rw[MB.setN_bit] at this;rcases Xk.mp (wJ this) with z | z
    ·omega
    ·have:=u1 s z;omega
  ·rw[Xp (by omega),MM.cf,MM.bs];exact⟨_,rfl,z1,z2,by omega⟩
 ·rintro z ⟨z1,z2,z3⟩;obtain⟨j,hj,ej⟩:=jlC c z2;rw[MM.modP (by omega),ej];simp only[MM.bs];rw[MM.at_get hj];exact⟨_,rfl,z1 _ (List.getElem_mem hj)⟩
theorem jku {f:α->γ}{g:β->γ}{a:α} (x:α ⊕ β) (e:x=Sum.inl a):Sum.elim f g x=f a:=by rw[e]; rfl
theorem sl {f:α->γ}{g:β->γ}{a:α}:Sum.elim f g (Sum.inl a)=f a:=jku _ rfl
theorem jkv {f:α->γ}{g:β->γ}{b:β} (x:α ⊕ β) (e:x=Sum.inr b):Sum.elim f g x=g b:=by rw[e]; rfl
theorem sr {f:α->γ}{g:β->γ}{b:β}:Sum.elim f g (Sum.inr b)=g b:=jkv _ rfl
theorem jcN (er:Er) (m:Option Er):orE (some er) m=some er:=rfl
theorem jlD [DecidableEq κ] (k:κ):isK k ([]:List (κ×α))=false:=by unfold isK jbA; rfl
theorem Q3 (c:Nat) (vs:List Int) (ks:List Nat):Wn ks ⟨c,vs⟩=decide (c∈ks):=rfl
theorem jiZ (c:Nat) (b:Int):jja c 0 ⟨c,[b]⟩=some b:=by unfold jja; rw[if_pos rfl]; rfl
section
theorem jlE {b:Int} (h:jR (qP P n) b=some false):qg (qP P n) b=some ⟨3,[b]⟩:=by
 unfold qg;rw[h];simp only[MM.bs,wt,MM.ct]
theorem jlF {b:Int} (h:jR (qP P n) b=some false):xu ⟨qP P n⟩ b=some ⟨3,[b]⟩:=by
 unfold xu;simp only[MM.bs];unfold yu;simp only[MM.bs];unfold Vl;simp only[MM.bs];rw[jlE h,jcN]
theorem jl1 {b:Int} (h:jR (qP P n) b=some false):qK ⟨qP P n⟩ b=some ⟨3,[b]⟩:=by
 unfold qK;simp only[MM.bs];unfold k9;simp only[MM.bs];unfold G8;simp only[MM.bs];rw[jlE h,jcN]
theorem jlG {b:Int} (h:jR (qP P n) b=some false):q8 ⟨qP P n⟩ b=some ⟨3,[b]⟩:=by
 unfold q8;simp only[MM.bs];exact jlF h
theorem jl2 {b:Int} (h:jR (qP P n) b=some false):qL ⟨qP P n⟩ [b]=some ⟨3,[b]⟩:=by
 unfold qL;simp only[MM.bs];rw[jaS (c:=⟨3,[b]⟩) (by rw[jlD,wt,MM.ct,jlG h,MM.bs]),MM.bs];exact jiY _ _ _
theorem jli {b:Int} (h:jR (qP P n) b=some false) (w:Int):Vn ⟨qP P n⟩ b w=some (("downset":Str),b,true,true,false):=by
 unfold Vn;simp only[MM.bs];rw[jlF h,jl1 h,jlG h,jl2 h];have e:∀ x y z:Bool,(bif x then some (⟨3,[b]⟩:Er) else bif y then some ⟨3,[b]⟩ else bif z then some ⟨3,[b]⟩ else some ⟨3,[b]⟩)=some ⟨3,[b]⟩:=fun x y z=>by
  cases x <;> cases y <;> cases z <;> rfl
 rw[e];simp only[MM.bs];rw[Q3,Q3,Q3,jiZ,Xl (by decide),Xl (by decide),Xp (by decide),MM.ct];simp only[MM.bs]
theorem jkN (h:Nl P n row):qp (qP P n) row=some ⟨4,[]⟩:=by
 obtain⟨w,ew⟩:=jlg h.1;unfold qp;rw[h.2];simp only[MM.bs,wt,MM.ct];simp only[MM.bs] at ew;rw[ew,MM.bs]
theorem jl3 (h:Nl P n row):qS ⟨qP P n⟩ row=some ⟨4,[]⟩:=by
 unfold qS;simp only[MM.bs];rw[jkN h,jcN]
theorem jl4 (h:Nl P n row):qh ⟨qP P n⟩ row=some ⟨4,[]⟩:=by
 unfold qh;simp only[MM.bs];rw[jkN h,jcN]
theorem jlH (h:Nl P n row):qr ⟨qP P n⟩ row=some ⟨4,[]⟩:=by
 unfold qr;simp only[MM.bs];rw[jkN h,jcN]
theorem jl5 (h:Nl P n row):qi ⟨qP P n⟩ row=some ⟨4,[]⟩:=by
 unfold qi;simp only[MM.bs];exact jlH h
theorem jlI (h:Nl P n row):qt ⟨qP P n⟩ row=some ⟨4,[]⟩:=by
 unfold qt;simp only[MM.bs];rw[jkN h,jcN]
theorem jl6 (h:Nl P n row):qj ⟨qP P n⟩ row=some ⟨4,[]⟩:=by
 unfold qj;simp only[MM.bs];exact jlI h
def T3 (P:List (Nat×Nat)) (n:Nat) (t:MSlide ⊕ (MAbove ⊕ MBelow)):Prop:=t=.inl ⟨qP P n⟩ \/ t=.inr (.inl ⟨qP P n⟩) \/ t=.inr (.inr ⟨qP P n⟩)
theorem jlJ (h:Nl P n row) {t:MSlide ⊕ (MAbove ⊕ MBelow)} (ht:T3 P n t):(Sum.elim (fun o1=>qS o1 row) (fun o2=>Sum.elim (fun o3=>qr o3 row) (fun o4=>qt o4 row) o2) t)=some ⟨4,[]⟩:=by
 rcases ht with rfl | rfl | rfl
 ·rw[sl,jl3 h]
 ·rw[sr,sl,jlH h]
 ·rw[sr,sr,jlI h]
theorem jl7 (h:Nl P n row) {t:MSlide ⊕ (MAbove ⊕ MBelow)} (ht:T3 P n t):(Sum.elim (fun o1=>qh o1 row) (fun o2=>Sum.elim (fun o3=>qi o3 row) (fun o4=>qj o4 row) o2) t)=some ⟨4,[]⟩:=by
 rcases ht with rfl | rfl | rfl
 ·rw[sl,jl4 h]
 ·rw[sr,sl,jl5 h]
 ·rw[sr,sr,jl6 h]
theorem jkw (h:Nl P n row) {t:MSlide ⊕ (MAbove ⊕ MBelow)} (ht:T3 P n t):qB t row=some ⟨4,[]⟩:=by
 unfold qB;simp only[MM.bs];exact jlJ h ht
theorem jlj (h:Nl P n row) {t:MSlide ⊕ (MAbove ⊕ MBelow)} (ht:T3 P n t):qm t [row]=some ⟨4,[]⟩:=by
 unfold qm;simp only[MM.bs];rw[jaS (c:=⟨4,[]⟩) (by rw[jlD,wt,MM.ct,jkw h ht,MM.bs]),MM.bs];exact jiY _ _ _
theorem jlk (h:Nl P n row) {t:MSlide ⊕ (MAbove ⊕ MBelow)} (ht:T3 P n t) (w:Int):zo t row w=some (("line":Str),0,true,true,false):=by
 unfold zo;simp only[MM.bs];rw[jlJ h ht,jl7 h ht,jkw h ht,jlj h ht];have e:∀ x y z:Bool,(bif x then some (⟨4,[]⟩:Er) else bif y then some ⟨4,[]⟩ else bif z then some ⟨4,[]⟩ else some ⟨4,[]⟩)=some ⟨4,[]⟩:=fun x y z=>by
  cases x <;> cases y <;> cases z <;> rfl
 rw[e];simp only[MM.bs];rw[Q3,Q3,Q3,Xp (by decide),Xl (by decide),Xl (by decide),wt,Bool.and_true,MM.ct];simp only[MM.bs]
theorem jll {l:List Nat} (o:Ok P n) (h9:n<=9) (h1:1<=n) (L:Ln P n l) {t:MSlide ⊕ (MAbove ⊕ MBelow)} (ht:T3 P n t):∃ r,(Sum.elim (fun o1=>kT o1 (zn l)) (fun o2=>Sum.elim (fun o3=>kU o3 (zn l)) (fun o4=>kW o4 (zn l)) o2) t)=some r:=by
 rcases ht with rfl | rfl | rfl
 ·exact⟨_,sl.trans (jcL o h9 h1 L)⟩
 ·exact⟨_,(sr.trans sl).trans (jgN o h9 L)⟩
 ·exact⟨_,(sr.trans sr).trans (je3 o h9 h1 L)⟩
end
theorem law_true (ns:List Int) (hl:ns.length<=63):ZC ns=some true:=by
 unfold ZC;obtain⟨n,P,D,hP⟩:=jkp ns (m:=9) (most:=9) rfl (by decide) (by decide);have o:=D.ok;have h1:=D.n1;have h9:=D.n9;rw[D.e,MM.bs,jgK o h9 hP,MM.bs,jcD o h1 h9,MM.bs];obtain⟨l,L,el⟩:=je0 o h9 ns 26;have el:Uc (udr P n) ns 26=some (zn l):=el;obtain⟨c2,e2⟩:=Ja ns 2;have e2:zN ns 2=some c2:=e2;rw[el,e2];simp only[MM.bs];obtain⟨b,eb,hb⟩:=jgP o h9 c2;rw[eb];have is:xV (qP P n)=some ⟨qP P n⟩:=by unfold xV; rw[MM.bs]
 have ia:xW (qP P n)=some ⟨qP P n⟩:=by unfold xW; rw[MM.bs]
 have ib:xX (qP P n)=some ⟨qP P n⟩:=by unfold xX; rw[MM.bs]
 rw[jcF,is,ia,ib];simp only[MM.bs];have e4:(((yE 0 4).bind fun l82=>xh l82 (fun _=>some true) (fun (_:Int)=>some true)).bind fun t83=>some (t83.all id))=some true:=by
  rw[show (4:Int)=((4:Nat):Int) from rfl,MM.rng (by decide),MM.bs,MM.comp1 (fun _=>true) (by simp) (fun _ _=>rfl),MM.bs];simp
 have k4:∀ j:Nat,((yE 0 4).bind fun l64=>xh l64 (fun _=>some true) (fun k_=>some (decide ((j:Int)=k_))))=some ((List.range 4).map fun k=>decide (j=k)):=fun j=>by
  rw[show (4:Int)=((4:Nat):Int) from rfl,MM.rng (by decide),MM.bs,MM.compR1 (fun k=>decide (j=k)) (by decide) (fun k hk=>by
   congr 1;rw[XR,Xs,Xs];omega)]
 obtain⟨g,eg⟩:∃ g,((z_ (cut (zn l) none (some 1))).bind fun good=>qd ⟨qP P n⟩ good)=some g:=by
  obtain⟨x,l',rfl⟩:∃ x l',l=x::l':=by
   cases l with
   | nil=>have:=L.len; rw[List.length_nil] at this; omega
   | cons x l'=>exact ⟨x,l',rfl⟩
  have hx:x<n:=(L.mem x).mp Xi;have c3:cut (zn (x::l')) none (some 1)=zn [x]:=by
   have:=ZF (l:=zn (x::l')) (i:=1);rw[QZ] at this;exact this
  have e:@z_=@zO:=by funext z; unfold z_ zO; rfl
  have hsum:((([x]:List Nat).map fun t=>2 ^ t).sum:Nat)=MB.setN [x]:=jkt (n:=n) (by simp) (fun t ht=>by rw[XQ] at ht; omega);rw[e,c3,jaQ (fun t ht=>by rw[XQ] at ht; omega),hsum,MM.bs];refine⟨_,jcE o h9 ((jhA o).mpr ⟨?_,fun s t ht hbt hs=>?_⟩)⟩
  ·exact Nat.lt_pow_two_of_testBit _ fun i hi=>by
    rw[MB.setN_bit];exact Xp fun z=>by rw[XQ] at z; omega
  ·rw[MB.setN_bit,Xs,XQ] at hbt;subst hbt;have:=L.before o (a:=[]) (c:=l') (t:=t) (s:=s) rfl hs;simp at this
 obtain⟨gd,egd,eg⟩:=bind_some eg;have way:∀ (t:MSlide ⊕ (MAbove ⊕ MBelow)),T3 P n t->∀ c:Int,∃ row r,yt (zn l) (udr P n) c=some row/\(∀ w,zo t row w=some (("line":Str),0,true,true,false))/\(Sum.elim (fun o1=>kT o1 (zn l)) (fun o2=>Sum.elim (fun o3=>kU o3 (zn l)) (fun o4=>kW o4 (zn l)) o2) t)=some r:=fun t ht c=>by
  obtain⟨row,er,hr⟩:=jgO o h1 h9 L c;obtain⟨r,e⟩:=jll o h9 h1 L ht;exact⟨row,r,er,fun w=>jlk hr ht w,e⟩
 have een:VU ([Sum.inl ⟨qP P n⟩,Sum.inr (Sum.inl ⟨qP P n⟩),Sum.inr (Sum.inr (Sum.inl ⟨qP P n⟩)),Sum.inr (Sum.inr (Sum.inr ⟨qP P n⟩))]:List (MGreat ⊕ (MSlide ⊕ (MAbove ⊕ MBelow))))=[(0,Sum.inl ⟨qP P n⟩),(1,Sum.inr (Sum.inl ⟨qP P n⟩)),(2,Sum.inr (Sum.inr (Sum.inl ⟨qP P n⟩))),(3,Sum.inr (Sum.inr (Sum.inr ⟨qP P n⟩)))]:=rfl;rw[een,MM.forR_unit (fun x hx=>?_),MM.bs,eln];have hx':x=(0,Sum.inl ⟨qP P n⟩) \/ x=(1,Sum.inr (Sum.inl ⟨qP P n⟩)) \/ x=(2,Sum.inr (Sum.inr (Sum.inl ⟨qP P n⟩))) \/ x=(3,Sum.inr (Sum.inr (Sum.inr ⟨qP P n⟩))):=by simpa using hx
 rcases hx' with rfl | rfl | rfl | rfl
 ·obtain⟨c,ec⟩:=Ja ns 3;have ec:zN ns (3+0)=some c:=ec;obtain⟨row,_,er,_,_⟩:=way (.inl ⟨qP P n⟩) (.inl rfl) c;have k0:=k4 0;have k0:((yE 0 4).bind fun l64=>xh l64 (fun _=>some true) (fun k_=>some (decide ((0:Int)=k_))))=some [true,false,false,false]:=k0;dsimp only;rw[ec];simp only[MM.bs,sl,sr];rw[k0];simp only[MM.bs];rw[MM.isEq_self,XE,MM.cf,MM.bs,MM.cf,er,MM.bs,Xl trivial,MM.ct,egd,MM.bs,eg];simp only[MM.bs,jli hb,MM.isEq_self];simp only[MM.bs] at e4;rw[e4];simp only[MM.bs];rw[XE,MM.cf,Xl trivial,XE,MM.bs,MM.cf]
 ·obtain⟨c,ec⟩:=Ja ns 4;have ec:zN ns (3+1)=some c:=ec;obtain⟨row,r,er,es,ed⟩:=way (.inl ⟨qP P n⟩) (.inl rfl) c;have k0:=k4 1;have k0:((yE 0 4).bind fun l64=>xh l64 (fun _=>some true) (fun k_=>some (decide ((1:Int)=k_))))=some [false,true,false,false]:=k0;dsimp only;rw[ec];simp only[MM.bs,sl,sr] at ed ⊢;rw[k0];simp only[MM.bs];rw[MM.isEq_self,XE,MM.cf,MM.bs,MM.cf,er,MM.bs,Xp (by decide),MM.cf,ed];simp only[MM.bs,es,MM.isEq_self];simp only[MM.bs] at e4;rw[e4];simp only[MM.bs];rw[XE,MM.cf];simp only[MM.bs];rw[MM.cf]
 ·obtain⟨c,ec⟩:=Ja ns 5;have ec:zN ns (3+2)=some c:=ec;obtain⟨row,r,er,es,ed⟩:=way (.inr (.inl ⟨qP P n⟩)) (.inr (.inl rfl)) c;have k0:=k4 2;have k0:((yE 0 4).bind fun l64=>xh l64 (fun _=>some true) (fun k_=>some (decide ((2:Int)=k_))))=some [false,false,true,false]:=k0;dsimp only;rw[ec];simp only[MM.bs,sl,sr] at ed ⊢;rw[k0];simp only[MM.bs];rw[MM.isEq_self,XE,MM.cf,MM.bs,MM.cf,er,MM.bs,Xp (by decide),MM.cf,ed];simp only[MM.bs,es,MM.isEq_self];simp only[MM.bs] at e4;rw[e4];simp only[MM.bs];rw[XE,MM.cf];simp only[MM.bs];rw[MM.cf]
 ·obtain⟨c,ec⟩:=Ja ns 6;have ec:zN ns (3+3)=some c:=ec;obtain⟨row,r,er,es,ed⟩:=way (.inr (.inr ⟨qP P n⟩)) (.inr (.inr rfl)) c;have k0:=k4 3;have k0:((yE 0 4).bind fun l64=>xh l64 (fun _=>some true) (fun k_=>some (decide ((3:Int)=k_))))=some [false,false,false,true]:=k0;dsimp only;rw[ec];simp only[MM.bs,sl,sr] at ed ⊢;rw[k0];simp only[MM.bs];rw[MM.isEq_self,XE,MM.cf,MM.bs,MM.cf,er,MM.bs,Xp (by decide),MM.cf,ed];simp only[MM.bs,es,MM.isEq_self];simp only[MM.bs] at e4;rw[e4];simp only[MM.bs];rw[XE,MM.cf];simp only[MM.bs];rw[MM.cf]
end Lw
namespace Lw
open PySem L2 L3
def top (i:Nat):Stmt:=PySem.Challenge.pw_toggleclock_k54_turns_refused.main.body.getD i (.Pass ⟨0,0,0,0⟩)
section
variable (P:Program) (w:World) (K:PySem.W.Frag) (mg:Str->Option Value) (base:Heap) (cs:Ecs) (jr js jt jb ju:Addr)
abbrev Gc:=Def P w K mg base "_law_raw" 1 ["_law_script","_law_k"] (sp2 K (pF cScr) (pF cI) (rF cI) zd)
abbrev y8:=Def P w K mg base "_law_cell_at" 1 ["_law_script","_law_k"] (sp2 K (pF cScr) (pF cI) (rF cI) kr)
abbrev je7:=Def P w K mg base "has" 1 ["bits","thing"] (sp2 K (pF cI) (pF cI) (rF cB) QY)
abbrev Gd:=Mth P w K mg base jb "size" 1 ["self"] (sp1 K (pF (jC jb)) (rF cI) kR)
abbrev Ue:=Def P w K mg base "things_of" 2 ["bits"] (sp1 K (pF cI) (rO cI) qA)
abbrev Jc:=Def P w K mg base "holds_all" 1 ["bits","others"] (sp2 K (pF cI) (pF cI) (rF cB) k7)
abbrev Qv:=Def P w K mg base "is_downset" 3 ["order","bits"] (sp2 K (pF (jC jb)) (pF cI) (rF cB) jR)
abbrev y9:=DefE P w K mg base "check_downset" 4 ["order","bits"] (Vg (sp2 K (pF (jC jb)) (pF cI) (rF cU) kt) (zY K (pF (jC jb)) (pF cI) cs qg))
abbrev GE:=MthE P w K mg base jt "done" 7 ["self","one"] (Vg (sp2 K (pF (kN jb jt)) (pF cI) (rF cI) qd) (zY K (pF (kN jb jt)) (pF cI) cs xu))
abbrev zR:=DefE P w K mg base "round_of" 8 ["turn","one"] (Vg (sp2 K (pF (kN jb jt)) (pF cI) (rF cU) Ga) (zY K (pF (kN jb jt)) (pF cI) cs q8))
abbrev Wy:=Def P w K mg base "is_line" 2 ["order","line"] (sp2 K (pF (jC jb)) (pF (cT cI)) (rF cB) kS)
abbrev yI:=Mth P w K mg base jb "check_thing" 1 ["self","thing"] (sp2 K (pF (jC jb)) (pF cI) (rF cU) jY)
abbrev GF:=Def P w K mg base "places_within" 1 ["row","things"] (sp2 K (pF (cT cI)) (pB cI) (rO cI) jT)
abbrev Ge:=Def P w K mg base "check_line" 3 ["order","line"] (sp2 K (pF (jC jb)) (pF (cT cI)) (rF cU) j3)
abbrev je8:=Def P w K mg base "slid" 3 ["order","row"] (sp2 K (pF (jC jb)) (pF (cT cI)) (rF (cT cI)) G9)
abbrev xL:=DefE P w K mg base "check_line" 3 ["order","line"] (Vg (sp2 K (pF (jC jb)) (pF (cT cI)) (rF cU) j3) (zY K (pF (jC jb)) (pF (cT cI)) cs qp))
abbrev yB:=MthE P w K mg base jr "done" 4 ["self","one"] (Vg (sp2 K (pF (kP jb jr)) (pF (cT cI)) (rF (cT cI)) kU) (zY K (pF (kP jb jr)) (pF (cT cI)) cs qr))
abbrev yC:=MthE P w K mg base js "done" 4 ["self","one"] (Vg (sp2 K (pF (kQ jb js)) (pF (cT cI)) (rF (cT cI)) kW) (zY K (pF (kQ jb js)) (pF (cT cI)) cs qt))
abbrev GG:=MthE P w K mg base ju "done" 4 ["self","one"] (Vg (sp2 K (pF (kO jb ju)) (pF (cT cI)) (rF (cT cI)) kT) (zY K (pF (kO jb ju)) (pF (cT cI)) cs qS))
abbrev zr:=DefE P w K mg base "round_of" 5 ["turn","one"] (Vg (sp2 K (pF (zc (kO jb ju) (zc (kP jb jr) (kQ jb js)))) (pF (cT cI)) (rF cU) zC) (zY K (pF (zc (kO jb ju) (zc (kP jb jr) (kQ jb js)))) (pF (cT cI)) cs qB))
end
section
variable {P:Program}{f:Addr} 
theorem jaT:FnScope ["_law_script","_law_k"] ["_law_script","_law_k"] (jo (top 44)):=scK
theorem jaU (B:BiX P w K mg base) (Fn:Fun K "_law_raw" "_law_raw" (top 44) f fd):FnOk P w K mg base CX0 1 f fd ["_law_script","_law_k"] (sp2 K (pF cScr) (pF cI) (rF cI) zd):=by
  refine(ok2 Fn jaT fun cdv A outer s H0 Q E_ hr nd hu script k_ kC V_k_ Fe R X jd P_k_ Hm Kk=>?_);refine⟨_,(jh (qE (j9 WG (pv 1) (kB jQ B.len_ (pv 0)) (ky _)) (jn (j6 (pX yT (pv 0) (pv 1)))) kg) (jn (j6 jq))),?_⟩
  try dsimp only[qe]
  unfold zd at Hm;replace jd:cScr.rep K Fe script kC:=jd;obtain rfl:V_k_=.int k_:=P_k_;refine(jb4 (K:=K) (qH (jk zf (eI (i:=1)) (jN yp (jdD (eV (i:=0) jd)) rfl) rfl)) X Hm ?_ ?_)
  ·intro F H Hc Hm E X;replace jd:=E.xc jd;exact kd (K:=K) (jk U0 (jdD (eV (i:=0) jd)) (eI (i:=1)) rfl) X Hm Kk
  ·intro F H Hc Hm E X;refine GP ?_;exact kd (K:=K) (jp _) X Hm Kk
theorem jaV:FnScope ["_law_script","_law_most","_law_many","_law_cell","_law_pairs","_law_high","_law_low"] ["_law_script","_law_most"] (jo (top 46)):=scK
theorem jaW (B:BiX P w K mg base) (Fn:Fun K "_law_any" "_law_any" (top 46) f fd) (kL:Gc P w K mg base):FnOk P w K mg base CX0 2 f fd ["_law_script","_law_most"] (sp2 K (pF cScr) (pF cI) (rF (cP cI (cL (cP cI cI)))) ZB):=by
  refine(ok2 Fn jaV fun cdv A outer s H0 Q E_ hr nd hu script most kC Z0 Fe R X jd Z1 Hm Kk=>?_);refine⟨_,(jh (pS (i:=2) nd (jL qC jq (jL xB (jL xx (pD_ kL hr (jc (pv 0) (jc jq jl))) jq) (pv 1)))) (jh (pS (i:=3) nd (pD_ kL hr (jc (pv 0) (jc jq jl)))) (jh (pS (i:=4) nd (xj jl)) (jh (qQ PassesOwn.never rfl (kA rfl B.range_ (jc (pv 2) jl)) (pG (i:=5) nd) (jn (qQ PassesOwn.never rfl (kA rfl B.range_ (jc (pv 5) jl)) (pG (i:=6) nd) (jh (zG (qE (j9 zz (jL xB (pv 3) jq) jq (ky _)) (jn (kj (QP XS XU XT qG (pv 4) (jc (xH (jc (pv 6) (jc (pv 5) jl))) jl)))) kg)) (jn (pS (i:=3) nd (jL xx (pv 3) jq))))))) (jn (j6 (xH (jc (pv 2) (jc (pv 4) jl))))))))),?_⟩
  try dsimp only[qe]
  unfold ZB at Hm;replace jd:cScr.rep K Fe script kC:=jd;obtain rfl:Z0=.int most:=Z1;refine(kZ (K:=K) (j1 ki (jp _) (j1 Ul (Zc ⟨by decide,by decide⟩ (jz (eV (i:=0) jd) (jp _) rfl) (jp _) rfl) (eI (i:=1)) rfl) rfl) X Hm ?_);intro many F H Hm E X;replace jd:=E.xc jd;refine(kZ (K:=K) (jz (eV (i:=0) jd) (jp _) rfl) X Hm ?_);intro cell F H Hm E X;refine(yq (K:=K) (xk (qD (c:=(cP cI cI))) (by decide)) X Hm ?_);intro pairs j_ F H Hm E X Hn jA;refine JU (K:=K) (c:=cI) ?_ X Hm (fun F1 b σ' F' H'=>match b with | (cell,pairs)=>∃ (j_:Addr) (w6_:Option V) (w7_:Option V),σ'=[some kC,some (.int most),some (.int many),some (.int cell),some (.ref j_),w6_,w7_]/\(Ext Fe H0 F' H'/\Same F1 F')/\Own K H0 F' H' (cP cI cI) pairs j_) ?_ ?_ ?_ ?_
  ·exact(qf (jbh (i:=2) rfl) rfl)
  ·intro F H E X;replace jA:=jA.mono E;exact⟨_,_,_,rfl,⟨X,(Same.refl _)⟩,jA⟩
  ·rintro F1 ⟨cell,pairs⟩ σ_ F_ H_ ⟨j_,w6_,w7_,rfl,⟨X_,SF_⟩,jA⟩;exact⟨X_,SF_⟩
  ·rintro F1 S0_ ⟨cell,pairs⟩ B_ high Jf σ_ F_ H_ F H ⟨j_,w6_,w7_,rfl,⟨X,SF_⟩,jA⟩ E Jg Hm
   try dsimp only at Hm
   have SL0:=SF_;replace SF_:=Same.trans S0_ SF_;replace X:=Ext.trans X E;replace jA:=jA.mono E;replace SL0:=E.xd SL0;obtain rfl:Jf=.int high:=Jg;refine xD ?_;refine jbm (K:=K) (c:=cI) ?_ X Hm (fun F1 b σ' F' H'=>match b with | (cell,pairs)=>∃ (j_:Addr) (w9_:Option V),σ'=[some kC,some (.int most),some (.int many),some (.int cell),some (.ref j_),some (.int high),w9_]/\(Ext Fe H0 F' H'/\Same F1 F')/\Own K H0 F' H' (cP cI cI) pairs j_) ?_ ?_ ?_ ?_
   ·exact(qf (jbh (i:=5) rfl) rfl)
   ·intro F H E X;replace jA:=jA.mono E;exact⟨_,_,rfl,⟨X,(Same.refl _)⟩,jA⟩
   ·rintro F1 ⟨cell,pairs⟩ σ_ F_ H_ ⟨j_,w9_,rfl,⟨X_,SF_⟩,jA⟩;exact⟨X_,SF_⟩
   ·rintro F1 S0_ ⟨cell,pairs⟩ B_ low VF σ_ F_ H_ F H ⟨j_,w9_,rfl,⟨X,SF_⟩,jA⟩ E VG Hm
    try dsimp only at Hm
    have SL1:=SF_;replace SF_:=Same.trans S0_ SF_;replace X:=Ext.trans X E;replace jA:=jA.mono E;replace SL1:=E.xd SL1;obtain rfl:VF=.int low:=VG;refine xD ?_;refine(jbs (K:=K) (fun pairs σ' H'=>∃ F':Hp,∃ (j_:Addr) ,σ'=[some kC,some (.int most),some (.int many),some (.int cell),some (.ref j_),some (.int high),some (.int low)]/\(Ext Fe H0 F' H'/\Same F F')/\Own K H0 F' H' (cP cI cI) pairs j_) (qH (jk zA (xo (by decide) (eI (i:=3)) (jp _) rfl) (jp _) rfl)) X Hm ?_ ?_ ?_)
    ·intro B_ F H Hm E X;replace jA:=jA.mono E;have SJ2:=E.f;refine(yg (K:=K) (k':=4) rfl jA (qz (eI (i:=6)) (eI (i:=5)) rfl) X Hm ?_);intro pairs F H Hm Cg X jA;replace SJ2:=Same.trans SJ2 Cg.f;cases Hm;exact⟨F,_,rfl,⟨X,SJ2⟩,jA⟩
    ·intro B_ F H Hm E X;replace jA:=jA.mono E;have SJ2:=E.f;refine GP ?_;cases Hm;exact⟨F,_,rfl,⟨X,SJ2⟩,jA⟩
    ·rintro pairs σ_ H Hm ⟨F,j_,rfl,⟨X,SF_⟩,jA⟩
     try dsimp only at Hm
     replace SL1:=Same.trans SL1 SF_;refine(xR (K:=K) (qX ⟨by decide,by decide⟩ (eI (i:=3)) (jp _) rfl) X Hm ?_);intro cell F H Hm E X;replace jA:=jA.mono E;replace SL1:=E.xd SL1;cases Hm;exact⟨F,_,_,rfl,⟨X,SL1⟩,jA⟩
   ·rintro F1 S0_ ⟨cell,pairs⟩ σ_ F H Hm ⟨j_,w9_,rfl,⟨X,SF_⟩,jA⟩
    try dsimp only at Hm
    replace SF_:=Same.trans S0_ SF_;replace SL0:=Same.trans SL0 SF_;cases Hm;exact⟨F,_,_,_,rfl,⟨X,SL0⟩,jA⟩
  ·rintro F1 S0_ ⟨cell,pairs⟩ σ_ F H Hm ⟨j_,w6_,w7_,rfl,⟨X,SF_⟩,jA⟩
   try dsimp only at Hm
   obtain⟨F,X,Cg,jE⟩:=Own.freeze jA X;clear jA;exact kd (K:=K) (qz (eI (i:=2)) (eV (i:=4) jE) rfl) X Hm Kk
theorem Vu:FnScope ["_law_script","_law_k","_law_cell","_law_low"] ["_law_script","_law_k"] (jo (top 43)):=scK
theorem Vv (B:BiX P w K mg base) (Fn:Fun K "_law_cell_at" "_law_cell_at" (top 43) f fd):FnOk P w K mg base CX0 1 f fd ["_law_script","_law_k"] (sp2 K (pF cScr) (pF cI) (rF cI) kr):=by
  refine(ok2 Fn Vu fun cdv A outer s H0 Q E_ hr nd hu script k_ kC V_k_ Fe R X jd P_k_ Hm Kk=>?_);refine⟨_,(jh (pS (i:=2) nd jq) (jh (zG (qE (j9 YT (kB jQ B.len_ (pv 0)) jq (ky _)) (jn (pS (i:=2) nd (pX yT (pv 0) (jL xB (pv 1) (kB jQ B.len_ (pv 0)))))) kg)) (jh (pS (i:=3) nd (jL xB (jL GS (jL qC (pv 2) (jL GS jq (jL qC (pv 1) jq))) jq) jq)) (jn (j6 (jL qC (jL GS (jL xx (jL xB (pv 2) (jL jg4 jq jq)) jq) jq) (pv 3))))))),?_⟩
  try dsimp only[qe]
  unfold kr at Hm;replace jd:cScr.rep K Fe script kC:=jd;obtain rfl:V_k_=.int k_:=P_k_;refine(kZ (K:=K) (jp _) X Hm ?_);intro cell F H Hm E X;replace jd:=E.xc jd;refine(jbs (K:=K) (fun cell σ' H'=>∃ F':Hp,σ'=[some kC,some (.int k_),some (.int cell),none]/\(Ext Fe H0 F' H'/\Same F F')) (qH (jk zf (jN yp (jdD (eV (i:=0) jd)) rfl) (jp _) rfl)) X Hm ?_ ?_ ?_)
  ·intro B_ F H Hm E X;replace jd:=E.xc jd;have SJ0:=E.f;refine(xR (K:=K) (j1 U0 (jdD (eV (i:=0) jd)) (jk Ul (eI (i:=1)) (jN yp (jdD (eV (i:=0) jd)) rfl) rfl) rfl) X Hm ?_);intro cell F H Hm E X;replace SJ0:=E.xd SJ0;cases Hm;exact⟨F,rfl,⟨X,SJ0⟩⟩
  ·intro B_ F H Hm E X;have SJ0:=E.f;refine GP ?_;cases Hm;exact⟨F,rfl,⟨X,SJ0⟩⟩
  ·rintro cell σ_ H Hm ⟨F,rfl,⟨X,SF_⟩⟩
   try dsimp only at Hm
   refine(kZ (K:=K) (xo (by decide) (zX ⟨by decide,by decide⟩ (jk ki (eI (i:=2)) (U8 ⟨by decide,by decide⟩ (jp _) (jk ki (eI (i:=1)) (jp _) rfl) rfl) rfl) (jp _) rfl) (jp _) rfl) X Hm ?_);intro low F H Hm E X;exact kd (K:=K) (jk ki (zX ⟨by decide,by decide⟩ (qX ⟨by decide,by decide⟩ (xo (by decide) (eI (i:=2)) (Zg (i:=10) (j:=60) ⟨by decide,by decide,by decide⟩ (jp _) (jp _) rfl) rfl) (jp _) rfl) (jp _) rfl) (eI (i:=3)) rfl) X Hm Kk
theorem Ym:FnScope ["_law_first","_law_most","_law_rows","_law_columns","_law_pairs","_law_thing"] ["_law_first","_law_most"] (jo (top 47)):=scK
theorem Yn (B:BiX P w K mg base) (Fn:Fun K "_law_field" "_law_field" (top 47) f fd):FnOk P w K mg base CX0 1 f fd ["_law_first","_law_most"] (sp2 K (pF cI) (pF cI) (rF (cP cI (cL (cP cI cI)))) G5):=by
  refine(ok2 Fn Ym fun cdv A outer s H0 Q E_ hr nd hu first most ji2 Z0 Fe R X ji3 Z1 Hm Kk=>?_);refine⟨_,(jh (pS (i:=2) nd (jL qC jq (jL xB (pv 0) jq))) (jh (zG (qE (j9 YT (pv 2) (pv 1) (ky _)) (jn (pS (i:=2) nd jq)) kg)) (jh (pS (i:=3) nd (jL qC jq (jL xB (jL xx (pv 0) jq) (jL xx (pv 1) (pv 2))))) (jh (pS (i:=4) nd (xj jl)) (jh (qQ PassesOwn.never rfl (kA rfl B.range_ (jc (jL GS (pv 2) (pv 3)) jl)) (pG (i:=5) nd) (jh (zG (qE (j9 WG (jL xB (pv 5) (pv 3)) (jL GR (pv 3) jq) (ky _)) (jn (kj (QP XS XU XT qG (pv 4) (jc (xH (jc (pv 5) (jc (jL qC (pv 5) jq) jl))) jl)))) kg)) (jn (zG (qE (j9 WG (jL qC (pv 5) (pv 3)) (jL GS (pv 2) (pv 3)) (ky _)) (jn (kj (QP XS XU XT qG (pv 4) (jc (xH (jc (pv 5) (jc (jL qC (pv 5) (pv 3)) jl))) jl)))) kg))))) (jn (j6 (xH (jc (jL GS (pv 2) (pv 3)) (jc (pv 4) jl)))))))))),?_⟩
  try dsimp only[qe]
  unfold G5 at Hm;obtain rfl:ji2=.int first:=ji3;obtain rfl:Z0=.int most:=Z1;refine(kZ (K:=K) (jk ki (jp _) (xo (by decide) (eI (i:=0)) (jp _) rfl) rfl) X Hm ?_);intro rows F H Hm E X;refine(jbs (K:=K) (fun rows σ' H'=>∃ F':Hp,σ'=[some (.int first),some (.int most),some (.int rows),none,none,none]/\(Ext Fe H0 F' H'/\Same F F')) (qH (jk zf (eI (i:=2)) (eI (i:=1)) rfl)) X Hm ?_ ?_ ?_)
  ·intro B_ F H Hm E X;have SJ0:=E.f;refine(xR (K:=K) (jp _) X Hm ?_);intro rows F H Hm E X;replace SJ0:=E.xd SJ0;cases Hm;exact⟨F,rfl,⟨X,SJ0⟩⟩
  ·intro B_ F H Hm E X;have SJ0:=E.f;refine GP ?_;cases Hm;exact⟨F,rfl,⟨X,SJ0⟩⟩
  ·rintro rows σ_ H Hm ⟨F,rfl,⟨X,SF_⟩⟩
   try dsimp only at Hm
   refine(kZ (K:=K) (j1 ki (jp _) (j1 Ul (qX ⟨by decide,by decide⟩ (eI (i:=0)) (jp _) rfl) (jk jhV (eI (i:=1)) (eI (i:=2)) rfl) rfl) rfl) X Hm ?_);intro columns F H Hm E X;refine(yq (K:=K) (xk (qD (c:=(cP cI cI))) (by decide)) X Hm ?_);intro pairs j_ F H Hm E X Hn jA;refine JU (K:=K) (c:=cI) ?_ X Hm (fun F1 pairs σ' F' H'=>∃ (j_:Addr) (w7_:Option V),σ'=[some (.int first),some (.int most),some (.int rows),some (.int columns),some (.ref j_),w7_]/\(Ext Fe H0 F' H'/\Same F1 F')/\Own K H0 F' H' (cP cI cI) pairs j_) ?_ ?_ ?_ ?_
   ·exact(Zd (jk jac (jbh (i:=2) rfl) (jbh (i:=3) rfl) rfl) rfl)
   ·intro F H E X;replace jA:=jA.mono E;exact⟨_,_,rfl,⟨X,(Same.refl _)⟩,jA⟩
   ·rintro F1 pairs σ_ F_ H_ ⟨j_,w7_,rfl,⟨X_,SF_⟩,jA⟩;exact⟨X_,SF_⟩
   ·rintro F1 S0_ pairs B_ thing kD σ_ F_ H_ F H ⟨j_,w7_,rfl,⟨X,SF_⟩,jA⟩ E kE Hm
    try dsimp only at Hm
    have SL0:=SF_;replace SF_:=Same.trans S0_ SF_;replace X:=Ext.trans X E;replace jA:=jA.mono E;replace SL0:=E.xd SL0;obtain rfl:kD=.int thing:=kE;refine xD ?_;refine(jjG (K:=K) (fun pairs σ' H'=>∃ F':Hp,∃ (j_:Addr) ,σ'=[some (.int first),some (.int most),some (.int rows),some (.int columns),some (.ref j_),some (.int thing)]/\(Ext Fe H0 F' H'/\Same F F')/\Own K H0 F' H' (cP cI cI) pairs j_) (qH (j1 zf (jk Ul (eI (i:=5)) (eI (i:=3)) rfl) (jk ki (eI (i:=3)) (jp _) rfl) rfl)) X Hm ?_ ?_ ?_)
    ·intro B_ F H Hm E X;replace jA:=jA.mono E;have SJ1:=E.f;refine(yg (K:=K) (k':=4) rfl jA (qz (eI (i:=5)) (jk ki (eI (i:=5)) (jp _) rfl) rfl) X Hm ?_);intro pairs F H Hm Cg X jA;replace SJ1:=Same.trans SJ1 Cg.f;cases Hm;exact⟨F,_,rfl,⟨X,SJ1⟩,jA⟩
    ·intro B_ F H Hm E X;replace jA:=jA.mono E;have SJ1:=E.f;refine GP ?_;cases Hm;exact⟨F,_,rfl,⟨X,SJ1⟩,jA⟩
    ·rintro pairs σ_ H Hm ⟨F,j_,rfl,⟨X,SF_⟩,jA⟩
     try dsimp only at Hm
     replace SL0:=Same.trans SL0 SF_;refine(U2 (K:=K) (fun pairs σ' H'=>∃ F':Hp,∃ (j_:Addr) ,σ'=[some (.int first),some (.int most),some (.int rows),some (.int columns),some (.ref j_),some (.int thing)]/\(Ext Fe H0 F' H'/\Same F F')/\Own K H0 F' H' (cP cI cI) pairs j_) (qH (j1 zf (jk ki (eI (i:=5)) (eI (i:=3)) rfl) (jk jac (eI (i:=2)) (eI (i:=3)) rfl) rfl)) X Hm ?_ ?_ ?_)
     ·intro B_ F H Hm E X;replace jA:=jA.mono E;have SJ1:=E.f;refine(yg (K:=K) (k':=4) rfl jA (qz (eI (i:=5)) (jk ki (eI (i:=5)) (eI (i:=3)) rfl) rfl) X Hm ?_);intro pairs F H Hm Cg X jA;replace SJ1:=Same.trans SJ1 Cg.f;cases Hm;exact⟨F,_,rfl,⟨X,SJ1⟩,jA⟩
     ·intro B_ F H Hm E X;replace jA:=jA.mono E;have SJ1:=E.f;refine GP ?_;cases Hm;exact⟨F,_,rfl,⟨X,SJ1⟩,jA⟩
     ·rintro pairs σ_ H Hm ⟨F,j_,rfl,⟨X,SF_⟩,jA⟩
      try dsimp only at Hm
      replace SL0:=Same.trans SL0 SF_;cases Hm;exact⟨F,_,_,rfl,⟨X,SL0⟩,jA⟩
   ·rintro F1 S0_ pairs σ_ F H Hm ⟨j_,w7_,rfl,⟨X,SF_⟩,jA⟩
    try dsimp only at Hm
    obtain⟨F,X,Cg,jE⟩:=Own.freeze jA X;clear jA;exact kd (K:=K) (U7 (jk jac (eI (i:=2)) (eI (i:=3)) rfl) (eV (i:=4) jE) rfl) X Hm Kk
theorem Yo:FnScope ["_law_script","_law_most","_law_first","_law_many","_law_way","_law_pairs","_law_k","_law_cell","_law_low"] ["_law_script","_law_most"] (jo (top 48)):=scK
theorem Yp (B:BiX P w K mg base) (Fn:Fun K "_law_drawn" "_law_drawn" (top 48) f fd) (kL:Gc P w K mg base) (Q6:Def P w K mg base "_law_any" 2 ["_law_script","_law_most"] (sp2 K (pF cScr) (pF cI) (rF (cP cI (cL (cP cI cI)))) ZB)) (kh:y8 P w K mg base) (Jh:Def P w K mg base "_law_field" 1 ["_law_first","_law_most"] (sp2 K (pF cI) (pF cI) (rF (cP cI (cL (cP cI cI)))) G5)):FnOk P w K mg base CX0 3 f fd ["_law_script","_law_most"] (sp2 K (pF cScr) (pF cI) (rF (cP cI (cL (cP cI cI)))) JX):=by
  refine(ok2 Fn Yo fun cdv A outer s H0 Q E_ hr nd hu script most kC Z0 Fe R X jd Z1 Hm Kk=>?_);refine⟨_,(jh (qE (j9 zz (jL xB (pD_ kL hr (jc (pv 0) (jc jq jl))) jq) jq (ky _)) (jn (j6 (pD_ Q6 hr (jc (pv 0) (jc (pv 1) jl))))) kg) (jh (pS (i:=2) nd (pD_ kh hr (jc (pv 0) (jc jq jl)))) (jh (pS (i:=3) nd (jL qC jq (jL xB (pv 2) (pv 1)))) (jh (pS (i:=4) nd (jL xB (jL xx (pv 2) jq) jq)) (jh (qE (j9 zz (pv 4) jq (ky _)) (jn (j6 (pD_ Jh hr (jc (jL xx (pv 2) jq) (jc (pv 1) jl))))) kg) (jh (qE (j9 zz (pv 4) jq (ky _)) (jn (j6 (xH (jc (pv 3) (jc (yy (own:=["_law_thing"]) (ix:=[]) (GD rfl) rfl (kA rfl B.range_ (jc (jL GR (pv 3) jq) jl)) (fun _=>(xN (i:=0) (show List.Nodup (["_law_thing"]:List Str) by decide +kernel) rfl (Or.inl rfl))) (fun _=>JS) (fun _=>(xH (jc (pv 0) (jc (jL qC (pv 0) jq) jl))))) jl))))) kg) (jh (qE (PW.pt (jc1 (j9 WG (pv 3) jq (ky _)) (YO (j9 zz (pv 4) jq (ky _))))) (jn (j6 (xH (jc (pv 3) (jc (xj jl) jl))))) kg) (jh (pS (i:=5) nd (xj jl)) (jh (qQ PassesOwn.never rfl (kA rfl B.range_ (jc (jL qC jq (jL xB (pD_ kh hr (jc (pv 0) (jc jq jl))) (jL GS jq (pv 3)))) jl)) (pG (i:=6) nd) (jh (pS (i:=7) nd (jL qC (pD_ kh hr (jc (pv 0) (jc (jL qC jq (pv 6)) jl))) (jL GS (jL xx (pv 2) jq) (jL qC (pv 6) jq)))) (jh (pS (i:=8) nd (jL xB (pv 7) (jL GR (pv 3) jq))) (jn (kj (QP XS XU XT qG (pv 5) (jc (xH (jc (pv 8) (jc (jL qC (jL qC (pv 8) jq) (jL xB (jL xx (pv 7) jq) (jL GR (jL GR (pv 3) jq) (pv 8)))) jl))) jl))))))) (jn (j6 (xH (jc (pv 3) (jc (pv 5) jl)))))))))))))),?_⟩
  try dsimp only[qe]
  unfold JX at Hm;replace jd:cScr.rep K Fe script kC:=jd;obtain rfl:Z0=.int most:=Z1;refine(jif (K:=K) (qH (j1 zA (U9 (by decide) (jz (eV (i:=0) jd) (jp _) rfl) (jp _) rfl) (jp _) rfl)) X Hm ?_ ?_)
  ·intro F H Hm E X
   try dsimp only[cond_true] at Hm
   replace jd:=E.xc jd;exact kd (K:=K) (jz (eV (i:=0) jd) (eI (i:=1)) rfl) X Hm Kk
  ·intro F H Hm E X
   try dsimp only[cond_false] at Hm
   replace jd:=E.xc jd;refine GP ?_;refine(kZ (K:=K) (jz (eV (i:=0) jd) (jp _) rfl) X Hm ?_);intro first F H Hm E X;replace jd:=E.xc jd;refine(kZ (K:=K) (j1 ki (jp _) (jk Ul (eI (i:=2)) (eI (i:=1)) rfl) rfl) X Hm ?_);intro many F H Hm E X;replace jd:=E.xc jd;refine(kZ (K:=K) (xo (by decide) (qX ⟨by decide,by decide⟩ (eI (i:=2)) (jp _) rfl) (jp _) rfl) X Hm ?_);intro way F H Hm E X;replace jd:=E.xc jd;refine(jb4 (K:=K) (qH (jk zA (eI (i:=4)) (jp _) rfl)) X Hm ?_ ?_)
   ·intro F H Hc Hm E X;exact kd (K:=K) (jz (qX ⟨by decide,by decide⟩ (eI (i:=2)) (jp _) rfl) (eI (i:=1)) rfl) X Hm Kk
   ·intro F H Hc Hm E X;replace jd:=E.xc jd;refine GP ?_;refine(jb4 (K:=K) (qH (jk zA (eI (i:=4)) (jp _) rfl)) X Hm ?_ ?_)
    ·intro F H Hc Hm E X;exact kd (K:=K) (U7 (eI (i:=3)) (GX (xy (yW (jk ki (eI (i:=3)) (jp _) rfl) rfl) [] rfl (fun b7 thing _ _ E6=>U4) (fun b7 thing _ _ E6=>(qz (eI (i:=0)) (jk ki (eI (i:=0)) (jp _) rfl) rfl)) rfl)) rfl) X Hm Kk
    ·intro F H Hc Hm E X;replace jd:=E.xc jd;refine GP ?_;refine(jb4 (K:=K) (jd5 (qH (jk zf (eI (i:=3)) (jp _) rfl)) (qH (jk zA (eI (i:=4)) (jp _) rfl)) rfl) X Hm ?_ ?_)
     ·intro F H Hc Hm E X;exact kd (K:=K) (qz (eI (i:=3)) (GX (xk (qD (c:=(cP cI cI))) (by decide))) rfl) X Hm Kk
     ·intro F H Hc Hm E X;replace jd:=E.xc jd;refine GP ?_;refine(yq (K:=K) (xk (qD (c:=(cP cI cI))) (by decide)) X Hm ?_);intro pairs j_ F H Hm E X Hn jA;replace jd:=E.xc jd;refine JU (K:=K) (c:=cI) ?_ X Hm (fun F1 pairs σ' F' H'=>∃ (j_:Addr) (w16_:Option V) (w17_:Option V) (w18_:Option V),σ'=[some kC,some (.int most),some (.int first),some (.int many),some (.int way),some (.ref j_),w16_,w17_,w18_]/\(Ext Fe H0 F' H'/\Same F1 F')/\Own K H0 F' H' (cP cI cI) pairs j_) ?_ ?_ ?_ ?_
      ·exact(Zd (j1 ki (jp _) (j1 Ul (jz (ko (p:=pF cScr) (i:=0) rfl jd) (jp _) rfl) (U8 ⟨by decide,by decide⟩ (jp _) (jbh (i:=3) rfl) rfl) rfl) rfl) rfl)
      ·intro F H E X;replace jA:=jA.mono E;exact⟨_,_,_,_,rfl,⟨X,(Same.refl _)⟩,jA⟩
      ·rintro F1 pairs σ_ F_ H_ ⟨j_,w16_,w17_,w18_,rfl,⟨X_,SF_⟩,jA⟩;exact⟨X_,SF_⟩
      ·rintro F1 S0_ pairs B_ k_ V_k_ σ_ F_ H_ F H ⟨j_,w16_,w17_,w18_,rfl,⟨X,SF_⟩,jA⟩ E P_k_ Hm
       try dsimp only at Hm
       have SL0:=SF_;replace SF_:=Same.trans S0_ SF_;replace jd:=Cd.mono _ SF_ jd;replace X:=Ext.trans X E;replace jd:=E.xc jd;replace jA:=jA.mono E;replace SL0:=E.xd SL0;obtain rfl:V_k_=.int k_:=P_k_;refine xD ?_;refine(kZ (K:=K) (j1 ki (jz (eV (i:=0) jd) (jk ki (jp _) (eI (i:=6)) rfl) rfl) (jk jac (qX ⟨by decide,by decide⟩ (eI (i:=2)) (jp _) rfl) (jk ki (eI (i:=6)) (jp _) rfl) rfl) rfl) X Hm ?_);intro cell F H Hm E X;replace jA:=jA.mono E;replace SL0:=E.xd SL0;refine(kZ (K:=K) (jk Ul (eI (i:=7)) (jk ki (eI (i:=3)) (jp _) rfl) rfl) X Hm ?_);intro low F H Hm E X;replace jA:=jA.mono E;replace SL0:=E.xd SL0;refine(yV (K:=K) (i:=5) rfl jA (U7 (eI (i:=8)) (j1 ki (jk ki (eI (i:=8)) (jp _) rfl) (jk Ul (qX ⟨by decide,by decide⟩ (eI (i:=7)) (jp _) rfl) (jk ki (jk ki (eI (i:=3)) (jp _) rfl) (eI (i:=8)) rfl) rfl) rfl) rfl) X Hm ?_);intro pairs F H Hm Cg X jA;replace SL0:=Same.trans SL0 Cg.f;cases Hm;exact⟨F,_,_,_,_,rfl,⟨X,SL0⟩,jA⟩
      ·rintro F1 S0_ pairs σ_ F H Hm ⟨j_,w16_,w17_,w18_,rfl,⟨X,SF_⟩,jA⟩
       try dsimp only at Hm
       obtain⟨F,X,Cg,jE⟩:=Own.freeze jA X;clear jA;exact kd (K:=K) (qz (eI (i:=3)) (eV (i:=5) jE) rfl) X Hm Kk
theorem Yq:FnScope ["_law_many","_law_pairs","_law_under_here","_law_high","_law_found","_law_low","_law_top"] ["_law_many","_law_pairs"] (jo (top 49)):=scK
theorem Yr (B:BiX P w K mg base) (Fn:Fun K "_law_under" "_law_under" (top 49) f fd):FnOk P w K mg base CX0 1 f fd ["_law_many","_law_pairs"] (sp2 K (pF cI) (pB (cP cI cI)) (rO (cL cI)) G6):=by
  refine(ok2 Fn Yq fun cdv A outer s H0 Q E_ hr nd hu many pairs QK xG Fe R X QL jE Hm Kk=>?_);refine⟨_,(jh (pS (i:=2) nd (xj jl)) (jh (qQ PassesOwn.never rfl (kA rfl B.range_ (jc (pv 0) jl)) (pG (i:=3) nd) (jh (pS (i:=4) nd (xj jl)) (jh (qQ PassesOwn.never rfl (yS (pv 1)) (UM rfl (xi (pG (i:=5) nd) (xi (pG (i:=6) nd) JP))) (jn (zG (qE (j9 zz (pv 6) (pv 3) (ky _)) (jn (kj (QP XS PySem.F.slot_list_extend PySem.F.type_list_extend jdl (pv 4) (jc (jL jbd (xj (jc (pv 5) jl)) (pX yT (pv 2) (pv 5))) jl)))) kg)))) (jn (kj (QP XS XU XT qG (pv 2) (jc (kB (Zp rfl) B.sorted_ (cY (jgg rfl) B.set_ (pv 4))) jl))))))) (jn (j6 (pv 2))))),?_⟩
  try dsimp only[qe]
  unfold G6 at Hm;obtain rfl:QK=.int many:=QL;have jv:Bor K H0 Fe (cP cI cI) pairs xG:=jE;clear jE;refine(yq (K:=K) (xk (qD (c:=(cL cI))) (by decide)) X Hm ?_);intro under_here kH F H Hm E X Hn Ae;replace jv:=E.xb jv;refine JU (K:=K) (c:=cI) ?_ X Hm (fun F1 under_here σ' F' H'=>∃ (kH:Addr) (w1_:Option V) (w2_:Option V) (w3_:Option V) (w4_:Option V),σ'=[some (.int many),some xG,some (.ref kH),w1_,w2_,w3_,w4_]/\(Ext Fe H0 F' H'/\Same F1 F')/\Own K H0 F' H' (cL cI) under_here kH) ?_ ?_ ?_ ?_
  ·exact(qf (jbh (i:=0) rfl) rfl)
  ·intro F H E X;replace Ae:=Ae.mono E;exact⟨_,_,_,_,_,rfl,⟨X,(Same.refl _)⟩,Ae⟩
  ·rintro F1 under_here σ_ F_ H_ ⟨kH,w1_,w2_,w3_,w4_,rfl,⟨X_,SF_⟩,Ae⟩;exact⟨X_,SF_⟩
  ·rintro F1 S0_ under_here B_ high Jf σ_ F_ H_ F H ⟨kH,w1_,w2_,w3_,w4_,rfl,⟨X,SF_⟩,Ae⟩ E Jg Hm
   try dsimp only at Hm
   have SL0:=SF_;replace SF_:=Same.trans S0_ SF_;replace jv:=Bor.mono jv SF_;replace X:=Ext.trans X E;replace jv:=E.xb jv;replace Ae:=Ae.mono E;replace SL0:=E.xd SL0;obtain rfl:Jf=.int high:=Jg;refine xD ?_;refine(yq (K:=K) (xk (qD (c:=cI)) (by decide)) X Hm ?_);intro found jK F H Hm E X Hn Ab;have jO:=Own.ne Ae Hn;have xl:=Ne.symm jO;replace jv:=E.xb jv;replace Ae:=Ae.mono E;replace SL0:=E.xd SL0;refine U6 (K:=K) (c:=(cP cI cI)) ?_ X Hm (fun F1 found σ' F' H'=>∃ (jK:Addr) (w5_:Option V) (w6_:Option V),σ'=[some (.int many),some xG,some (.ref kH),some (.int high),some (.ref jK),w5_,w6_]/\(Ext Fe H0 F' H'/\Same F1 F')/\Own K H0 F' H' (cL cI) under_here kH/\Own K H0 F' H' cI found jK/\kH≠jK) ?_ ?_ ?_ ?_
   ·exact(U3 (i:=1) rfl jv)
   ·intro F H E X;replace Ae:=Ae.mono E;replace Ab:=Ab.mono E;exact⟨_,_,_,rfl,⟨X,(Same.refl _)⟩,Ae,Ab,jO⟩
   ·rintro F1 found σ_ F_ H_ ⟨jK,w5_,w6_,rfl,⟨X_,SF_⟩,Ae,Ab,jO⟩;exact⟨X_,SF_⟩
   ·rintro F1 S0_ found B_ ⟨low,top⟩ A6 σ_ F_ H_ F H ⟨jK,w5_,w6_,rfl,⟨X,SF_⟩,Ae,Ab,jO⟩ E A5 Hm
    try dsimp only at Hm
    have SL1:=SF_;replace SF_:=Same.trans S0_ SF_;have xl:=Ne.symm jO;replace X:=Ext.trans X E;replace Ae:=Ae.mono E;replace Ab:=Ab.mono E;replace SL1:=E.xd SL1;refine jbo A5 X.sub fun VF jlm VG jln=>?_;obtain rfl:VF=.int low:=VG;obtain rfl:jlm=.int top:=jln;refine(jae (K:=K) (fun found σ' H'=>∃ F':Hp,∃ (jK:Addr) ,σ'=[some (.int many),some xG,some (.ref kH),some (.int high),some (.ref jK),some (.int low),some (.int top)]/\(Ext Fe H0 F' H'/\Same F F')/\Own K H0 F' H' (cL cI) under_here kH/\Own K H0 F' H' cI found jK/\kH≠jK) (qH (jk zA (eI (i:=6)) (eI (i:=3)) rfl)) X Hm ?_ ?_ ?_)
    ·intro B_ F H Hm E X;replace Ae:=Ae.mono E;replace Ab:=Ab.mono E;have SJ2:=E.f;refine(jd9 (K:=K) (k':=4) rfl Ab (x8 (j1 jfN (x8 (xk (ku (eI (i:=5)) (qD (c:=cI)) rfl) (by decide))) (Qi (jk U0 (qy (ko (p:=pB (cL cI)) (i:=2) rfl Ae.b)) (eI (i:=5)) rfl)) rfl)) X Hm ?_);intro found F H Hm Cg X Ab;replace Ae:=Own.chg Ae Cg jO;replace SJ2:=Same.trans SJ2 Cg.f;cases Hm;exact⟨F,_,rfl,⟨X,SJ2⟩,Ae,Ab,jO⟩
    ·intro B_ F H Hm E X;replace Ae:=Ae.mono E;replace Ab:=Ab.mono E;have SJ2:=E.f;refine GP ?_;cases Hm;exact⟨F,_,rfl,⟨X,SJ2⟩,Ae,Ab,jO⟩
    ·rintro found σ_ H Hm ⟨F,jK,rfl,⟨X,SF_⟩,Ae,Ab,jO⟩
     try dsimp only at Hm
     replace SL1:=Same.trans SL1 SF_;have xl:=Ne.symm jO;cases Hm;exact⟨F,_,_,_,rfl,⟨X,SL1⟩,Ae,Ab,jO⟩
   ·rintro F1 S0_ found σ_ F H Hm ⟨jK,w5_,w6_,rfl,⟨X,SF_⟩,Ae,Ab,jO⟩
    try dsimp only at Hm
    replace SF_:=Same.trans S0_ SF_;replace SL0:=Same.trans SL0 SF_;have xl:=Ne.symm jO;refine(yV (K:=K) (i:=2) rfl Ae (GX (jay (qy (ko (p:=pB cI) (i:=4) rfl Ab.b)) rfl)) X Hm ?_);intro under_here F H Hm Cg X Ae;replace SL0:=Same.trans SL0 Cg.f;cases Hm;exact⟨F,_,_,_,_,_,rfl,⟨X,SL0⟩,Ae⟩
  ·rintro F1 S0_ under_here σ_ F H Hm ⟨kH,w1_,w2_,w3_,w4_,rfl,⟨X,SF_⟩,Ae⟩
   try dsimp only at Hm
   exact jh4 (K:=K) (i:=2) rfl Ae X Hm Kk
theorem V1:FnScope ["many","pairs","low","high"] ["many","pairs"] (jo (top 10)):=scK
theorem V2 (B:BiX P w K mg base) (Fn:Fun K "check_parts" "check_parts" (top 10) f fd) (Gg:∃ t,mg "MOST_THINGS"=some (.int 9 t)):FnOk P w K mg base CX0 1 f fd ["many","pairs"] (sp2 K (pF cI) (pB (cP cI cI)) (rF cU) qY):=by
  refine(ok2 Fn V1 fun cdv A outer s H0 Q E_ hr nd hu many pairs QK xG Fe R X QL jE Hm Kk=>?_);obtain⟨t_MOST_THINGS,g_MOST_THINGS⟩:=Gg;refine⟨_,(jh (qE (GB (ja_ jfu jfu jq (pv 0) (zy (v:=.int 9) rfl g_MOST_THINGS ⟨_,rfl⟩))) (jn Qe) kg) (jn (qQ PassesOwn.never rfl (yS (pv 1)) (UM rfl (xi (pG (i:=2) nd) (xi (pG (i:=3) nd) JP))) (jn (qE (GB (jdy jfu WG WG jq (pv 2) (pv 3) (pv 0))) (jn Qe) kg))))),?_⟩
  try dsimp only[qe]
  unfold qY at Hm;obtain rfl:QK=.int many:=QL;have jv:Bor K H0 Fe (cP cI cI) pairs xG:=jE;clear jE;refine(jb4 (K:=K) (QQ (qH (U_ (jp _) (eI (i:=0)) (jp _) rfl)) rfl) X Hm ?_ ?_)
  ·intro F H Hc Hm E X;cases Hm
  ·intro F H Hc Hm E X;replace jv:=E.xb jv;refine GP ?_;refine jf5 (K:=K) (c:=(cP cI cI)) ?_ X Hm (fun F1 b σ' F' H'=>∃ (w1_:Option V) (w2_:Option V),σ'=[some (.int many),some xG,w1_,w2_]/\(Ext Fe H0 F' H'/\Same F1 F')) ?_ ?_ ?_ ?_
   ·exact(U3 (i:=1) rfl jv)
   ·intro F H E X;exact⟨_,_,rfl,⟨X,(Same.refl _)⟩⟩
   ·rintro F1 _ σ_ F_ H_ ⟨w1_,w2_,rfl,⟨X_,SF_⟩⟩;exact⟨X_,SF_⟩
   ·rintro F1 S0_ _ B_ ⟨low,high⟩ A8 σ_ F_ H_ F H ⟨w1_,w2_,rfl,⟨X,SF_⟩⟩ E A7 Hm
    try dsimp only at Hm
    have SL0:=SF_;replace X:=Ext.trans X E;replace SL0:=E.xd SL0;refine jbo A7 X.sub fun VF Jf VG Jg=>?_;obtain rfl:VF=.int low:=VG;obtain rfl:Jf=.int high:=Jg;refine(Za (K:=K) (QQ (qH (Zf (jp _) (eI (i:=2)) (eI (i:=3)) (eI (i:=0)) rfl)) rfl) X Hm ?_ ?_)
    ·intro F H Hc Hm E X;cases Hm
    ·intro F H Hc Hm E X;replace SL0:=E.xd SL0;refine GP ?_;cases Hm;exact⟨F,_,_,rfl,⟨X,SL0⟩⟩
   ·rintro F1 S0_ _ σ_ F H Hm ⟨w1_,w2_,rfl,⟨X,SF_⟩⟩
    try dsimp only at Hm
    cases Hm;exact Kk _ F H X rfl
theorem Ys:FnScope ["many","pairs","found","thing","bits","low","high"] ["many","pairs"] (jo (top 12)):=scK
theorem Yt (B:BiX P w K mg base) (Fn:Fun K "sets_below" "sets_below" (top 12) f fd):FnOk P w K mg base CX0 1 f fd ["many","pairs"] (sp2 K (pF cI) (pB (cP cI cI)) (rF (cT cI)) xp):=by
  refine(ok2 Fn Ys fun cdv A outer s H0 Q E_ hr nd hu many pairs QK xG Fe R X QL jE Hm Kk=>?_);refine⟨_,(jh (pS (i:=2) nd (xj jl)) (jh (qQ PassesOwn.never rfl (kA rfl B.range_ (jc (pv 0) jl)) (pG (i:=3) nd) (jh (pS (i:=4) nd jq) (jh (qQ PassesOwn.never rfl (yS (pv 1)) (UM rfl (xi (pG (i:=5) nd) (xi (pG (i:=6) nd) JP))) (jn (zG (qE (j9 zz (pv 6) (pv 3) (ky _)) (jn (pS (i:=4) nd (jL jc9 (jL jc9 (pv 4) (pX yT (pv 2) (pv 5))) (jL jc8 jq (pv 5))))) kg)))) (jn (kj (QP XS XU XT qG (pv 2) (jc (pv 4) jl))))))) (jn (j6 (cY x6 B.tuple_ (pv 2)))))),?_⟩
  try dsimp only[qe]
  unfold xp at Hm;obtain rfl:QK=.int many:=QL;have jv:Bor K H0 Fe (cP cI cI) pairs xG:=jE;clear jE;refine(yq (K:=K) (xk (qD (c:=cI)) (by decide)) X Hm ?_);intro found jK F H Hm E X Hn Ab;replace jv:=E.xb jv;refine JU (K:=K) (c:=cI) ?_ X Hm (fun F1 found σ' F' H'=>∃ (jK:Addr) (w1_:Option V) (w2_:Option V) (w3_:Option V) (w4_:Option V),σ'=[some (.int many),some xG,some (.ref jK),w1_,w2_,w3_,w4_]/\(Ext Fe H0 F' H'/\Same F1 F')/\Own K H0 F' H' cI found jK) ?_ ?_ ?_ ?_
  ·exact(qf (jbh (i:=0) rfl) rfl)
  ·intro F H E X;replace Ab:=Ab.mono E;exact⟨_,_,_,_,_,rfl,⟨X,(Same.refl _)⟩,Ab⟩
  ·rintro F1 found σ_ F_ H_ ⟨jK,w1_,w2_,w3_,w4_,rfl,⟨X_,SF_⟩,Ab⟩;exact⟨X_,SF_⟩
  ·rintro F1 S0_ found B_ thing kD σ_ F_ H_ F H ⟨jK,w1_,w2_,w3_,w4_,rfl,⟨X,SF_⟩,Ab⟩ E kE Hm
   try dsimp only at Hm
   have SL0:=SF_;replace SF_:=Same.trans S0_ SF_;replace jv:=Bor.mono jv SF_;replace X:=Ext.trans X E;replace jv:=E.xb jv;replace Ab:=Ab.mono E;replace SL0:=E.xd SL0;obtain rfl:kD=.int thing:=kE;refine xD ?_;refine(kZ (K:=K) (jp _) X Hm ?_);intro bits F H Hm E X;replace jv:=E.xb jv;replace Ab:=Ab.mono E;replace SL0:=E.xd SL0;refine U6 (K:=K) (c:=(cP cI cI)) ?_ X Hm (fun F1 bits σ' F' H'=>∃ (w5_:Option V) (w6_:Option V),σ'=[some (.int many),some xG,some (.ref jK),some (.int thing),some (.int bits),w5_,w6_]/\(Ext Fe H0 F' H'/\Same F1 F')/\Own K H0 F' H' cI found jK) ?_ ?_ ?_ ?_
   ·exact(U3 (i:=1) rfl jv)
   ·intro F H E X;replace Ab:=Ab.mono E;exact⟨_,_,rfl,⟨X,(Same.refl _)⟩,Ab⟩
   ·rintro F1 bits σ_ F_ H_ ⟨w5_,w6_,rfl,⟨X_,SF_⟩,Ab⟩;exact⟨X_,SF_⟩
   ·rintro F1 S0_ bits B_ ⟨low,high⟩ A6 σ_ F_ H_ F H ⟨w5_,w6_,rfl,⟨X,SF_⟩,Ab⟩ E A5 Hm
    try dsimp only at Hm
    have SL1:=SF_;replace SF_:=Same.trans S0_ SF_;replace X:=Ext.trans X E;replace Ab:=Ab.mono E;replace SL1:=E.xd SL1;refine jbo A5 X.sub fun VF Jf VG Jg=>?_;obtain rfl:VF=.int low:=VG;obtain rfl:Jf=.int high:=Jg;refine(jae (K:=K) (fun bits σ' H'=>∃ F':Hp,σ'=[some (.int many),some xG,some (.ref jK),some (.int thing),some (.int bits),some (.int low),some (.int high)]/\(Ext Fe H0 F' H'/\Same F F')/\Own K H0 F' H' cI found jK) (qH (jk zA (eI (i:=6)) (eI (i:=3)) rfl)) X Hm ?_ ?_ ?_)
    ·intro B_ F H Hm E X;replace Ab:=Ab.mono E;have SJ2:=E.f;refine(xR (K:=K) (j1 ki (j1 ki (eI (i:=4)) (jk U0 (qy (ko (p:=pB cI) (i:=2) rfl Ab.b)) (eI (i:=5)) rfl) rfl) (jk jhW (jp _) (eI (i:=5)) rfl) rfl) X Hm ?_);intro bits F H Hm E X;replace Ab:=Ab.mono E;replace SJ2:=E.xd SJ2;cases Hm;exact⟨F,rfl,⟨X,SJ2⟩,Ab⟩
    ·intro B_ F H Hm E X;replace Ab:=Ab.mono E;have SJ2:=E.f;refine GP ?_;cases Hm;exact⟨F,rfl,⟨X,SJ2⟩,Ab⟩
    ·rintro bits σ_ H Hm ⟨F,rfl,⟨X,SF_⟩,Ab⟩
     try dsimp only at Hm
     replace SL1:=Same.trans SL1 SF_;cases Hm;exact⟨F,_,_,rfl,⟨X,SL1⟩,Ab⟩
   ·rintro F1 S0_ bits σ_ F H Hm ⟨w5_,w6_,rfl,⟨X,SF_⟩,Ab⟩
    try dsimp only at Hm
    replace SF_:=Same.trans S0_ SF_;replace SL0:=Same.trans SL0 SF_;refine(yg (K:=K) (k':=2) rfl Ab (eI (i:=4)) X Hm ?_);intro found F H Hm Cg X Ab;replace SL0:=Same.trans SL0 Cg.f;cases Hm;exact⟨F,_,_,_,_,_,rfl,⟨X,SL0⟩,Ab⟩
  ·rintro F1 S0_ found σ_ F H Hm ⟨jK,w1_,w2_,w3_,w4_,rfl,⟨X,SF_⟩,Ab⟩
   try dsimp only at Hm
   exact kd (K:=K) (jN Y_ (qy (ko (p:=pB cI) (i:=2) rfl Ab.b)) rfl) X Hm Kk
theorem jkx:FnScope ["bits","thing"] ["bits","thing"] (jo (top 11)):=scK
theorem jky (B:BiX P w K mg base) (Fn:Fun K "has" "has" (top 11) f fd):FnOk P w K mg base CX0 1 f fd ["bits","thing"] (sp2 K (pF cI) (pF cI) (rF cB) QY):=by
  refine(ok2 Fn jkx fun cdv A outer s H0 Q E_ hr nd hu bits thing qM kD Fe R X qN kE Hm Kk=>?_);refine⟨_,(jn (j6 (QN zz (jL jg6 (jL jg5 (pv 0) (pv 1)) jq) jq (ky _)))),?_⟩
  try dsimp only[qe]
  unfold QY at Hm;obtain rfl:qM=.int bits:=qN;obtain rfl:kD=.int thing:=kE;exact kd (K:=K) (j1 zA (j1 ki (jk jjx (eI (i:=0)) (eI (i:=1)) rfl) (jp _) rfl) (jp _) rfl) X Hm Kk
theorem jaX:FnScope ["beneath","low","high"] ["beneath","low","high"] (jo (top 13)):=scK
theorem jaY (B:BiX P w K mg base) (Fn:Fun K "is_cover" "is_cover" (top 13) f fd) (VH:je7 P w K mg base):FnOk P w K mg base CX0 2 f fd ["beneath","low","high"] (sp3 K (pF (cT cI)) (pF cI) (pF cI) (rF cB) yi):=by
  refine(ok3 Fn jaX fun cdv A outer s H0 Q E_ hr nd hu beneath low high za VF Jf Fe R X jH VG Jg Hm Kk=>?_);refine⟨_,(jh (qE (GB (zE (pD_ VH hr (jc (pX GU (pv 0) (pv 2)) (jc (pv 1) jl))))) (jn (j6 JO)) kg) (jn (j6 (jg0 (kB (jfK rfl) B.any_ (yy (own:=["mid"]) (ix:=[0,1,2]) (GD rfl) rfl (YQ rfl B.range_ (jc (jL qC (pv 1) jq) (jc (pv 2) jl))) (fun _=>(xN (i:=0) (show List.Nodup (["mid","beneath","low","high"]:List Str) by decide +kernel) rfl (Or.inl rfl))) (fun _=>JS) (fun _=>(jgZ (pD_ VH hr (jc (pX GU (pv 1) (pv 3)) (jc (pv 0) jl))) (jgY (pD_ VH hr (jc (pX GU (pv 1) (pv 0)) (jc (pv 2) jl)))))))))))),?_⟩
  try dsimp only[qe]
  unfold yi at Hm;replace jH:(cT cI).rep K Fe beneath za:=jH;obtain rfl:VF=.int low:=VG;obtain rfl:Jf=.int high:=Jg;refine(jif (K:=K) (yK (yU (qI (jk U1 (eV (i:=0) jH) (eI (i:=2)) rfl) (eI (i:=1)) rfl)) rfl) X Hm ?_ ?_)
  ·intro F H Hm E X
   try dsimp only[cond_true] at Hm
   exact kd (K:=K) (JT _) X Hm Kk
  ·intro F H Hm E X
   try dsimp only[cond_false] at Hm
   replace jH:=E.xc jH;refine GP ?_;exact kd (K:=K) (jbu (yJ jk2 (qy (x8 (xy (jan (jk ki (eI (i:=1)) (jp _) rfl) (eI (i:=2)) rfl) [some za,some (.int low),some (.int high)] rfl (fun b5 mid _ _ E4=>U4) (fun b5 mid _ _ E4=>(jbv (qI (jk U1 (eV (i:=1) (Cd.mono _ (E4).f jH)) (eI (i:=3)) rfl) (eI (i:=0)) rfl) (qI (jk U1 (eV (i:=1) (Cd.mono _ (E4).f jH)) (eI (i:=0)) rfl) (eI (i:=2)) rfl) rfl)) rfl))) rfl) rfl) X Hm Kk
theorem V3:FnScope ["beneath","found","low","high"] ["beneath"] (jo (top 14)):=scK
theorem V4 (B:BiX P w K mg base) (Fn:Fun K "cover_pairs" "cover_pairs" (top 14) f fd) (Q7:Def P w K mg base "is_cover" 2 ["beneath","low","high"] (sp3 K (pF (cT cI)) (pF cI) (pF cI) (rF cB) yi)):FnOk P w K mg base CX0 3 f fd ["beneath"] (sp1 K (pF (cT cI)) (rF (cT (cP cI cI))) qZ):=by
  refine(ok1 Fn V3 fun cdv A outer s H0 Q E_ hr nd hu beneath za Fe R X jH Hm Kk=>?_);refine⟨_,(jh (pS (i:=1) nd (xj jl)) (jh (qQ PassesOwn.never rfl (kA rfl B.range_ (jc (kB jQ B.len_ (pv 0)) jl)) (pG (i:=2) nd) (jn (qQ PassesOwn.never rfl (YQ rfl B.range_ (jc (jL qC (pv 2) jq) (jc (kB jQ B.len_ (pv 0)) jl))) (pG (i:=3) nd) (jn (zG (qE (zE (pD_ Q7 hr (jc (pv 0) (jc (pv 2) (jc (pv 3) jl))))) (jn (kj (QP XS XU XT qG (pv 1) (jc (xH (jc (pv 2) (jc (pv 3) jl))) jl)))) kg)))))) (jn (j6 (cY x6 B.tuple_ (pv 1)))))),?_⟩
  try dsimp only[qe]
  unfold qZ at Hm;replace jH:(cT cI).rep K Fe beneath za:=jH;refine(yq (K:=K) (xk (qD (c:=(cP cI cI))) (by decide)) X Hm ?_);intro found jK F H Hm E X Hn Ab;replace jH:=E.xc jH;refine JU (K:=K) (c:=cI) ?_ X Hm (fun F1 found σ' F' H'=>∃ (jK:Addr) (w1_:Option V) (w2_:Option V),σ'=[some za,some (.ref jK),w1_,w2_]/\(Ext Fe H0 F' H'/\Same F1 F')/\Own K H0 F' H' (cP cI cI) found jK) ?_ ?_ ?_ ?_
  ·exact(qf (jN Y9 (ko (p:=pF (cT cI)) (i:=0) rfl jH) rfl) rfl)
  ·intro F H E X;replace Ab:=Ab.mono E;exact⟨_,_,_,rfl,⟨X,(Same.refl _)⟩,Ab⟩
  ·rintro F1 found σ_ F_ H_ ⟨jK,w1_,w2_,rfl,⟨X_,SF_⟩,Ab⟩;exact⟨X_,SF_⟩
  ·rintro F1 S0_ found B_ low VF σ_ F_ H_ F H ⟨jK,w1_,w2_,rfl,⟨X,SF_⟩,Ab⟩ E VG Hm
   try dsimp only at Hm
   have SL0:=SF_;replace SF_:=Same.trans S0_ SF_;replace jH:=Cd.mono _ SF_ jH;replace X:=Ext.trans X E;replace jH:=E.xc jH;replace Ab:=Ab.mono E;replace SL0:=E.xd SL0;obtain rfl:VF=.int low:=VG;refine xD ?_;refine jbm (K:=K) (c:=cI) ?_ X Hm (fun F1 found σ' F' H'=>∃ (jK:Addr) (w3_:Option V),σ'=[some za,some (.ref jK),some (.int low),w3_]/\(Ext Fe H0 F' H'/\Same F1 F')/\Own K H0 F' H' (cP cI cI) found jK) ?_ ?_ ?_ ?_
   ·exact(jam (jk ki (jbh (i:=2) rfl) (jp _) rfl) (jN Y9 (ko (p:=pF (cT cI)) (i:=0) rfl jH) rfl) rfl)
   ·intro F H E X;replace Ab:=Ab.mono E;exact⟨_,_,rfl,⟨X,(Same.refl _)⟩,Ab⟩
   ·rintro F1 found σ_ F_ H_ ⟨jK,w3_,rfl,⟨X_,SF_⟩,Ab⟩;exact⟨X_,SF_⟩
   ·rintro F1 S0_ found B_ high Jf σ_ F_ H_ F H ⟨jK,w3_,rfl,⟨X,SF_⟩,Ab⟩ E Jg Hm
    try dsimp only at Hm
    have SL1:=SF_;replace SF_:=Same.trans S0_ SF_;replace jH:=Cd.mono _ SF_ jH;replace X:=Ext.trans X E;replace jH:=E.xc jH;replace Ab:=Ab.mono E;replace SL1:=E.xd SL1;obtain rfl:Jf=.int high:=Jg;refine xD ?_;refine(U2 (K:=K) (fun found σ' H'=>∃ F':Hp,∃ (jK:Addr) ,σ'=[some za,some (.ref jK),some (.int low),some (.int high)]/\(Ext Fe H0 F' H'/\Same F F')/\Own K H0 F' H' (cP cI cI) found jK) (yU (yr (eV (i:=0) jH) (eI (i:=2)) (eI (i:=3)) rfl)) X Hm ?_ ?_ ?_)
    ·intro B_ F H Hm E X;replace Ab:=Ab.mono E;have SJ2:=E.f;refine(yg (K:=K) (k':=1) rfl Ab (qz (eI (i:=2)) (eI (i:=3)) rfl) X Hm ?_);intro found F H Hm Cg X Ab;replace SJ2:=Same.trans SJ2 Cg.f;cases Hm;exact⟨F,_,rfl,⟨X,SJ2⟩,Ab⟩
    ·intro B_ F H Hm E X;replace Ab:=Ab.mono E;have SJ2:=E.f;refine GP ?_;cases Hm;exact⟨F,_,rfl,⟨X,SJ2⟩,Ab⟩
    ·rintro found σ_ H Hm ⟨F,jK,rfl,⟨X,SF_⟩,Ab⟩
     try dsimp only at Hm
     replace SL1:=Same.trans SL1 SF_;cases Hm;exact⟨F,_,_,rfl,⟨X,SL1⟩,Ab⟩
   ·rintro F1 S0_ found σ_ F H Hm ⟨jK,w3_,rfl,⟨X,SF_⟩,Ab⟩
    try dsimp only at Hm
    replace SF_:=Same.trans S0_ SF_;replace SL0:=Same.trans SL0 SF_;cases Hm;exact⟨F,_,_,_,rfl,⟨X,SL0⟩,Ab⟩
  ·rintro F1 S0_ found σ_ F H Hm ⟨jK,w1_,w2_,rfl,⟨X,SF_⟩,Ab⟩
   try dsimp only at Hm
   exact kd (K:=K) (jN Y_ (qy (ko (p:=pB (cP cI cI)) (i:=1) rfl Ab.b)) rfl) X Hm Kk
theorem Az:FnScope ["self","many","pairs"] ["self","many","pairs"] (jo ((jG (top 15) 0))):=scK
theorem Yu (B:BiX P w K mg base) (Aa:Ad K mg jb) (Fn:Fun K "__init__" "Order.__init__" ((jG (top 15) 0)) f fd) (Gh:Def P w K mg base "check_parts" 1 ["many","pairs"] (sp2 K (pF cI) (pB (cP cI cI)) (rF cU) qY)) (Ji:Def P w K mg base "sets_below" 1 ["many","pairs"] (sp2 K (pF cI) (pB (cP cI cI)) (rF (cT cI)) xp)) (Gi:Def P w K mg base "cover_pairs" 3 ["beneath"] (sp1 K (pF (cT cI)) (rF (cT (cP cI cI))) qZ)):FnOk P w K mg base CX0 4 f fd ["self","many","pairs"] (jk3 K jb (pF cI) (pB (cP cI cI)) (jC jb) xq):=by
 refine Fn.ok Az (fun vs H Q E h=>?_) (fun cdv A outer s Hq vs Q E_ hr h=>?_)
 ·obtain⟨_,_,_,_,_,_,_,_,_,rfl,_⟩:=h;rfl
 ·obtain⟨many,pairs,QK,xG,Fe,H0,x_self,dx_self,R,rfl,rfl,n1_,n2_,n3_,S_,QL,jE,Hm,Kk⟩:=h;have nd:=Az.nd;have hu:=UW hr;refine⟨_,(jh (kj (pD_ Gh hr (jc (pv 1) (jc (pv 2) jl)))) (jh (UO (pv 0) (pv 1) rfl) (jh (UO (pv 0) (pD_ Ji hr (jc (pv 1) (jc (pv 2) jl))) rfl) (jn (UO (pv 0) (pD_ Gi hr (jc (xC (pv 0) rfl) jl)) rfl))))),?_⟩
  try dsimp only[qe]
  obtain⟨X,qT⟩:=zJ (C:=jb) S_ n1_ n2_ n3_;unfold xq at Hm;obtain rfl:QK=.int many:=QL;have jv:Bor K H0 Fe (cP cI cI) pairs xG:=jE;clear jE;refine(zI (K:=K) (jz (eI (i:=1)) (ko (p:=pB (cP cI cI)) (i:=2) rfl (Bor.b jv X)) rfl) X Hm ?_);intro _ F H Hm E X;replace jv:=E.xb jv;replace qT:=OwnI.mono qT E;refine(jjI (K:=K) (k':=0) (c:=cI) rfl qT Aa.cl Aa.n_many (Nat.lt_of_le_of_lt (Xh 0) (by decide:0<1000)) (eI (i:=1)) X Hm ?_);intro f_many jaZ F H Hm Cg X ja0 qT;replace jv:=Bor.mono jv Cg.f;obtain rfl:jaZ=.int f_many:=ja0;refine(jjI (K:=K) (k':=0) (c:=(cT cI)) rfl qT Aa.cl Aa.n_beneath (Nat.lt_of_le_of_lt (jap (Xh 0)) (by decide:1<1000)) (jz (eI (i:=1)) (ko (p:=pB (cP cI cI)) (i:=2) rfl (Bor.b jv X)) rfl) X Hm ?_);intro f_beneath jfk F H Hm Cg X yn qT;refine(Wj (K:=K) (k':=0) (c:=(cT (cP cI cI))) rfl qT Aa.cl Aa.n_neighbours (Nat.lt_of_le_of_lt (jap (jap (Xh 0))) (by decide:2<1000)) (zh (jik (p:=pF (cT cI)) (k:=0) rfl qT Aa.cl Aa.n_beneath (by rw[jF,if_pos rfl]) yn) rfl) X Hm ?_);intro f_neighbours jcU F H Hm Cg X Q8 qT;replace yn:=Cd.mono _ Cg.f yn;cases Hm;obtain⟨F',X',Cg,hx⟩:=OwnI.freeze qT X;exact Kk F' H X' ⟨x_self,dx_self,_,_,_,rfl,hx,rfl,Cd.mono _ Cg.f yn,Cd.mono _ Cg.f Q8⟩
theorem ZM:FnScope ["_law_under_here","_law_script","_law_at","_law_line_here","_law_cell","_law_free_here","_law_thing"] ["_law_under_here","_law_script","_law_at"] (jo (top 51)):=scK
theorem ZN (B:BiX P w K mg base) (Fn:Fun K "_law_line" "_law_line" (top 51) f fd) (kL:Gc P w K mg base) (kh:y8 P w K mg base):FnOk P w K mg base CX0 2 f fd ["_law_under_here","_law_script","_law_at"] (sp3 K (pB (cL cI)) (pF cScr) (pF cI) (rF (cT cI)) Uc):=by
  refine(ok3 Fn ZM fun cdv A outer s H0 Q E_ hr nd hu under_here script at_ ka kC ji4 Fe R X jm jd ji5 Hm Kk=>?_);refine⟨_,(jh (pS (i:=3) nd (xj jl)) (jh (pS (i:=4) nd (pD_ kL hr (jc (pv 1) (jc (pv 2) jl)))) (jh (WD PassesOwn.never (j9 WG (kB jQ B.len_ (pv 3)) (kB jQ B.len_ (pv 0)) (ky _)) (jh (pS (i:=5) nd (xj jl)) (jh (qQ PassesOwn.never rfl (kA rfl B.range_ (jc (kB jQ B.len_ (pv 0)) jl)) (pG (i:=6) nd) (jn (zG (qE (PW.pt (jjh (j9 (jdu hu) (pv 6) (pv 3) (by with_unfolding_all rfl)) (jhG (zE (kB (UB rfl) B.all_ (yy (own:=["_law_low"]) (ix:=[3]) (GD rfl) rfl (yS (pX yT (pv 0) (pv 6))) (fun _=>(xN (i:=0) (show List.Nodup (["_law_low","_law_line_here"]:List Str) by decide +kernel) rfl (Or.inl rfl))) (fun _=>JS) (fun _=>(QN (jhd hu) (pv 0) (pv 1) (by with_unfolding_all rfl))))))))) (jn (kj (QP XS XU XT qG (pv 5) (jc (pv 6) jl)))) kg)))) (jh (zG (qE (j9 zz (jL xB (pD_ kL hr (jc (pv 1) (jc jq jl))) jq) jq (ky _)) (jn (pS (i:=4) nd (jL qC (pD_ kh hr (jc (pv 1) (jc (jL qC (pv 2) (kB jQ B.len_ (pv 3))) jl))) (jL GS (jL xx (pD_ kh hr (jc (pv 1) (jc jq jl))) jq) (jL qC (kB jQ B.len_ (pv 3)) jq))))) kg)) (jh (kj (QP XS XU XT qG (pv 3) (jc (pX yT (pv 5) (jL xB (pv 4) (kB jQ B.len_ (pv 5)))) jl))) (jn (pS (i:=4) nd (jL xx (pv 4) (kB jQ B.len_ (pv 5)))))))))) (jn (j6 (cY x6 B.tuple_ (pv 3))))))),?_⟩
  try dsimp only[qe]
  unfold Uc at Hm;have jf:Bor K H0 Fe (cL cI) under_here ka:=jm;clear jm;replace jd:cScr.rep K Fe script kC:=jd;obtain rfl:ji4=.int at_:=ji5;refine(yq (K:=K) (xk (qD (c:=cI)) (by decide)) X Hm ?_);intro line_here kl F H Hm E X Hn Ac;replace jf:=E.xb jf;replace jd:=E.xc jd;refine(kZ (K:=K) (jz (eV (i:=1) jd) (eI (i:=2)) rfl) X Hm ?_);intro cell F H Hm E X;replace jf:=E.xb jf;replace jd:=E.xc jd;replace Ac:=Ac.mono E;refine jat (K:=K) X Hm (fun F1 b σ' F' H'=>match b with | (line_here,cell)=>∃ (kl:Addr) (w1_:Option V) (w2_:Option V),σ'=[some ka,some kC,some (.int at_),some (.ref kl),some (.int cell),w1_,w2_]/\(Ext Fe H0 F' H'/\Same F1 F')/\Own K H0 F' H' cI line_here kl) ?_ ?_ ?_ ?_ ?_
  ·exact⟨_,_,_,rfl,⟨X,(Same.refl _)⟩,Ac⟩
  ·rintro F1 ⟨line_here,cell⟩ σ_ F_ H_ ⟨kl,w1_,w2_,rfl,⟨X_,SF_⟩,Ac⟩;exact⟨X_,SF_⟩
  ·rintro⟨line_here,cell⟩ σ_ F H ⟨kl,w1_,w2_,rfl,⟨X,SF_⟩,Ac⟩;replace jf:=Bor.mono jf SF_;exact(qH (jk zf (jN yp (qy (ko (p:=pB cI) (i:=3) rfl Ac.b)) rfl) (jN yp (qy (ko (p:=pB (cL cI)) (i:=0) rfl (Bor.b jf X))) rfl) rfl))
  ·rintro⟨line_here,cell⟩ B_ σ_ F_ H_ F H ⟨kl,w1_,w2_,rfl,⟨X,SF_⟩,Ac⟩ E Hm
   try dsimp only at Hm
   have SL0:=SF_;replace jf:=Bor.mono jf SF_;replace jd:=Cd.mono _ SF_ jd;replace X:=Ext.trans X E;replace jf:=E.xb jf;replace jd:=E.xc jd;replace Ac:=Ac.mono E;replace SL0:=E.xd SL0;refine(yq (K:=K) (xk (qD (c:=cI)) (by decide)) X Hm ?_);intro free_here kF F H Hm E X Hn Ag;have jI:=Own.ne Ac Hn;have qu:=Ne.symm jI;replace jf:=E.xb jf;replace jd:=E.xc jd;replace Ac:=Ac.mono E;replace SL0:=E.xd SL0;refine JU (K:=K) (c:=cI) ?_ X Hm (fun F1 free_here σ' F' H'=>∃ (kF:Addr) (w4_:Option V),σ'=[some ka,some kC,some (.int at_),some (.ref kl),some (.int cell),some (.ref kF),w4_]/\(Ext Fe H0 F' H'/\Same F1 F')/\Own K H0 F' H' cI line_here kl/\Own K H0 F' H' cI free_here kF/\kl≠kF) ?_ ?_ ?_ ?_
   ·exact(qf (jN yp (qy (ko (p:=pB (cL cI)) (i:=0) rfl (Bor.b jf X))) rfl) rfl)
   ·intro F H E X;replace Ac:=Ac.mono E;replace Ag:=Ag.mono E;exact⟨_,_,rfl,⟨X,(Same.refl _)⟩,Ac,Ag,jI⟩
   ·rintro F1 free_here σ_ F_ H_ ⟨kF,w4_,rfl,⟨X_,SF_⟩,Ac,Ag,jI⟩;exact⟨X_,SF_⟩
   ·rintro F1 S0_ free_here B_ thing kD σ_ F_ H_ F H ⟨kF,w4_,rfl,⟨X,SF_⟩,Ac,Ag,jI⟩ E kE Hm
    try dsimp only at Hm
    have SL1:=SF_;replace SF_:=Same.trans S0_ SF_;replace jf:=Bor.mono jf SF_;have qu:=Ne.symm jI;replace X:=Ext.trans X E;replace jf:=E.xb jf;replace Ac:=Ac.mono E;replace Ag:=Ag.mono E;replace SL1:=E.xd SL1;obtain rfl:kD=.int thing:=kE;refine xD ?_;refine(U2 (K:=K) (fun free_here σ' H'=>∃ F':Hp,∃ (kF:Addr) ,σ'=[some ka,some kC,some (.int at_),some (.ref kl),some (.int cell),some (.ref kF),some (.int thing)]/\(Ext Fe H0 F' H'/\Same F F')/\Own K H0 F' H' cI line_here kl/\Own K H0 F' H' cI free_here kF/\kl≠kF) (jcb (qH (jk (jk0 eqI (by decide)) (UZ (eI (i:=6))) (jdE (ko (p:=pB cI) (i:=3) rfl Ac.b)) rfl)) (yU (yJ jfX (qy (x8 (xy (jah (qy (Qi (jk U0 (qy (ko (p:=pB (cL cI)) (i:=0) rfl (Bor.b jf X))) (eI (i:=6)) rfl)))) [some (.ref kl)] rfl (fun b6 low _ _ E5=>U4) (fun b6 low _ _ E5=>(jk (jkZ eqI (by decide)) (UZ (eI (i:=0))) (jdE (ko (p:=pB cI) (i:=1) rfl (Own.mono Ac (E5)).b)) rfl)) rfl))) rfl)) rfl) X Hm ?_ ?_ ?_)
    ·intro B_ F H Hm E X;replace Ac:=Ac.mono E;replace Ag:=Ag.mono E;have SJ2:=E.f;refine(yg (K:=K) (k':=5) rfl Ag (eI (i:=6)) X Hm ?_);intro free_here F H Hm Cg X Ag;replace Ac:=Own.chg Ac Cg jI;replace SJ2:=Same.trans SJ2 Cg.f;cases Hm;exact⟨F,_,rfl,⟨X,SJ2⟩,Ac,Ag,jI⟩
    ·intro B_ F H Hm E X;replace Ac:=Ac.mono E;replace Ag:=Ag.mono E;have SJ2:=E.f;refine GP ?_;cases Hm;exact⟨F,_,rfl,⟨X,SJ2⟩,Ac,Ag,jI⟩
    ·rintro free_here σ_ H Hm ⟨F,kF,rfl,⟨X,SF_⟩,Ac,Ag,jI⟩
     try dsimp only at Hm
     replace SL1:=Same.trans SL1 SF_;have qu:=Ne.symm jI;cases Hm;exact⟨F,_,_,rfl,⟨X,SL1⟩,Ac,Ag,jI⟩
   ·rintro F1 S0_ free_here σ_ F H Hm ⟨kF,w4_,rfl,⟨X,SF_⟩,Ac,Ag,jI⟩
    try dsimp only at Hm
    replace SF_:=Same.trans S0_ SF_;replace jd:=Cd.mono _ SF_ jd;replace SL0:=Same.trans SL0 SF_;have qu:=Ne.symm jI;refine(jjG (K:=K) (fun cell σ' H'=>∃ F':Hp,σ'=[some ka,some kC,some (.int at_),some (.ref kl),some (.int cell),some (.ref kF),w4_]/\(Ext Fe H0 F' H'/\Same F F')/\Own K H0 F' H' cI line_here kl/\Own K H0 F' H' cI free_here kF) (qH (j1 zA (U9 (by decide) (jz (eV (i:=1) jd) (jp _) rfl) (jp _) rfl) (jp _) rfl)) X Hm ?_ ?_ ?_)
    ·intro B_ F H Hm E X;replace jd:=E.xc jd;replace Ac:=Ac.mono E;replace Ag:=Ag.mono E;have SJ1:=E.f;refine(xR (K:=K) (j1 ki (jz (eV (i:=1) jd) (jk ki (eI (i:=2)) (jN yp (qy (ko (p:=pB cI) (i:=3) rfl Ac.b)) rfl) rfl) rfl) (j1 jac (Zc ⟨by decide,by decide⟩ (jz (eV (i:=1) jd) (jp _) rfl) (jp _) rfl) (jk ki (jN yp (qy (ko (p:=pB cI) (i:=3) rfl Ac.b)) rfl) (jp _) rfl) rfl) rfl) X Hm ?_);intro cell F H Hm E X;replace Ac:=Ac.mono E;replace Ag:=Ag.mono E;replace SJ1:=E.xd SJ1;cases Hm;exact⟨F,rfl,⟨X,SJ1⟩,Ac,Ag⟩
    ·intro B_ F H Hm E X;replace Ac:=Ac.mono E;replace Ag:=Ag.mono E;have SJ1:=E.f;refine GP ?_;cases Hm;exact⟨F,rfl,⟨X,SJ1⟩,Ac,Ag⟩
    ·rintro cell σ_ H Hm ⟨F,rfl,⟨X,SF_⟩,Ac,Ag⟩
     try dsimp only at Hm
     replace SL0:=Same.trans SL0 SF_;refine(jfZ (K:=K) (i:=3) rfl Ac (j1 U0 (qy (ko (p:=pB cI) (i:=5) rfl Ag.b)) (jk Ul (eI (i:=4)) (jN yp (qy (ko (p:=pB cI) (i:=5) rfl Ag.b)) rfl) rfl) rfl) X Hm ?_);intro line_here F H Hm Cg X Ac;replace Ag:=Own.chg Ag Cg qu;replace SL0:=Same.trans SL0 Cg.f;refine(xR (K:=K) (jk jhV (eI (i:=4)) (jN yp (qy (ko (p:=pB cI) (i:=5) rfl Ag.b)) rfl) rfl) X Hm ?_);intro cell F H Hm E X;replace Ac:=Ac.mono E;replace SL0:=E.xd SL0;cases Hm;exact⟨F,_,_,_,rfl,⟨X,SL0⟩,Ac⟩
  ·rintro⟨line_here,cell⟩ σ_ F_ H_ F H ⟨kl,w1_,w2_,rfl,⟨X,SF_⟩,Ac⟩ E Hm
   try dsimp only at Hm
   replace X:=Ext.trans X E;replace Ac:=Ac.mono E;exact kd (K:=K) (jN Y_ (qy (ko (p:=pB cI) (i:=3) rfl Ac.b)) rfl) X Hm Kk
theorem ZO:FnScope ["_law_script","_law_k"] ["_law_script","_law_k"] (jo (top 45)):=scK
theorem ZP (B:BiX P w K mg base) (Fn:Fun K "_law_free" "_law_free" (top 45) f fd) (kL:Gc P w K mg base) (kh:y8 P w K mg base):FnOk P w K mg base CX0 2 f fd ["_law_script","_law_k"] (sp2 K (pF cScr) (pF cI) (rF cI) zN):=by
  refine(ok2 Fn ZO fun cdv A outer s H0 Q E_ hr nd hu script k_ kC V_k_ Fe R X jd P_k_ Hm Kk=>?_);refine⟨_,(jh (qE (j9 zz (jL xB (pD_ kL hr (jc (pv 0) (jc jq jl))) jq) jq (ky _)) (jn (j6 (pD_ kL hr (jc (pv 0) (jc (pv 1) jl))))) kg) (jn (j6 (pD_ kh hr (jc (pv 0) (jc (pv 1) jl)))))),?_⟩
  try dsimp only[qe]
  unfold zN at Hm;replace jd:cScr.rep K Fe script kC:=jd;obtain rfl:V_k_=.int k_:=P_k_;refine(jif (K:=K) (qH (j1 zA (U9 (by decide) (jz (eV (i:=0) jd) (jp _) rfl) (jp _) rfl) (jp _) rfl)) X Hm ?_ ?_)
  ·intro F H Hm E X
   try dsimp only[cond_true] at Hm
   replace jd:=E.xc jd;exact kd (K:=K) (jz (eV (i:=0) jd) (eI (i:=1)) rfl) X Hm Kk
  ·intro F H Hm E X
   try dsimp only[cond_false] at Hm
   replace jd:=E.xc jd;refine GP ?_;exact kd (K:=K) (jz (eV (i:=0) jd) (eI (i:=1)) rfl) X Hm Kk
theorem ZQ:FnScope ["_law_things","_law_total","_law_thing","_law_bit","_law_k"] ["_law_things"] (jo (top 50)):=scK
theorem ZR (B:BiX P w K mg base) (Fn:Fun K "_law_bits" "_law_bits" (top 50) f fd):FnOk P w K mg base CX0 1 f fd ["_law_things"] (sp1 K (pB cI) (rF cI) zO):=by
  refine(ok1 Fn ZQ fun cdv A outer s H0 Q E_ hr nd hu yf xM Fe R X jW Hm Kk=>?_);refine⟨_,(jh (pS (i:=1) nd jq) (jh (qQ PassesOwn.never rfl (yS (pv 0)) (pG (i:=2) nd) (jh (pS (i:=3) nd jq) (jh (qQ PassesOwn.never rfl (kA rfl B.range_ (jc (pv 2) jl)) (pG (i:=4) nd) (jn (pS (i:=3) nd (jL GS (pv 3) jq)))) (jn (pS (i:=1) nd (jL qC (pv 1) (pv 3))))))) (jn (j6 (pv 1))))),?_⟩
  try dsimp only[qe]
  unfold zO at Hm;have jP:Bor K H0 Fe cI yf xM:=jW;clear jW;refine(kZ (K:=K) (jp _) X Hm ?_);intro total F H Hm E X;replace jP:=E.xb jP;refine U6 (K:=K) (c:=cI) ?_ X Hm (fun F1 total σ' F' H'=>∃ (w1_:Option V) (w2_:Option V) (w3_:Option V),σ'=[some xM,some (.int total),w1_,w2_,w3_]/\(Ext Fe H0 F' H'/\Same F1 F')) ?_ ?_ ?_ ?_
  ·exact(U3 (i:=0) rfl jP)
  ·intro F H E X;exact⟨_,_,_,rfl,⟨X,(Same.refl _)⟩⟩
  ·rintro F1 total σ_ F_ H_ ⟨w1_,w2_,w3_,rfl,⟨X_,SF_⟩⟩;exact⟨X_,SF_⟩
  ·rintro F1 S0_ total B_ thing kD σ_ F_ H_ F H ⟨w1_,w2_,w3_,rfl,⟨X,SF_⟩⟩ E kE Hm
   try dsimp only at Hm
   have SL0:=SF_;replace SF_:=Same.trans S0_ SF_;replace X:=Ext.trans X E;replace SL0:=E.xd SL0;obtain rfl:kD=.int thing:=kE;refine xD ?_;refine(kZ (K:=K) (jp _) X Hm ?_);intro bit F H Hm E X;replace SL0:=E.xd SL0;refine JU (K:=K) (c:=cI) ?_ X Hm (fun F1 bit σ' F' H'=>∃ (w4_:Option V),σ'=[some xM,some (.int total),some (.int thing),some (.int bit),w4_]/\(Ext Fe H0 F' H'/\Same F1 F')) ?_ ?_ ?_ ?_
   ·exact(qf (jbh (i:=2) rfl) rfl)
   ·intro F H E X;exact⟨_,rfl,⟨X,(Same.refl _)⟩⟩
   ·rintro F1 bit σ_ F_ H_ ⟨w4_,rfl,⟨X_,SF_⟩⟩;exact⟨X_,SF_⟩
   ·rintro F1 S0_ bit B_ k_ V_k_ σ_ F_ H_ F H ⟨w4_,rfl,⟨X,SF_⟩⟩ E P_k_ Hm
    try dsimp only at Hm
    have SL1:=SF_;replace X:=Ext.trans X E;replace SL1:=E.xd SL1;obtain rfl:V_k_=.int k_:=P_k_;refine xD ?_;refine(xR (K:=K) (zX ⟨by decide,by decide⟩ (eI (i:=3)) (jp _) rfl) X Hm ?_);intro bit F H Hm E X;replace SL1:=E.xd SL1;cases Hm;exact⟨F,_,rfl,⟨X,SL1⟩⟩
   ·rintro F1 S0_ bit σ_ F H Hm ⟨w4_,rfl,⟨X,SF_⟩⟩
    try dsimp only at Hm
    replace SF_:=Same.trans S0_ SF_;replace SL0:=Same.trans SL0 SF_;refine(xR (K:=K) (jk ki (eI (i:=1)) (eI (i:=3)) rfl) X Hm ?_);intro total F H Hm E X;replace SL0:=E.xd SL0;cases Hm;exact⟨F,_,_,_,rfl,⟨X,SL0⟩⟩
  ·rintro F1 S0_ total σ_ F H Hm ⟨w1_,w2_,w3_,rfl,⟨X,SF_⟩⟩
   try dsimp only at Hm
   exact kd (K:=K) (eI (i:=1)) X Hm Kk
theorem Qw:FnScope ["_law_under_here","_law_cell","_law_many","_law_whole","_law_some","_law_thing"] ["_law_under_here","_law_cell"] (jo (top 53)):=scK
theorem Qx (B:BiX P w K mg base) (Fn:Fun K "_law_no_downset" "_law_no_downset" (top 53) f fd) (Gj:Def P w K mg base "_law_bits" 1 ["_law_things"] (sp1 K (pB cI) (rF cI) zO)):FnOk P w K mg base CX0 2 f fd ["_law_under_here","_law_cell"] (sp2 K (pB (cL cI)) (pF cI) (rF cI) xr):=by
  refine(ok2 Fn Qw fun cdv A outer s H0 Q E_ hr nd hu under_here cell ka jfa Fe R X jm jfb Hm Kk=>?_);refine⟨_,(jh (pS (i:=2) nd (kB jQ B.len_ (pv 0))) (jh (pS (i:=3) nd (pD_ Gj hr (jc (cY (Qh rfl) B.list_ (jdz rfl B.range_ (jc (pv 2) jl))) jl))) (jh (pS (i:=4) nd (xj (jc (jL GR (jL GR jq jq) (jL xB (jL xx (pv 1) jq) jq)) (jc (jL qC (jL qC (pv 3) jq) (jL xB (jL xx (pv 1) jq) jq)) (jc (jL GR (jL GR jq jq) (jL xB (pv 1) (jL jg4 jq jq))) jl))))) (jh (qQ PassesOwn.never rfl (kA rfl B.range_ (jc (pv 2) jl)) (pG (i:=5) nd) (jn (zG (qE (j9 YT (kB jQ B.len_ (pX yT (pv 0) (pv 5))) jq (ky _)) (jn (kj (QP XS XU XT qG (pv 4) (jc (pD_ Gj hr (jc (jL jbd (xj (jc (pv 5) jl)) (qV Z9 (pX yT (pv 0) (pv 5)) (xP jq) xO)) jl)) jl)))) kg)))) (jn (j6 (pX yT (pv 4) (jL xB (pv 1) (kB jQ B.len_ (pv 4)))))))))),?_⟩
  try dsimp only[qe]
  unfold xr at Hm;have jf:Bor K H0 Fe (cL cI) under_here ka:=jm;clear jm;obtain rfl:jfa=.int cell:=jfb;refine(kZ (K:=K) (jN yp (qy (ko (p:=pB (cL cI)) (i:=0) rfl (Bor.b jf X))) rfl) X Hm ?_);intro many F H Hm E X;replace jf:=E.xb jf;refine(kZ (K:=K) (QR (x8 (jas (eI (i:=2)) rfl)) rfl) X Hm ?_);intro whole F H Hm E X;replace jf:=E.xb jf;refine(yq (K:=K) (xk (ku (jk ki (jk ki (jp _) (jp _) rfl) (xo (by decide) (qX ⟨by decide,by decide⟩ (eI (i:=1)) (jp _) rfl) (jp _) rfl) rfl) (ku (jk ki (jk ki (eI (i:=3)) (jp _) rfl) (xo (by decide) (qX ⟨by decide,by decide⟩ (eI (i:=1)) (jp _) rfl) (jp _) rfl) rfl) (ku (jk ki (jk ki (jp _) (jp _) rfl) (xo (by decide) (eI (i:=1)) (Zg (i:=10) (j:=20) ⟨by decide,by decide,by decide⟩ (jp _) (jp _) rfl) rfl) rfl) (qD (c:=cI)) rfl) rfl) rfl) (by decide)) X Hm ?_);intro some_ k8 F H Hm E X Hn O_some_;replace jf:=E.xb jf;refine JU (K:=K) (c:=cI) ?_ X Hm (fun F1 some_ σ' F' H'=>∃ (k8:Addr) (w2_:Option V),σ'=[some ka,some (.int cell),some (.int many),some (.int whole),some (.ref k8),w2_]/\(Ext Fe H0 F' H'/\Same F1 F')/\Own K H0 F' H' cI some_ k8) ?_ ?_ ?_ ?_
  ·exact(qf (jbh (i:=2) rfl) rfl)
  ·intro F H E X;replace O_some_:=O_some_.mono E;exact⟨_,_,rfl,⟨X,(Same.refl _)⟩,O_some_⟩
  ·rintro F1 some_ σ_ F_ H_ ⟨k8,w2_,rfl,⟨X_,SF_⟩,O_some_⟩;exact⟨X_,SF_⟩
  ·rintro F1 S0_ some_ B_ thing kD σ_ F_ H_ F H ⟨k8,w2_,rfl,⟨X,SF_⟩,O_some_⟩ E kE Hm
   try dsimp only at Hm
   have SL0:=SF_;replace SF_:=Same.trans S0_ SF_;replace jf:=Bor.mono jf SF_;replace X:=Ext.trans X E;replace jf:=E.xb jf;replace O_some_:=O_some_.mono E;replace SL0:=E.xd SL0;obtain rfl:kD=.int thing:=kE;refine xD ?_;refine(U2 (K:=K) (fun some_ σ' H'=>∃ F':Hp,∃ (k8:Addr) ,σ'=[some ka,some (.int cell),some (.int many),some (.int whole),some (.ref k8),some (.int thing)]/\(Ext Fe H0 F' H'/\Same F F')/\Own K H0 F' H' cI some_ k8) (qH (j1 zf (yJ yp (qy (Qi (jk U0 (qy (ko (p:=pB (cL cI)) (i:=0) rfl (Bor.b jf X))) (eI (i:=5)) rfl))) rfl) (jp _) rfl)) X Hm ?_ ?_ ?_)
   ·intro B_ F H Hm E X;replace jf:=E.xb jf;replace O_some_:=O_some_.mono E;have SJ1:=E.f;refine(yV (K:=K) (i:=4) rfl O_some_ (QR (x8 (j1 jfN (x8 (xk (ku (eI (i:=5)) (qD (c:=cI)) rfl) (by decide))) (x8 (jf6 (qy (Qi (jk U0 (qy (ko (p:=pB (cL cI)) (i:=0) rfl (Bor.b jf X))) (eI (i:=5)) rfl))) (kx (jp _) rfl) xQ rfl)) rfl)) rfl) X Hm ?_);intro some_ F H Hm Cg X O_some_;replace SJ1:=Same.trans SJ1 Cg.f;cases Hm;exact⟨F,_,rfl,⟨X,SJ1⟩,O_some_⟩
   ·intro B_ F H Hm E X;replace O_some_:=O_some_.mono E;have SJ1:=E.f;refine GP ?_;cases Hm;exact⟨F,_,rfl,⟨X,SJ1⟩,O_some_⟩
   ·rintro some_ σ_ H Hm ⟨F,k8,rfl,⟨X,SF_⟩,O_some_⟩
    try dsimp only at Hm
    replace SL0:=Same.trans SL0 SF_;cases Hm;exact⟨F,_,_,rfl,⟨X,SL0⟩,O_some_⟩
  ·rintro F1 S0_ some_ σ_ F H Hm ⟨k8,w2_,rfl,⟨X,SF_⟩,O_some_⟩
   try dsimp only at Hm
   exact kd (K:=K) (j1 U0 (qy (ko (p:=pB cI) (i:=4) rfl O_some_.b)) (jk Ul (eI (i:=1)) (jN yp (qy (ko (p:=pB cI) (i:=4) rfl O_some_.b)) rfl) rfl) rfl) X Hm Kk
theorem A0:FnScope ["self","order"] ["self","order"] (jo ((jG (top 34) 0))):=scK
theorem Yv (B:BiX P w K mg base) (Al:Am K mg jt) (Aa:Ad K mg jb) (Fn:Fun K "__init__" "Turn.__init__" ((jG (top 34) 0)) f fd):FnOk P w K mg base CX0 1 f fd ["self","order"] (jf7 K jt (pF (jC jb)) (kN jb jt) xt):=by
 refine Fn.ok A0 (fun vs H Q E h=>?_) (fun cdv A outer s Hq vs Q E_ hr h=>?_)
 ·obtain⟨_,_,_,_,_,_,_,rfl,_⟩:=h;rfl
 ·obtain⟨order,jU,Fe,H0,x_self,dx_self,R,rfl,rfl,n1_,n2_,n3_,S_,je,Hm,Kk⟩:=h;have nd:=A0.nd;have hu:=UW hr;refine⟨_,(jn (UO (pv 0) (pv 1) rfl)),?_⟩
  try dsimp only[qe]
  obtain⟨X,qT⟩:=zJ (C:=jt) S_ n1_ n2_ n3_;unfold xt at Hm;replace je:(jC jb).rep K Fe order jU:=je;refine(Wj (K:=K) (k':=0) (c:=(jC jb)) rfl qT Al.cl Al.n_order (Nat.lt_of_le_of_lt (Xh 0) (by decide:0<1000)) (eV (i:=1) je) X Hm ?_);intro f_order Jj F H Hm Cg X xv qT;cases Hm;obtain⟨F',X',Cg,hx⟩:=OwnI.freeze qT X;exact Kk F' H X' ⟨x_self,dx_self,_,rfl,hx,Cd.mono _ Cg.f xv⟩
theorem A1:FnScope ["self","order"] ["self","order"] (jo ((jG (top 34) 0))):=scK
theorem Yw (B:BiX P w K mg base) (Aa:Ad K mg jb) (Ai:An K mg ju) (Fn:Fun K "__init__" "Turn.__init__" ((jG (top 34) 0)) f fd):FnOk P w K mg base CX0 1 f fd ["self","order"] (jf7 K ju (pF (jC jb)) (kO jb ju) xV):=by
 refine Fn.ok A1 (fun vs H Q E h=>?_) (fun cdv A outer s Hq vs Q E_ hr h=>?_)
 ·obtain⟨_,_,_,_,_,_,_,rfl,_⟩:=h;rfl
 ·obtain⟨order,jU,Fe,H0,x_self,dx_self,R,rfl,rfl,n1_,n2_,n3_,S_,je,Hm,Kk⟩:=h;have nd:=A1.nd;have hu:=UW hr;refine⟨_,(jn (UO (pv 0) (pv 1) rfl)),?_⟩
  try dsimp only[qe]
  obtain⟨X,qT⟩:=zJ (C:=ju) S_ n1_ n2_ n3_;unfold xV at Hm;replace je:(jC jb).rep K Fe order jU:=je;refine(Wj (K:=K) (k':=0) (c:=(jC jb)) rfl qT Ai.cl Ai.n_order (Nat.lt_of_le_of_lt (Xh 0) (by decide:0<1000)) (eV (i:=1) je) X Hm ?_);intro f_order Jj F H Hm Cg X xv qT;cases Hm;obtain⟨F',X',Cg,hx⟩:=OwnI.freeze qT X;exact Kk F' H X' ⟨x_self,dx_self,_,rfl,hx,Cd.mono _ Cg.f xv⟩
theorem A2:FnScope ["self","order"] ["self","order"] (jo ((jG (top 34) 0))):=scK
theorem Yx (B:BiX P w K mg base) (Aj:Ao K mg jr) (Aa:Ad K mg jb) (Fn:Fun K "__init__" "Turn.__init__" ((jG (top 34) 0)) f fd):FnOk P w K mg base CX0 1 f fd ["self","order"] (jf7 K jr (pF (jC jb)) (kP jb jr) xW):=by
 refine Fn.ok A2 (fun vs H Q E h=>?_) (fun cdv A outer s Hq vs Q E_ hr h=>?_)
 ·obtain⟨_,_,_,_,_,_,_,rfl,_⟩:=h;rfl
 ·obtain⟨order,jU,Fe,H0,x_self,dx_self,R,rfl,rfl,n1_,n2_,n3_,S_,je,Hm,Kk⟩:=h;have nd:=A2.nd;have hu:=UW hr;refine⟨_,(jn (UO (pv 0) (pv 1) rfl)),?_⟩
  try dsimp only[qe]
  obtain⟨X,qT⟩:=zJ (C:=jr) S_ n1_ n2_ n3_;unfold xW at Hm;replace je:(jC jb).rep K Fe order jU:=je;refine(Wj (K:=K) (k':=0) (c:=(jC jb)) rfl qT Aj.cl Aj.n_order (Nat.lt_of_le_of_lt (Xh 0) (by decide:0<1000)) (eV (i:=1) je) X Hm ?_);intro f_order Jj F H Hm Cg X xv qT;cases Hm;obtain⟨F',X',Cg,hx⟩:=OwnI.freeze qT X;exact Kk F' H X' ⟨x_self,dx_self,_,rfl,hx,Cd.mono _ Cg.f xv⟩
theorem A3:FnScope ["self","order"] ["self","order"] (jo ((jG (top 34) 0))):=scK
theorem Yy (B:BiX P w K mg base) (Ak:Ap K mg js) (Aa:Ad K mg jb) (Fn:Fun K "__init__" "Turn.__init__" ((jG (top 34) 0)) f fd):FnOk P w K mg base CX0 1 f fd ["self","order"] (jf7 K js (pF (jC jb)) (kQ jb js) xX):=by
 refine Fn.ok A3 (fun vs H Q E h=>?_) (fun cdv A outer s Hq vs Q E_ hr h=>?_)
 ·obtain⟨_,_,_,_,_,_,_,rfl,_⟩:=h;rfl
 ·obtain⟨order,jU,Fe,H0,x_self,dx_self,R,rfl,rfl,n1_,n2_,n3_,S_,je,Hm,Kk⟩:=h;have nd:=A3.nd;have hu:=UW hr;refine⟨_,(jn (UO (pv 0) (pv 1) rfl)),?_⟩
  try dsimp only[qe]
  obtain⟨X,qT⟩:=zJ (C:=js) S_ n1_ n2_ n3_;unfold xX at Hm;replace je:(jC jb).rep K Fe order jU:=je;refine(Wj (K:=K) (k':=0) (c:=(jC jb)) rfl qT Ak.cl Ak.n_order (Nat.lt_of_le_of_lt (Xh 0) (by decide:0<1000)) (eV (i:=1) je) X Hm ?_);intro f_order Jj F H Hm Cg X xv qT;cases Hm;obtain⟨F',X',Cg,hx⟩:=OwnI.freeze qT X;exact Kk F' H X' ⟨x_self,dx_self,_,rfl,hx,Cd.mono _ Cg.f xv⟩
theorem Vw:FnScope ["_law_line_here","_law_under_here","_law_cell","_law_many","_law_some","_law_thing","_law_at"] ["_law_line_here","_law_under_here","_law_cell"] (jo (top 54)):=scK
theorem Vx (B:BiX P w K mg base) (Fn:Fun K "_law_no_line" "_law_no_line" (top 54) f fd):FnOk P w K mg base CX0 1 f fd ["_law_line_here","_law_under_here","_law_cell"] (sp3 K (pF (cT cI)) (pB (cL cI)) (pF cI) (rF (cT cI)) yt):=by
  refine(ok3 Fn Vw fun cdv A outer s H0 Q E_ hr nd hu line_here under_here cell yj ka jfa Fe R X jg jm jfb Hm Kk=>?_);refine⟨_,(jh (pS (i:=3) nd (kB jQ B.len_ (pv 0))) (jh (pS (i:=4) nd (xj (jc (qV yz (pv 0) (xP jq) xO) (jc (jL zj (pv 0) (xH (jc jq jl))) (jc (jL zj (qV yz (pv 0) xO (xP (jc7 YS jq))) (xH (jc (pv 3) jl))) (jc (jL zj (xH (jc (jL GR jq jq) jl)) (qV yz (pv 0) (xP jq) xO)) jl)))))) (jh (zG (qE (j9 YT (pv 3) jq (ky _)) (jn (kj (QP XS XU XT qG (pv 4) (jc (jL zj (qV yz (pv 0) xO (xP (jc7 YS jq))) (qV yz (pv 0) xO (xP jq))) jl)))) kg)) (jh (qQ PassesOwn.never rfl (kA rfl B.range_ (jc (pv 3) jl)) (pG (i:=5) nd) (jn (zG (qE (j9 YT (kB jQ B.len_ (pX yT (pv 1) (pv 5))) jq (ky _)) (jh (pS (i:=6) nd (jjN PySem.F.slot_tuple_index PySem.F.type_tuple_index Zs (pv 0) (jc (pv 5) jl))) (jn (kj (QP XS XU XT qG (pv 4) (jc (jL zj (jL zj (xH (jc (pv 5) jl)) (qV yz (pv 0) xO (xP (pv 6)))) (qV yz (pv 0) (xP (jL qC (pv 6) jq)) xO)) jl))))) kg)))) (jn (j6 (pX yT (pv 4) (jL xB (pv 2) (kB jQ B.len_ (pv 4)))))))))),?_⟩
  try dsimp only[qe]
  unfold yt at Hm;replace jg:(cT cI).rep K Fe line_here yj:=jg;have jf:Bor K H0 Fe (cL cI) under_here ka:=jm;clear jm;obtain rfl:jfa=.int cell:=jfb;refine(kZ (K:=K) (jN Y9 (eV (i:=0) jg) rfl) X Hm ?_);intro many F H Hm E X;replace jg:=E.xc jg;replace jf:=E.xb jf;refine(yq (K:=K) (xk (xf (ql (eV (i:=0) jg) (kx (jp _) rfl) xQ rfl) (xf (jk Ua (eV (i:=0) jg) (WU (ku (jp _) (qD (c:=cI)) rfl) (by decide)) rfl) (xf (jk Ua (ql (eV (i:=0) jg) xQ (kx (GY o_u (jp _) rfl) rfl) rfl) (WU (ku (eI (i:=3)) (qD (c:=cI)) rfl) (by decide)) rfl) (xf (jk Ua (WU (ku (jk ki (jp _) (jp _) rfl) (qD (c:=cI)) rfl) (by decide)) (ql (eV (i:=0) jg) (kx (jp _) rfl) xQ rfl) rfl) (qD (c:=(cT cI))) rfl) rfl) rfl) rfl) (by decide)) X Hm ?_);intro some_ k8 F H Hm E X Hn O_some_;replace jg:=E.xc jg;replace jf:=E.xb jf;refine(jbs (K:=K) (fun some_ σ' H'=>∃ F':Hp,∃ (k8:Addr) ,σ'=[some yj,some ka,some (.int cell),some (.int many),some (.ref k8),none,none]/\(Ext Fe H0 F' H'/\Same F F')/\Own K H0 F' H' (cT cI) some_ k8) (qH (jk zf (eI (i:=3)) (jp _) rfl)) X Hm ?_ ?_ ?_)
  ·intro B_ F H Hm E X;replace jg:=E.xc jg;replace O_some_:=O_some_.mono E;have SJ0:=E.f;refine(yV (K:=K) (i:=4) rfl O_some_ (jk Ua (ql (eV (i:=0) jg) xQ (kx (GY o_u (jp _) rfl) rfl) rfl) (ql (eV (i:=0) jg) xQ (kx (jp _) rfl) rfl) rfl) X Hm ?_);intro some_ F H Hm Cg X O_some_;replace SJ0:=Same.trans SJ0 Cg.f;cases Hm;exact⟨F,_,rfl,⟨X,SJ0⟩,O_some_⟩
  ·intro B_ F H Hm E X;replace O_some_:=O_some_.mono E;have SJ0:=E.f;refine GP ?_;cases Hm;exact⟨F,_,rfl,⟨X,SJ0⟩,O_some_⟩
  ·rintro some_ σ_ H Hm ⟨F,k8,rfl,⟨X,SF_⟩,O_some_⟩
   try dsimp only at Hm
   replace jg:=Cd.mono _ SF_ jg;replace jf:=Bor.mono jf SF_;refine JU (K:=K) (c:=cI) ?_ X Hm (fun F1 some_ σ' F' H'=>∃ (k8:Addr) (w11_:Option V) (w12_:Option V),σ'=[some yj,some ka,some (.int cell),some (.int many),some (.ref k8),w11_,w12_]/\(Ext Fe H0 F' H'/\Same F1 F')/\Own K H0 F' H' (cT cI) some_ k8) ?_ ?_ ?_ ?_
   ·exact(qf (jbh (i:=3) rfl) rfl)
   ·intro F H E X;replace O_some_:=O_some_.mono E;exact⟨_,_,_,rfl,⟨X,(Same.refl _)⟩,O_some_⟩
   ·rintro F1 some_ σ_ F_ H_ ⟨k8,w11_,w12_,rfl,⟨X_,SF_⟩,O_some_⟩;exact⟨X_,SF_⟩
   ·rintro F1 S0_ some_ B_ thing kD σ_ F_ H_ F H ⟨k8,w11_,w12_,rfl,⟨X,SF_⟩,O_some_⟩ E kE Hm
    try dsimp only at Hm
    have SL0:=SF_;replace SF_:=Same.trans S0_ SF_;replace jg:=Cd.mono _ SF_ jg;replace jf:=Bor.mono jf SF_;replace X:=Ext.trans X E;replace jg:=E.xc jg;replace jf:=E.xb jf;replace O_some_:=O_some_.mono E;replace SL0:=E.xd SL0;obtain rfl:kD=.int thing:=kE;refine xD ?_;refine(U2 (K:=K) (fun some_ σ' H'=>∃ F':Hp,∃ (k8:Addr) (w19_:Option V) ,σ'=[some yj,some ka,some (.int cell),some (.int many),some (.ref k8),some (.int thing),w19_]/\(Ext Fe H0 F' H'/\Same F F')/\Own K H0 F' H' (cT cI) some_ k8) (qH (j1 zf (yJ yp (qy (Qi (jk U0 (qy (ko (p:=pB (cL cI)) (i:=1) rfl (Bor.b jf X))) (eI (i:=5)) rfl))) rfl) (jp _) rfl)) X Hm ?_ ?_ ?_)
    ·intro B_ F H Hm E X;replace jg:=E.xc jg;replace O_some_:=O_some_.mono E;have SJ1:=E.f;refine(kZ (K:=K) (Qm (eV (i:=0) jg) (eI (i:=5)) rfl) X Hm ?_);intro at_ F H Hm E X;replace jg:=E.xc jg;replace O_some_:=O_some_.mono E;replace SJ1:=E.xd SJ1;refine(yV (K:=K) (i:=4) rfl O_some_ (j1 Ua (jk Ua (WU (ku (eI (i:=5)) (qD (c:=cI)) rfl) (by decide)) (ql (eV (i:=0) jg) xQ (kx (eI (i:=6)) rfl) rfl) rfl) (ql (eV (i:=0) jg) (kx (jk ki (eI (i:=6)) (jp _) rfl) rfl) xQ rfl) rfl) X Hm ?_);intro some_ F H Hm Cg X O_some_;replace SJ1:=Same.trans SJ1 Cg.f;cases Hm;exact⟨F,_,_,rfl,⟨X,SJ1⟩,O_some_⟩
    ·intro B_ F H Hm E X;replace O_some_:=O_some_.mono E;have SJ1:=E.f;refine GP ?_;cases Hm;exact⟨F,_,_,rfl,⟨X,SJ1⟩,O_some_⟩
    ·rintro some_ σ_ H Hm ⟨F,k8,w19_,rfl,⟨X,SF_⟩,O_some_⟩
     try dsimp only at Hm
     replace SL0:=Same.trans SL0 SF_;cases Hm;exact⟨F,_,_,_,rfl,⟨X,SL0⟩,O_some_⟩
   ·rintro F1 S0_ some_ σ_ F H Hm ⟨k8,w11_,w12_,rfl,⟨X,SF_⟩,O_some_⟩
    try dsimp only at Hm
    exact kd (K:=K) (j1 U0 (qy (ko (p:=pB (cT cI)) (i:=4) rfl O_some_.b)) (jk Ul (eI (i:=2)) (jN yp (qy (ko (p:=pB (cT cI)) (i:=4) rfl O_some_.b)) rfl) rfl) rfl) X Hm Kk
theorem V5:FnScope ["_law_things","_law_total","_law_thing","_law_bit","_law_k"] ["_law_things"] (jo (top 50)):=scK
theorem V6 (B:BiX P w K mg base) (Fn:Fun K "_law_bits" "_law_bits" (top 50) f fd):FnOk P w K mg base CX0 1 f fd ["_law_things"] (sp1 K (pF (cT cI)) (rF cI) z_):=by
  refine(ok1 Fn V5 fun cdv A outer s H0 Q E_ hr nd hu yf xM Fe R X jW Hm Kk=>?_);refine⟨_,(jh (pS (i:=1) nd jq) (jh (qQ PassesOwn.never rfl (ja7 (pv 0)) (pG (i:=2) nd) (jh (pS (i:=3) nd jq) (jh (qQ PassesOwn.never rfl (kA rfl B.range_ (jc (pv 2) jl)) (pG (i:=4) nd) (jn (pS (i:=3) nd (jL GS (pv 3) jq)))) (jn (pS (i:=1) nd (jL qC (pv 1) (pv 3))))))) (jn (j6 (pv 1))))),?_⟩
  try dsimp only[qe]
  unfold z_ at Hm;replace jW:(cT cI).rep K Fe yf xM:=jW;refine(kZ (K:=K) (jp _) X Hm ?_);intro total F H Hm E X;replace jW:=E.xc jW;refine U6 (K:=K) (c:=cI) ?_ X Hm (fun F1 total σ' F' H'=>∃ (w1_:Option V) (w2_:Option V) (w3_:Option V),σ'=[some xM,some (.int total),w1_,w2_,w3_]/\(Ext Fe H0 F' H'/\Same F1 F')) ?_ ?_ ?_ ?_
  ·exact(jhk (ko (p:=pF (cT cI)) (i:=0) rfl jW))
  ·intro F H E X;exact⟨_,_,_,rfl,⟨X,(Same.refl _)⟩⟩
  ·rintro F1 total σ_ F_ H_ ⟨w1_,w2_,w3_,rfl,⟨X_,SF_⟩⟩;exact⟨X_,SF_⟩
  ·rintro F1 S0_ total B_ thing kD σ_ F_ H_ F H ⟨w1_,w2_,w3_,rfl,⟨X,SF_⟩⟩ E kE Hm
   try dsimp only at Hm
   have SL0:=SF_;replace SF_:=Same.trans S0_ SF_;replace X:=Ext.trans X E;replace SL0:=E.xd SL0;obtain rfl:kD=.int thing:=kE;refine xD ?_;refine(kZ (K:=K) (jp _) X Hm ?_);intro bit F H Hm E X;replace SL0:=E.xd SL0;refine JU (K:=K) (c:=cI) ?_ X Hm (fun F1 bit σ' F' H'=>∃ (w4_:Option V),σ'=[some xM,some (.int total),some (.int thing),some (.int bit),w4_]/\(Ext Fe H0 F' H'/\Same F1 F')) ?_ ?_ ?_ ?_
   ·exact(qf (jbh (i:=2) rfl) rfl)
   ·intro F H E X;exact⟨_,rfl,⟨X,(Same.refl _)⟩⟩
   ·rintro F1 bit σ_ F_ H_ ⟨w4_,rfl,⟨X_,SF_⟩⟩;exact⟨X_,SF_⟩
   ·rintro F1 S0_ bit B_ k_ V_k_ σ_ F_ H_ F H ⟨w4_,rfl,⟨X,SF_⟩⟩ E P_k_ Hm
    try dsimp only at Hm
    have SL1:=SF_;replace X:=Ext.trans X E;replace SL1:=E.xd SL1;obtain rfl:V_k_=.int k_:=P_k_;refine xD ?_;refine(xR (K:=K) (zX ⟨by decide,by decide⟩ (eI (i:=3)) (jp _) rfl) X Hm ?_);intro bit F H Hm E X;replace SL1:=E.xd SL1;cases Hm;exact⟨F,_,rfl,⟨X,SL1⟩⟩
   ·rintro F1 S0_ bit σ_ F H Hm ⟨w4_,rfl,⟨X,SF_⟩⟩
    try dsimp only at Hm
    replace SF_:=Same.trans S0_ SF_;replace SL0:=Same.trans SL0 SF_;refine(xR (K:=K) (jk ki (eI (i:=1)) (eI (i:=3)) rfl) X Hm ?_);intro total F H Hm E X;replace SL0:=E.xd SL0;cases Hm;exact⟨F,_,_,_,rfl,⟨X,SL0⟩⟩
  ·rintro F1 S0_ total σ_ F H Hm ⟨w1_,w2_,w3_,rfl,⟨X,SF_⟩⟩
   try dsimp only at Hm
   exact kd (K:=K) (eI (i:=1)) X Hm Kk
theorem Yz:FnScope ["self"] ["self"] (jo ((jG (top 15) 1))):=scK
theorem YA (B:BiX P w K mg base) (Aa:Ad K mg jb) (Fn:Fun K "size" "Order.size" ((jG (top 15) 1)) f fd):FnOk P w K mg base CX0 1 f fd ["self"] (sp1 K (pF (jC jb)) (rF cI) kR):=by
  refine(ok1 Fn Yz fun cdv A outer s H0 Q E_ hr nd hu self kJ Fe R X jy Hm Kk=>?_);refine⟨_,(jn (j6 (xC (pv 0) rfl))),?_⟩
  try dsimp only[qe]
  unfold kR at Hm;replace jy:(jC jb).rep K Fe self kJ:=jy;exact kd (K:=K) (jX (JL Aa) (eV (i:=0) jy) rfl) X Hm Kk
theorem ZS:FnScope ["bits"] ["bits"] (jo (top 17)):=scK
theorem ZT (B:BiX P w K mg base) (Fn:Fun K "things_of" "things_of" (top 17) f fd) (VH:je7 P w K mg base):FnOk P w K mg base CX0 2 f fd ["bits"] (sp1 K (pF cI) (rO cI) qA):=by
  refine(ok1 Fn ZS fun cdv A outer s H0 Q E_ hr nd hu bits qM Fe R X qN Hm Kk=>?_);refine⟨_,(jn (j6 (yy (own:=["thing"]) (ix:=[0]) (GD rfl) rfl (kA rfl B.range_ (jc (jjq PySem.F.plainAttrs_int PySem.F.slot_int_bit_length PySem.F.type_int_bit_length jdw (pv 0)) jl)) (fun _=>(xN (i:=0) (show List.Nodup (["thing","bits"]:List Str) by decide +kernel) rfl (Or.inl rfl))) (fun _=>US (zE (pD_ VH hr (jc (pv 1) (jc (pv 0) jl))))) (fun _=>(pv 0))))),?_⟩
  try dsimp only[qe]
  unfold qA at Hm;obtain rfl:qM=.int bits:=qN;exact kd (K:=K) (xy (yW (WZ (eI (i:=0)) rfl) rfl) [some (.int bits)] rfl (fun b2 thing _ _ E1=>(yU (jz (eI (i:=1)) (eI (i:=0)) rfl))) (fun b2 thing _ _ E1=>(eI (i:=0))) rfl) X Hm Kk
theorem ZU:FnScope ["bits","others"] ["bits","others"] (jo (top 19)):=scK
theorem ZV (B:BiX P w K mg base) (Fn:Fun K "holds_all" "holds_all" (top 19) f fd):FnOk P w K mg base CX0 1 f fd ["bits","others"] (sp2 K (pF cI) (pF cI) (rF cB) k7):=by
  refine(ok2 Fn ZU fun cdv A outer s H0 Q E_ hr nd hu bits others qM jgR Fe R X qN jgS Hm Kk=>?_);refine⟨_,(jn (j6 (QN zz (jL jg6 (pv 0) (pv 1)) (pv 1) (ky _)))),?_⟩
  try dsimp only[qe]
  unfold k7 at Hm;obtain rfl:qM=.int bits:=qN;obtain rfl:jgR=.int others:=jgS;exact kd (K:=K) (jk zA (jk ki (eI (i:=0)) (eI (i:=1)) rfl) (eI (i:=1)) rfl) X Hm Kk
theorem YB:FnScope ["order","bits"] ["order","bits"] (jo (top 20)):=scK
theorem YC (B:BiX P w K mg base) (Aa:Ad K mg jb) (Fn:Fun K "is_downset" "is_downset" (top 20) f fd) (qv:Gd P w K mg base jb) (yk:Ue P w K mg base) (q_:Jc P w K mg base):FnOk P w K mg base CX0 3 f fd ["order","bits"] (sp2 K (pF (jC jb)) (pF cI) (rF cB) jR):=by
  refine(ok2 Fn YB fun cdv A outer s H0 Q E_ hr nd hu order bits jU qM Fe R X je qN Hm Kk=>?_);refine⟨_,(jh (qE (PW.pt (jc1 (j9 WG (pv 1) jq (ky _)) (YO (j9 YT (jL jg5 (pv 1) (Z_ qv (hr.mono (by decide)) (pv 0))) jq (ky _))))) (jn (j6 JO)) kg) (jn (j6 (kB (UB rfl) B.all_ (yy (own:=["thing"]) (ix:=[0,1]) (GD rfl) rfl (yS (pD_ yk hr (jc (pv 1) jl))) (fun _=>(xN (i:=0) (show List.Nodup (["thing","order","bits"]:List Str) by decide +kernel) rfl (Or.inl rfl))) (fun _=>JS) (fun _=>(pD_ q_ hr (jc (pv 2) (jc (pX GU (xC (pv 1) rfl) (pv 0)) jl))))))))),?_⟩
  try dsimp only[qe]
  unfold jR at Hm;replace je:(jC jb).rep K Fe order jU:=je;obtain rfl:qM=.int bits:=qN;refine(jif (K:=K) (jd7 (qH (jk zf (eI (i:=1)) (jp _) rfl)) (qH (j1 zf (j1 jjx (eI (i:=1)) (GZ zZ (eV (i:=0) je) rfl) rfl) (jp _) rfl)) rfl) X Hm ?_ ?_)
  ·intro F H Hm E X
   try dsimp only[cond_true] at Hm
   exact kd (K:=K) (JT _) X Hm Kk
  ·intro F H Hm E X
   try dsimp only[cond_false] at Hm
   replace je:=E.xc je;refine GP ?_;exact kd (K:=K) (yJ jfX (qy (x8 (xy (jah (qy (x8 (zh (eI (i:=1)) rfl)))) [some jU,some (.int bits)] rfl (fun b6 thing _ _ E5=>U4) (fun b6 thing _ _ E5=>(qI (eI (i:=2)) (jk U1 (jX (xz Aa) (eV (i:=1) (Cd.mono _ (E5).f je)) rfl) (eI (i:=0)) rfl) rfl)) rfl))) rfl) X Hm Kk
theorem GH:FnScope ["order","bits"] ["order","bits"] (jo (top 21)):=scK
theorem Ur (B:BiX P w K mg base) (Aa:Ad K mg jb) (Fn:Fun K "check_downset" "check_downset" (top 21) f fd) (xY:Qv P w K mg base jb):FnOk P w K mg base CX0 4 f fd ["order","bits"] (sp2 K (pF (jC jb)) (pF cI) (rF cU) kt):=by
  refine(ok2 Fn GH fun cdv A outer s H0 Q E_ hr nd hu order bits jU qM Fe R X je qN Hm Kk=>?_);refine⟨_,(jn (qE (GB (zE (pD_ xY hr (jc (pv 0) (jc (pv 1) jl))))) (jn Qe) kg)),?_⟩
  try dsimp only[qe]
  unfold kt at Hm;replace je:(jC jb).rep K Fe order jU:=je;obtain rfl:qM=.int bits:=qN;refine(jad (K:=K) (yK (yU (jz (eV (i:=0) je) (eI (i:=1)) rfl)) rfl) X Hm ?_ ?_)
  ·intro F H Hm E X
   try dsimp only[cond_true] at Hm
   cases Hm
  ·intro F H Hm E X
   try dsimp only[cond_false] at Hm
   refine GP ?_;cases Hm;exact Kk _ F H X rfl
theorem jcO:FnScope ["order","bits","thing"] ["order","bits","thing"] (jo (top 23)):=scK
theorem jcP (B:BiX P w K mg base) (Aa:Ad K mg jb) (Fn:Fun K "is_door" "is_door" (top 23) f fd) (VH:je7 P w K mg base) (q_:Jc P w K mg base):FnOk P w K mg base CX0 2 f fd ["order","bits","thing"] (sp3 K (pF (jC jb)) (pF cI) (pF cI) (rF cB) zP):=by
  refine(ok3 Fn jcO fun cdv A outer s H0 Q E_ hr nd hu order bits thing jU qM kD Fe R X je qN kE Hm Kk=>?_);refine⟨_,(jn (j6 (jgZ (jg0 (pD_ VH hr (jc (pv 1) (jc (pv 2) jl)))) (jgY (pD_ q_ hr (jc (pv 1) (jc (pX GU (xC (pv 0) rfl) (pv 2)) jl))))))),?_⟩
  try dsimp only[qe]
  unfold zP at Hm;replace je:(jC jb).rep K Fe order jU:=je;obtain rfl:qM=.int bits:=qN;obtain rfl:kD=.int thing:=kE;exact kd (K:=K) (jbv (jbu (jz (eI (i:=1)) (eI (i:=2)) rfl) rfl) (qI (eI (i:=1)) (jk U1 (jX (xz Aa) (eV (i:=0) je) rfl) (eI (i:=2)) rfl) rfl) rfl) X Hm Kk
theorem je9:FnScope ["things","bits","thing"] ["things"] (jo (top 18)):=scK
theorem je_ (B:BiX P w K mg base) (Fn:Fun K "set_of" "set_of" (top 18) f fd):FnOk P w K mg base CX0 1 f fd ["things"] (sp1 K (pB cI) (rF cI) zm):=by
  refine(ok1 Fn je9 fun cdv A outer s H0 Q E_ hr nd hu yf xM Fe R X jW Hm Kk=>?_);refine⟨_,(jh (pS (i:=1) nd jq) (jh (qQ PassesOwn.never rfl (yS (pv 0)) (pG (i:=2) nd) (jn (pS (i:=1) nd (jL jc9 (pv 1) (jL jc8 jq (pv 2)))))) (jn (j6 (pv 1))))),?_⟩
  try dsimp only[qe]
  unfold zm at Hm;have jP:Bor K H0 Fe cI yf xM:=jW;clear jW;refine(kZ (K:=K) (jp _) X Hm ?_);intro bits F H Hm E X;replace jP:=E.xb jP;refine U6 (K:=K) (c:=cI) ?_ X Hm (fun F1 bits σ' F' H'=>∃ (w1_:Option V),σ'=[some xM,some (.int bits),w1_]/\(Ext Fe H0 F' H'/\Same F1 F')) ?_ ?_ ?_ ?_
  ·exact(U3 (i:=0) rfl jP)
  ·intro F H E X;exact⟨_,rfl,⟨X,(Same.refl _)⟩⟩
  ·rintro F1 bits σ_ F_ H_ ⟨w1_,rfl,⟨X_,SF_⟩⟩;exact⟨X_,SF_⟩
  ·rintro F1 S0_ bits B_ thing kD σ_ F_ H_ F H ⟨w1_,rfl,⟨X,SF_⟩⟩ E kE Hm
   try dsimp only at Hm
   have SL0:=SF_;replace X:=Ext.trans X E;replace SL0:=E.xd SL0;obtain rfl:kD=.int thing:=kE;refine xD ?_;refine(xR (K:=K) (j1 ki (eI (i:=1)) (jk jhW (jp _) (eI (i:=2)) rfl) rfl) X Hm ?_);intro bits F H Hm E X;replace SL0:=E.xd SL0;cases Hm;exact⟨F,_,rfl,⟨X,SL0⟩⟩
  ·rintro F1 S0_ bits σ_ F H Hm ⟨w1_,rfl,⟨X,SF_⟩⟩
   try dsimp only at Hm
   exact kd (K:=K) (eI (i:=1)) X Hm Kk
theorem jbK:FnScope ["order","bits"] ["order","bits"] (jo (top 24)):=scK
theorem jgQ (B:BiX P w K mg base) (Aa:Ad K mg jb) (Fn:Fun K "doors" "doors" (top 24) f fd) (zb:Def P w K mg base "check_downset" 4 ["order","bits"] (sp2 K (pF (jC jb)) (pF cI) (rF cU) kt)) (qv:Gd P w K mg base jb) (VI:Def P w K mg base "is_door" 2 ["order","bits","thing"] (sp3 K (pF (jC jb)) (pF cI) (pF cI) (rF cB) zP)) (YJ:Def P w K mg base "set_of" 1 ["things"] (sp1 K (pB cI) (rF cI) zm)):FnOk P w K mg base CX0 5 f fd ["order","bits"] (sp2 K (pF (jC jb)) (pF cI) (rF cI) G7):=by
  refine(ok2 Fn jbK fun cdv A outer s H0 Q E_ hr nd hu order bits jU qM Fe R X je qN Hm Kk=>?_);refine⟨_,(jh (kj (pD_ zb hr (jc (pv 0) (jc (pv 1) jl)))) (jn (j6 (pD_ YJ hr (jc (yy (own:=["thing"]) (ix:=[0,1]) (GD rfl) rfl (kA rfl B.range_ (jc (Z_ qv (hr.mono (by decide)) (pv 0)) jl)) (fun _=>(xN (i:=0) (show List.Nodup (["thing","order","bits"]:List Str) by decide +kernel) rfl (Or.inl rfl))) (fun _=>US (zE (pD_ VI hr (jc (pv 1) (jc (pv 2) (jc (pv 0) jl)))))) (fun _=>(pv 0))) jl))))),?_⟩
  try dsimp only[qe]
  unfold G7 at Hm;replace je:(jC jb).rep K Fe order jU:=je;obtain rfl:qM=.int bits:=qN;refine(zI (K:=K) (jz (eV (i:=0) je) (eI (i:=1)) rfl) X Hm ?_);intro _ F H Hm E X;replace je:=E.xc je;exact kd (K:=K) (QR (x8 (xy (jd6 (GZ zZ (eV (i:=0) je) rfl) rfl) [some jU,some (.int bits)] rfl (fun b3 thing _ _ E2=>(yU (yr (eV (i:=1) (Cd.mono _ (E2).f je)) (eI (i:=2)) (eI (i:=0)) rfl))) (fun b3 thing _ _ E2=>(eI (i:=0))) rfl)) rfl) X Hm Kk
theorem Qy:FnScope ["order","bits","entered","turned","thing"] ["order","bits"] (jo (top 29)):=scK
theorem YD (B:BiX P w K mg base) (Aa:Ad K mg jb) (Fn:Fun K "great_turn" "great_turn" (top 29) f fd) (ja1:Def P w K mg base "doors" 5 ["order","bits"] (sp2 K (pF (jC jb)) (pF cI) (rF cI) G7)) (yk:Ue P w K mg base):FnOk P w K mg base CX0 6 f fd ["order","bits"] (sp2 K (pF (jC jb)) (pF cI) (rF cI) qR):=by
  refine(ok2 Fn Qy fun cdv A outer s H0 Q E_ hr nd hu order bits jU qM Fe R X je qN Hm Kk=>?_);refine⟨_,(jh (pS (i:=2) nd (pD_ ja1 hr (jc (pv 0) (jc (pv 1) jl)))) (jh (pS (i:=3) nd (pv 2)) (jh (qQ PassesOwn.never rfl (yS (pD_ yk hr (jc (pv 2) jl))) (pG (i:=4) nd) (jn (pS (i:=3) nd (jL jc9 (pv 3) (pX GU (xC (pv 0) rfl) (pv 4)))))) (jn (j6 (pv 3)))))),?_⟩
  try dsimp only[qe]
  unfold qR at Hm;replace je:(jC jb).rep K Fe order jU:=je;obtain rfl:qM=.int bits:=qN;refine(kZ (K:=K) (jz (eV (i:=0) je) (eI (i:=1)) rfl) X Hm ?_);intro entered F H Hm E X;replace je:=E.xc je;refine(kZ (K:=K) (eI (i:=2)) X Hm ?_);intro turned F H Hm E X;replace je:=E.xc je;refine JU (K:=K) (c:=cI) ?_ X Hm (fun F1 turned σ' F' H'=>∃ (w1_:Option V),σ'=[some jU,some (.int bits),some (.int entered),some (.int turned),w1_]/\(Ext Fe H0 F' H'/\Same F1 F')) ?_ ?_ ?_ ?_
  ·exact(jh6 (GX (zh (jbh (i:=2) rfl) rfl)))
  ·intro F H E X;exact⟨_,rfl,⟨X,(Same.refl _)⟩⟩
  ·rintro F1 turned σ_ F_ H_ ⟨w1_,rfl,⟨X_,SF_⟩⟩;exact⟨X_,SF_⟩
  ·rintro F1 S0_ turned B_ thing kD σ_ F_ H_ F H ⟨w1_,rfl,⟨X,SF_⟩⟩ E kE Hm
   try dsimp only at Hm
   have SL0:=SF_;replace SF_:=Same.trans S0_ SF_;replace je:=Cd.mono _ SF_ je;replace X:=Ext.trans X E;replace je:=E.xc je;replace SL0:=E.xd SL0;obtain rfl:kD=.int thing:=kE;refine xD ?_;refine(xR (K:=K) (j1 ki (eI (i:=3)) (jk U1 (jX (xz Aa) (eV (i:=0) je) rfl) (eI (i:=4)) rfl) rfl) X Hm ?_);intro turned F H Hm E X;replace SL0:=E.xd SL0;cases Hm;exact⟨F,_,rfl,⟨X,SL0⟩⟩
  ·rintro F1 S0_ turned σ_ F H Hm ⟨w1_,rfl,⟨X,SF_⟩⟩
   try dsimp only at Hm
   exact kd (K:=K) (eI (i:=3)) X Hm Kk
theorem Qz:FnScope ["self","one"] ["self","one"] (jo ((jG (top 35) 0))):=scK
theorem YE (B:BiX P w K mg base) (Al:Am K mg jt) (Aa:Ad K mg jb) (Fn:Fun K "done" "Great.done" ((jG (top 35) 0)) f fd) (Jk:Def P w K mg base "great_turn" 6 ["order","bits"] (sp2 K (pF (jC jb)) (pF cI) (rF cI) qR)):FnOk P w K mg base CX0 7 f fd ["self","one"] (sp2 K (pF (kN jb jt)) (pF cI) (rF cI) qd):=by
  refine(ok2 Fn Qz fun cdv A outer s H0 Q E_ hr nd hu self one kJ qw Fe R X jy jD Hm Kk=>?_);refine⟨_,(jn (j6 (pD_ Jk hr (jc (xC (pv 0) rfl) (jc (pv 1) jl))))),?_⟩
  try dsimp only[qe]
  unfold qd at Hm;replace jy:(kN jb jt).rep K Fe self kJ:=jy;obtain rfl:qw=.int one:=jD;exact kd (K:=K) (jz (jX (y0 Al) (eV (i:=0) jy) rfl) (eI (i:=1)) rfl) X Hm Kk
theorem QA (B:BiX P w K mg base) (Aa:Ad K mg jb) (Fn:Fun K "check_downset" "check_downset" (top 21) f fd) (xY:Qv P w K mg base jb) (X_NoDownset:XDef P w K mg base cs "NoDownset" 3 1 ["bits"]):FnOk P w K mg base (CX1 P w) 4 f fd ["order","bits"] (zY K (pF (jC jb)) (pF cI) cs qg):=by
  refine(YM Fn GH fun cdv A outer s H0 Q E_ hr nd hu order bits jU qM Fe R X je qN Hm Kk=>?_);obtain⟨j7,f_NoDownset,fd_NoDownset,h_NoDownset,m_NoDownset,ja2,ja3,b_NoDownset⟩:=X_NoDownset.ex;refine⟨_,(jn (qE (GB (zE (pD_ xY hr (jc (pv 0) (jc (pv 1) jl))))) (jn (jgm (cxOf_def.wish _) rfl jhq ja2 ja3 (hr.mono (by decide)) rfl m_NoDownset b_NoDownset (jc (pv 1) jl))) kg)),?_⟩
  try dsimp only[GO]
  unfold qg at Hm;replace je:(jC jb).rep K Fe order jU:=je;obtain rfl:qM=.int bits:=qN;refine(jad (K:=K) (yK (yU (jz (eV (i:=0) je) (eI (i:=1)) rfl)) rfl) X Hm ?_ ?_)
  ·intro F H Hm E X
   try dsimp only[cond_true] at Hm
   exact jet (K:=K) (eI (i:=1)) X Hm h_NoDownset Kk
  ·intro F H Hm E X
   try dsimp only[cond_false] at Hm
   refine GP ?_;cases Hm
theorem jcQ (B:BiX P w K mg base) (Aa:Ad K mg jb) (Fn:Fun K "doors" "doors" (top 24) f fd) (DE_check_downset:y9 P w K mg base cs jb):FnOk P w K mg base (CX1 P w) 5 f fd ["order","bits"] (zY K (pF (jC jb)) (pF cI) cs Vl):=by
  refine(YM Fn jbK fun cdv A outer s H0 Q E_ hr nd hu order bits jU qM Fe R X je qN Hm Kk=>?_);refine⟨_,(jh (kj (xE cxOf_def DE_check_downset (hr.mono (by decide)) rfl (jc (pv 0) (jc (pv 1) jl)))) qo),?_⟩
  try dsimp only[GO]
  unfold Vl at Hm;replace je:(jC jb).rep K Fe order jU:=je;obtain rfl:qM=.int bits:=qN;rcases JB Hm with Hm | Hm
  ·exact QW (K:=K) (kG (eV (i:=0) je) (eI (i:=1))) X Hm Kk
  ·refine(zI (K:=K) (zM (eV (i:=0) je) (eI (i:=1))) X Hm ?_);intro _ F H Hm E X;cases Hm
theorem Vy (B:BiX P w K mg base) (Aa:Ad K mg jb) (Fn:Fun K "great_turn" "great_turn" (top 29) f fd) (DE_doors:DefE P w K mg base "doors" 5 ["order","bits"] (Vg (sp2 K (pF (jC jb)) (pF cI) (rF cI) G7) (zY K (pF (jC jb)) (pF cI) cs Vl))):FnOk P w K mg base (CX1 P w) 6 f fd ["order","bits"] (zY K (pF (jC jb)) (pF cI) cs yu):=by
  refine(YM Fn Qy fun cdv A outer s H0 Q E_ hr nd hu order bits jU qM Fe R X je qN Hm Kk=>?_);refine⟨_,(jh (pS (i:=2) nd (xE cxOf_def DE_doors (hr.mono (by decide)) rfl (jc (pv 0) (jc (pv 1) jl)))) qo),?_⟩
  try dsimp only[GO]
  unfold yu at Hm;replace je:(jC jb).rep K Fe order jU:=je;obtain rfl:qM=.int bits:=qN;exact Wu (K:=K) (kG (eV (i:=0) je) (eI (i:=1))) X Hm Kk
theorem Vz (B:BiX P w K mg base) (Al:Am K mg jt) (Aa:Ad K mg jb) (Fn:Fun K "done" "Great.done" ((jG (top 35) 0)) f fd) (DE_great_turn:DefE P w K mg base "great_turn" 6 ["order","bits"] (Vg (sp2 K (pF (jC jb)) (pF cI) (rF cI) qR) (zY K (pF (jC jb)) (pF cI) cs yu))):FnOk P w K mg base (CX1 P w) 7 f fd ["self","one"] (zY K (pF (kN jb jt)) (pF cI) cs xu):=by
  refine(YM Fn Qz fun cdv A outer s H0 Q E_ hr nd hu self one kJ qw Fe R X jy jD Hm Kk=>?_);refine⟨_,(jn (j6 (xE cxOf_def DE_great_turn (hr.mono (by decide)) rfl (jc (xC (pv 0) rfl) (jc (pv 1) jl))))),?_⟩
  try dsimp only[GO]
  unfold xu at Hm;replace jy:(kN jb jt).rep K Fe self kJ:=jy;obtain rfl:qw=.int one:=jD;exact W4 (K:=K) (kG (jX (y0 Al) (eV (i:=0) jy) rfl) (eI (i:=1))) X Hm Kk
theorem GI:FnScope ["self","one"] ["self","one"] (jo ((jG (top 35) 1))):=scK
theorem Us (B:BiX P w K mg base) (Al:Am K mg jt) (Aa:Ad K mg jb) (Fn:Fun K "back" "Great.back" ((jG (top 35) 1)) f fd):FnOk P w K mg base CX0 1 f fd ["self","one"] (sp2 K (pF (kN jb jt)) (pF cI) (rF cU) y1):=by
 refine Fn.ok GI (fun vs H Q E h=>?_) (fun cdv A outer s H0 vs Q E_ hr h=>?_)
 ·obtain⟨_,_,_,_,_,_,rfl,_⟩:=h;rfl
 ·obtain⟨self,one,kJ,qw,Fe,R,rfl,S_,jy,jD,Hm,Kk⟩:=h;unfold y1 at Hm;cases Hm
theorem yw:FnScope ["order","bits","left"] ["order","bits"] (jo (top 30)):=scK
theorem Jd (B:BiX P w K mg base) (Aa:Ad K mg jb) (Fn:Fun K "great_turn_back" "great_turn_back" (top 30) f fd):FnOk P w K mg base CX0 1 f fd ["order","bits"] (sp2 K (pF (jC jb)) (pF cI) (rF cU) xF):=by
 refine Fn.ok yw (fun vs H Q E h=>?_) (fun cdv A outer s H0 vs Q E_ hr h=>?_)
 ·obtain⟨_,_,_,_,_,_,rfl,_⟩:=h;rfl
 ·obtain⟨order,bits,jU,qM,Fe,R,rfl,S_,je,qN,Hm,Kk⟩:=h;unfold xF at Hm;cases Hm
theorem Wz:FnScope ["order","bits","covered","thing"] ["order","bits"] (jo (top 22)):=scK
theorem jcR (B:BiX P w K mg base) (Aa:Ad K mg jb) (Fn:Fun K "brim" "brim" (top 22) f fd):FnOk P w K mg base CX0 1 f fd ["order","bits"] (sp2 K (pF (jC jb)) (pF cI) (rF cU) Vm):=by
 refine Fn.ok Wz (fun vs H Q E h=>?_) (fun cdv A outer s H0 vs Q E_ hr h=>?_)
 ·obtain⟨_,_,_,_,_,_,rfl,_⟩:=h;rfl
 ·obtain⟨order,bits,jU,qM,Fe,R,rfl,S_,je,qN,Hm,Kk⟩:=h;unfold Vm at Hm;cases Hm
theorem ZW (B:BiX P w K mg base) (Aa:Ad K mg jb) (Fn:Fun K "brim" "brim" (top 22) f fd) (DE_check_downset:y9 P w K mg base cs jb):FnOk P w K mg base (CX1 P w) 5 f fd ["order","bits"] (zY K (pF (jC jb)) (pF cI) cs G8):=by
  refine(YM Fn Wz fun cdv A outer s H0 Q E_ hr nd hu order bits jU qM Fe R X je qN Hm Kk=>?_);refine⟨_,(jh (kj (xE cxOf_def DE_check_downset (hr.mono (by decide)) rfl (jc (pv 0) (jc (pv 1) jl)))) qo),?_⟩
  try dsimp only[GO]
  unfold G8 at Hm;replace je:(jC jb).rep K Fe order jU:=je;obtain rfl:qM=.int bits:=qN;rcases JB Hm with Hm | Hm
  ·exact QW (K:=K) (kG (eV (i:=0) je) (eI (i:=1))) X Hm Kk
  ·refine(zI (K:=K) (zM (eV (i:=0) je) (eI (i:=1))) X Hm ?_);intro _ F H Hm E X;cases Hm
theorem Gf (B:BiX P w K mg base) (Aa:Ad K mg jb) (Fn:Fun K "great_turn_back" "great_turn_back" (top 30) f fd) (DE_brim_nv:DefE P w K mg base "brim" 5 ["order","bits"] (Vg (sp2 K (pF (jC jb)) (pF cI) (rF cU) Vm) (zY K (pF (jC jb)) (pF cI) cs G8))):FnOk P w K mg base (CX1 P w) 6 f fd ["order","bits"] (zY K (pF (jC jb)) (pF cI) cs k9):=by
  refine(YM Fn yw fun cdv A outer s H0 Q E_ hr nd hu order bits jU qM Fe R X je qN Hm Kk=>?_);refine⟨_,(jh (pS (i:=2) nd (xE cxOf_def DE_brim_nv (hr.mono (by decide)) rfl (jc (pv 0) (jc (pv 1) jl)))) qo),?_⟩
  try dsimp only[GO]
  unfold k9 at Hm;replace je:(jC jb).rep K Fe order jU:=je;obtain rfl:qM=.int bits:=qN;exact Wu (K:=K) (kG (eV (i:=0) je) (eI (i:=1))) X Hm Kk
theorem QB (B:BiX P w K mg base) (Al:Am K mg jt) (Aa:Ad K mg jb) (Fn:Fun K "back" "Great.back" ((jG (top 35) 1)) f fd) (DE_great_turn_back_nv:DefE P w K mg base "great_turn_back" 6 ["order","bits"] (Vg (sp2 K (pF (jC jb)) (pF cI) (rF cU) xF) (zY K (pF (jC jb)) (pF cI) cs k9))):FnOk P w K mg base (CX1 P w) 7 f fd ["self","one"] (zY K (pF (kN jb jt)) (pF cI) cs qK):=by
  refine(YM Fn GI fun cdv A outer s H0 Q E_ hr nd hu self one kJ qw Fe R X jy jD Hm Kk=>?_);refine⟨_,(jn (j6 (xE cxOf_def DE_great_turn_back_nv (hr.mono (by decide)) rfl (jc (xC (pv 0) rfl) (jc (pv 1) jl))))),?_⟩
  try dsimp only[GO]
  unfold qK at Hm;replace jy:(kN jb jt).rep K Fe self kJ:=jy;obtain rfl:qw=.int one:=jD;exact W4 (K:=K) (kG (jX (y0 Al) (eV (i:=0) jy) rfl) (eI (i:=1))) X Hm Kk
theorem JN:FnScope ["turn","one","circle","following"] ["turn","one"] (jo (top 40)):=scK
theorem V7 (B:BiX P w K mg base) (Al:Am K mg jt) (Aa:Ad K mg jb) (Fn:Fun K "round_of" "round_of" (top 40) f fd):FnOk P w K mg base CX0 1 f fd ["turn","one"] (sp2 K (pF (kN jb jt)) (pF cI) (rF cU) Ga):=by
 refine Fn.ok JN (fun vs H Q E h=>?_) (fun cdv A outer s H0 vs Q E_ hr h=>?_)
 ·obtain⟨_,_,_,_,_,_,rfl,_⟩:=h;rfl
 ·obtain⟨turn,one,xZ,qw,Fe,R,rfl,S_,jj,jD,Hm,Kk⟩:=h;unfold Ga at Hm;cases Hm
theorem Ut (B:BiX P w K mg base) (Al:Am K mg jt) (Aa:Ad K mg jb) (Fn:Fun K "round_of" "round_of" (top 40) f fd) (DE_Great_done:GE P w K mg base cs jt jb):FnOk P w K mg base (CX1 P w) 8 f fd ["turn","one"] (zY K (pF (kN jb jt)) (pF cI) cs q8):=by
  refine(YM Fn JN fun cdv A outer s H0 Q E_ hr nd hu turn one xZ qw Fe R X jj jD Hm Kk=>?_);refine⟨_,(jh (pS (i:=2) nd (xj (jc (pv 1) jl))) (jh (pS (i:=3) nd (ya cxOf_def DE_Great_done (hr.mono (by decide)) (pv 0) (jc (pv 1) jl))) qo)),?_⟩
  try dsimp only[GO]
  unfold q8 at Hm;replace jj:(kN jb jt).rep K Fe turn xZ:=jj;obtain rfl:qw=.int one:=jD;refine(yq (K:=K) (xk (ku (eI (i:=1)) (qD (c:=cI)) rfl) (by decide)) X Hm ?_);intro circle jgT F H Hm E X Hn jgU;replace jj:=E.xc jj;exact Wu (K:=K) (k6 yM (eV (i:=0) jj) (eI (i:=1))) X Hm Kk
theorem GJ:FnScope ["turn","ones","found","gone_through","one","circle","other"] ["turn","ones"] (jo (top 41)):=scK
theorem Uu (B:BiX P w K mg base) (Al:Am K mg jt) (Aa:Ad K mg jb) (Fn:Fun K "all_rounds" "all_rounds" (top 41) f fd):FnOk P w K mg base CX0 1 f fd ["turn","ones"] (sp2 K (pF (kN jb jt)) (pB cI) (rF cU) y2):=by
 refine Fn.ok GJ (fun vs H Q E h=>?_) (fun cdv A outer s H0 vs Q E_ hr h=>?_)
 ·obtain⟨_,_,_,_,_,_,rfl,_⟩:=h;rfl
 ·obtain⟨turn,ones,xZ,VJ,Fe,R,rfl,S_,jj,VL,Hm,Kk⟩:=h;unfold y2 at Hm;cases Hm
theorem QC (B:BiX P w K mg base) (Al:Am K mg jt) (Aa:Ad K mg jb) (Fn:Fun K "all_rounds" "all_rounds" (top 41) f fd) (DE_round_of_nv:zR P w K mg base cs jt jb):FnOk P w K mg base (CX1 P w) 9 f fd ["turn","ones"] (zY K (pF (kN jb jt)) (pB cI) cs qL):=by
  refine(YM Fn GJ fun cdv A outer s H0 Q E_ hr nd hu turn ones xZ VJ Fe R X jj VL Hm Kk=>?_);refine⟨_,(jh (pS (i:=2) nd (xj jl)) (jh (pS (i:=3) nd jgu) (jh (qQ (Qn cxOf_def) rfl (yS (pv 1)) (pG (i:=4) nd) (jn (qE (jgX (Zy (hu1 hu) (pv 4) (pv 3)) (by with_unfolding_all rfl)) (jh (pS (i:=5) nd (xE cxOf_def DE_round_of_nv (hr.mono (by decide)) rfl (jc (pv 0) (jc (pv 4) jl)))) qo) kg))) qo))),?_⟩
  try dsimp only[GO]
  unfold qL at Hm;replace jj:(kN jb jt).rep K Fe turn xZ:=jj;have kX:Bor K H0 Fe cI ones VJ:=VL;clear VL;refine(yq (K:=K) (xk (qD (c:=cI)) (by decide)) X Hm ?_);intro found jK F H Hm E X Hn Ab;replace jj:=E.xc jj;replace kX:=E.xb kX;refine(jjT (K:=K) (jiD (κ:=Int) (c:=cI)) X Hm ?_);intro gone_through jZ F H Hm E X Hn Af;have jB:=Own.ne Ab Hn;have qa:=Ne.symm jB;replace jj:=E.xc jj;replace kX:=E.xb kX;replace Ab:=Ab.mono E;refine UC (K:=K) (c:=cI) (fun c=>c=R) ?_ X Hm ?_ (fun F1 b σ' F' H'=>match b with | (found,gone_through)=>∃ (jK:Addr) (jZ:Addr) (w1_:Option V) (w2_:Option V) (w3_:Option V),σ'=[some xZ,some VJ,some (.ref jK),some (.ref jZ),w1_,w2_,w3_]/\(Ext Fe H0 F' H'/\Same F1 F')/\Own K H0 F' H' cI found jK/\OwnD K H0 F' H' cI gone_through jZ/\jK≠jZ) ?_ ?_ ?_ ?_
  ·exact(U3 (i:=1) rfl kX)
  ·intro c h;exact Option.some.inj h
  ·intro F H E X;replace Ab:=Ab.mono E;replace Af:=Af.mono E;exact⟨_,_,_,_,_,rfl,⟨X,(Same.refl _)⟩,Ab,Af,jB⟩
  ·rintro F1 ⟨found,gone_through⟩ σ_ F_ H_ ⟨jK,jZ,w1_,w2_,w3_,rfl,⟨X_,SF_⟩,Ab,Af,jB⟩;exact⟨X_,SF_⟩
  ·rintro F1 S0_ ⟨found,gone_through⟩ B_ one qw σ_ F_ H_ F H ⟨jK,jZ,w1_,w2_,w3_,rfl,⟨X,SF_⟩,Ab,Af,jB⟩ E jD Hm Hr
   try dsimp only at Hm
   have SL0:=SF_;replace SF_:=Same.trans S0_ SF_;replace jj:=Cd.mono _ SF_ jj;have qa:=Ne.symm jB;replace X:=Ext.trans X E;replace jj:=E.xc jj;replace Ab:=Ab.mono E;replace Af:=Af.mono E;replace SL0:=E.xd SL0;obtain rfl:qw=.int one:=jD;refine xD ?_;refine(Za (K:=K) (yU (jcq (eI (i:=4)) (ko (p:=pD (κ:=Int) cI) (i:=3) rfl Af.b) rfl)) X Hm ?_ ?_)
   ·intro F H Hc Hm E X;replace jj:=E.xc jj;obtain⟨y_,Hy_,Hm⟩:=bind_some Hm;cases Hm;exact Wu (K:=K) (kG (eV (i:=0) jj) (eI (i:=4))) X (Hy_.trans (congrArg some (Hr _ rfl))) Kk
   ·intro F H Hc Hm E X;replace Ab:=Ab.mono E;replace Af:=Af.mono E;replace SL0:=E.xd SL0;refine GP ?_;cases Hm;exact⟨_,F,rfl,_,_,_,_,_,rfl,⟨X,SL0⟩,Ab,Af,jB⟩
  ·rintro F1 S0_ ⟨found,gone_through⟩ σ_ F H Hm ⟨jK,jZ,w1_,w2_,w3_,rfl,⟨X,SF_⟩,Ab,Af,jB⟩
   try dsimp only at Hm
   have qa:=Ne.symm jB;cases Hm
theorem A4:FnScope ["_law_turn","_law_one","_law_which","_law_told","e"] ["_law_turn","_law_one","_law_which"] (jo (top 52)):=scK
theorem ZX (B:BiX P w K mg base) (Al:Am K mg jt) (Aa:Ad K mg jb) (Fn:Fun K "_law_said" "_law_said" (top 52) f fd) (DE_Great_done:GE P w K mg base cs jt jb) (DE_Great_back_nv:MthE P w K mg base jt "back" 7 ["self","one"] (Vg (sp2 K (pF (kN jb jt)) (pF cI) (rF cU) y1) (zY K (pF (kN jb jt)) (pF cI) cs qK))) (DE_round_of_nv:zR P w K mg base cs jt jb) (DE_all_rounds_nv:DefE P w K mg base "all_rounds" 9 ["turn","ones"] (Vg (sp2 K (pF (kN jb jt)) (pB cI) (rF cU) y2) (zY K (pF (kN jb jt)) (pB cI) cs qL))) (m_NoDownset:mg "NoDownset"=some (.ref CT_NoDownset)) (x_NoDownset:zK K CT_NoDownset fo_NoDownset=true) (J9:jfj K CT_NoDownset cs [3]) (jfc:jjR K cs 3 0 "bits") (xA:XCl K mg cs "ToggleError" [0,1,2,3,4]) (x4:mg "ValueError"=none/\jiw K cs (.type "ValueError") [0,1,2,3,4]) (YK:XCl K mg cs "NoLine" [4]):FnOk P w K mg base CX0 10 f fd ["_law_turn","_law_one","_law_which"] (sp3 K (pF (kN jb jt)) (pF cI) (pF cI) (rF cF5) Vn):=by
 refine Fn.ok0 A4 (fun vs H Q E h=>?_) (fun cdv A outer s H0 vs Q E_ hr h=>?_)
 ·obtain⟨_,_,_,_,_,_,_,_,rfl,_⟩:=h;rfl
 ·obtain⟨turn,one,which,xZ,qw,ja4,Fe,R,rfl,S_,jj,jD,ja5,Hm,Kk⟩:=h;have nd:=A4.nd;have hu:=UW hr;obtain⟨Cq_ToggleError,mq_ToggleError,Iq_ToggleError⟩:=xA;obtain⟨mq_ValueError,Iq_ValueError⟩:=x4;obtain⟨Cq_NoLine,mq_NoLine,Iq_NoLine⟩:=YK;refine⟨_,(Qo (PS.z (pS (i:=3) nd (xH (jc Wc (jc jq jl))))) (Qo (jgA (i:=4) (cxOf_def.wish _) nd rfl rfl rfl m_NoDownset x_NoDownset (fun Er_=>(jn (qE (j9 zz (pv 2) jq (ky _)) (jn (kj (ya (cxOf_def.wish _) DE_Great_done (hr.mono (by decide)) (pv 0) (jc (pv 1) jl)))) (jn (qE (j9 zz (pv 2) jq (ky _)) (jn (kj (ya (cxOf_def.wish _) DE_Great_back_nv (hr.mono (by decide)) (pv 0) (jc (pv 1) jl)))) (jn (qE (j9 zz (pv 2) jq (ky _)) (jn (kj (xE (cxOf_def.wish _) DE_round_of_nv (hr.mono (by decide)) rfl (jc (pv 0) (jc (pv 1) jl))))) (jn (kj (xE (cxOf_def.wish _) DE_all_rounds_nv (hr.mono (by decide)) rfl (jc (pv 0) (jc (xj (jc (pv 1) jl)) jl)))))))))))) (fun v_=>jn (pS (i:=3) nd (xH (jc Wc (jc (jgB (pv 4) rfl) (jc (xK yR rfl B.isinstance_ (by kernel_rfl) (jc (pv 4) (jc (zy (v:=.ref Cq_ToggleError) rfl mq_ToggleError rfl) jl))) (jc (xK yR rfl B.isinstance_ (by kernel_rfl) (jc (pv 4) (jc (jc0 (v:=.ty "ValueError") rfl mq_ValueError (by kernel_rfl) rfl) jl))) (jc (xK yR rfl B.isinstance_ (by kernel_rfl) (jc (pv 4) (jc (zy (v:=.ref Cq_NoLine) rfl mq_NoLine rfl) jl))) jl))))))))) (PSs.z (jn (j6 (pv 3)))))),?_⟩
  try dsimp only[qe]
  have X:Ext Fe H0 Fe H0:=Ext.refl S_;unfold Vn at Hm;replace jj:(kN jb jt).rep K Fe turn xZ:=jj;obtain rfl:qw=.int one:=jD;obtain rfl:ja4=.int which:=ja5;refine(yF (K:=K) (c:=(cP cS cI)) (qz (We _) (jp _) rfl) X Hm ?_);intro told jbL F H Hm E X Jl;replace jj:=E.xc jj;refine(jj4 (K:=K) (c:=cF5) (i:=4) (j:=3) (jcu (qH (jk zA (eI (i:=2)) (jp _) rfl)) (G3 (fun Er_=>(k6 yM (eV (i:=0) jj) (eI (i:=1))))) (jcu (qH (jk zA (eI (i:=2)) (jp _) rfl)) (G3 (fun Er_=>(k6 W8 (eV (i:=0) jj) (eI (i:=1))))) (jcu (qH (jk zA (eI (i:=2)) (jp _) rfl)) (G3 (fun Er_=>(kG (eV (i:=0) jj) (eI (i:=1))))) (G3 (fun Er_=>(kG (eV (i:=0) jj) (x8 (xk (ku (eI (i:=1)) (qD (c:=cI)) rfl) (by decide))))))))) J9 (by decide) rfl (fun er_ V_e_ F H E (P_e_:(cOE cs).rep K F (some er_) V_e_)=>(jiN (We _) (jaE jfc (eV (i:=4) P_e_) rfl) (yh (c:=.ref Cq_ToggleError) (fun u h=>h) Iq_ToggleError (eV (i:=4) P_e_) rfl) (yh (c:=.ty "ValueError") (fun u h=>h) Iq_ValueError (eV (i:=4) P_e_) rfl) (yh (c:=.ref Cq_NoLine) (fun u h=>h) Iq_NoLine (eV (i:=4) P_e_) rfl) rfl)) X Hm ?_);intro told jbL F H Hm E X Jl;exact kd (K:=K) (eV (i:=3) Jl) X Hm Kk
theorem jcS:FnScope ["order","line","ahead","thing"] ["order","line"] (jo (top 26)):=scK
theorem jcT (B:BiX P w K mg base) (Aa:Ad K mg jb) (Fn:Fun K "is_line" "is_line" (top 26) f fd) (qv:Gd P w K mg base jb) (q_:Jc P w K mg base):FnOk P w K mg base CX0 2 f fd ["order","line"] (sp2 K (pF (jC jb)) (pF (cT cI)) (rF cB) kS):=by
  refine(ok2 Fn jcS fun cdv A outer s H0 Q E_ hr nd hu order line jU WA Fe R X je kz Hm Kk=>?_);refine⟨_,(jh (qE (j9 (jdt hu) (kB Zr B.sorted_ (pv 1)) (cY (Qh rfl) B.list_ (jdz rfl B.range_ (jc (Z_ qv (hr.mono (by decide)) (pv 0)) jl))) (ky _)) (jn (j6 JO)) kg) (jh (pS (i:=2) nd jq) (jh (qQ PassesOwn.never rfl (ja7 (pv 1)) (pG (i:=3) nd) (jh (qE (GB (zE (pD_ q_ hr (jc (pv 2) (jc (pX GU (xC (pv 0) rfl) (pv 3)) jl))))) (jn (j6 JO)) kg) (jn (pS (i:=2) nd (jL jc9 (pv 2) (jL jc8 jq (pv 3))))))) (jn (j6 JO))))),?_⟩
  try dsimp only[qe]
  unfold kS at Hm;replace je:(jC jb).rep K Fe order jU:=je;replace kz:(cT cI).rep K Fe line WA:=kz;refine(jif (K:=K) (qH (j1 (jhX (eqL eqI) (by decide) nfL) (jdE (x8 (jN jeg (eV (i:=1) kz) rfl))) (jdE (x8 (Zi (GZ zZ (eV (i:=0) je) rfl) rfl))) rfl)) X Hm ?_ ?_)
  ·intro F H Hm E X
   try dsimp only[cond_true] at Hm
   exact kd (K:=K) (JT _) X Hm Kk
  ·intro F H Hm E X
   try dsimp only[cond_false] at Hm
   replace je:=E.xc je;replace kz:=E.xc kz;refine GP ?_;refine(kZ (K:=K) (jp _) X Hm ?_);intro ahead F H Hm E X;replace je:=E.xc je;replace kz:=E.xc kz;refine UC (K:=K) (c:=cI) (fun c=>c=R) ?_ X Hm ?_ (fun F1 ahead σ' F' H'=>∃ (w4_:Option V),σ'=[some jU,some WA,some (.int ahead),w4_]/\(Ext Fe H0 F' H'/\Same F1 F')) ?_ ?_ ?_ ?_
   ·exact(jhk (ko (p:=pF (cT cI)) (i:=1) rfl kz))
   ·intro c h;exact Option.some.inj h
   ·intro F H E X;exact⟨_,rfl,⟨X,(Same.refl _)⟩⟩
   ·rintro F1 ahead σ_ F_ H_ ⟨w4_,rfl,⟨X_,SF_⟩⟩;exact⟨X_,SF_⟩
   ·rintro F1 S0_ ahead B_ thing kD σ_ F_ H_ F H ⟨w4_,rfl,⟨X,SF_⟩⟩ E kE Hm Hr
    try dsimp only at Hm
    have SL0:=SF_;replace SF_:=Same.trans S0_ SF_;replace je:=Cd.mono _ SF_ je;replace X:=Ext.trans X E;replace je:=E.xc je;replace SL0:=E.xd SL0;obtain rfl:kD=.int thing:=kE;refine xD ?_;refine(jif (K:=K) (yK (yU (qI (eI (i:=2)) (jk U1 (jX (xz Aa) (eV (i:=0) je) rfl) (eI (i:=3)) rfl) rfl)) rfl) X Hm ?_ ?_)
    ·intro F H Hm E X
     try dsimp only[cond_true] at Hm
     obtain⟨y_,Hy_,Hm⟩:=bind_some Hm;cases Hm;exact kd (K:=K) (JT _) X (Hy_.trans (congrArg some (Hr _ rfl))) Kk
    ·intro F H Hm E X
     try dsimp only[cond_false] at Hm
     replace SL0:=E.xd SL0;refine GP ?_;refine(xR (K:=K) (j1 ki (eI (i:=2)) (jk jhW (jp _) (eI (i:=3)) rfl) rfl) X Hm ?_);intro ahead F H Hm E X;replace SL0:=E.xd SL0;cases Hm;exact⟨_,F,rfl,_,rfl,⟨X,SL0⟩⟩
   ·rintro F1 S0_ ahead σ_ F H Hm ⟨w4_,rfl,⟨X,SF_⟩⟩
    try dsimp only at Hm
    exact kd (K:=K) (JT _) X Hm Kk
theorem QD:FnScope ["order","line"] ["order","line"] (jo (top 27)):=scK
theorem YF (B:BiX P w K mg base) (Aa:Ad K mg jb) (Fn:Fun K "check_line" "check_line" (top 27) f fd) (zT:Wy P w K mg base jb):FnOk P w K mg base CX0 3 f fd ["order","line"] (sp2 K (pF (jC jb)) (pF (cT cI)) (rF cU) j3):=by
  refine(ok2 Fn QD fun cdv A outer s H0 Q E_ hr nd hu order line jU WA Fe R X je kz Hm Kk=>?_);refine⟨_,(jn (qE (GB (zE (pD_ zT hr (jc (pv 0) (jc (pv 1) jl))))) (jn Qe) kg)),?_⟩
  try dsimp only[qe]
  unfold j3 at Hm;replace je:(jC jb).rep K Fe order jU:=je;replace kz:(cT cI).rep K Fe line WA:=kz;refine(jad (K:=K) (yK (yU (jz (eV (i:=0) je) (eV (i:=1) kz) rfl)) rfl) X Hm ?_ ?_)
  ·intro F H Hm E X
   try dsimp only[cond_true] at Hm
   cases Hm
  ·intro F H Hm E X
   try dsimp only[cond_false] at Hm
   refine GP ?_;cases Hm;exact Kk _ F H X rfl
theorem JE:FnScope ["self","thing"] ["self","thing"] (jo ((jG (top 15) 2))):=scK
theorem JF (B:BiX P w K mg base) (Aa:Ad K mg jb) (Fn:Fun K "check_thing" "Order.check_thing" ((jG (top 15) 2)) f fd):FnOk P w K mg base CX0 1 f fd ["self","thing"] (sp2 K (pF (jC jb)) (pF cI) (rF cU) jY):=by
  refine(ok2 Fn JE fun cdv A outer s H0 Q E_ hr nd hu self thing kJ kD Fe R X jy kE Hm Kk=>?_);refine⟨_,(jn (qE (GB (ja_ jfu WG jq (pv 1) (xC (pv 0) rfl))) (jn Qe) kg)),?_⟩
  try dsimp only[qe]
  unfold jY at Hm;replace jy:(jC jb).rep K Fe self kJ:=jy;obtain rfl:kD=.int thing:=kE;refine(Za (K:=K) (QQ (qH (U_ (jp _) (eI (i:=1)) (jX (JL Aa) (eV (i:=0) jy) rfl) rfl)) rfl) X Hm ?_ ?_)
  ·intro F H Hc Hm E X;cases Hm
  ·intro F H Hc Hm E X;refine GP ?_;cases Hm;exact Kk _ F H X rfl
theorem JZ:FnScope ["self","thing"] ["self","thing"] (jo ((jG (top 15) 6))):=scK
theorem J0 (B:BiX P w K mg base) (Aa:Ad K mg jb) (Fn:Fun K "just_above" "Order.just_above" ((jG (top 15) 6)) f fd) (kM:yI P w K mg base jb):FnOk P w K mg base CX0 2 f fd ["self","thing"] (sp2 K (pF (jC jb)) (pF cI) (rO cI) ke):=by
  refine(ok2 Fn JZ fun cdv A outer s H0 Q E_ hr nd hu self thing kJ kD Fe R X jy kE Hm Kk=>?_);refine⟨_,(jh (kj (ze kM (hr.mono (by decide)) (pv 0) (jc (pv 1) jl))) (jn (j6 (yy (own:=["low","high"]) (ix:=[1]) (GD rfl) rfl (ja7 (xC (pv 0) rfl)) (fun _=>(UM rfl (xi (xN (i:=0) (show List.Nodup (["low","high","thing"]:List Str) by decide +kernel) rfl (Or.inl rfl)) (xi (xN (i:=1) (show List.Nodup (["low","high","thing"]:List Str) by decide +kernel) rfl (Or.inl rfl)) JP)))) (fun _=>US (j9 zz (pv 0) (pv 2) (ky _))) (fun _=>(pv 1)))))),?_⟩
  try dsimp only[qe]
  unfold ke at Hm;replace jy:(jC jb).rep K Fe self kJ:=jy;obtain rfl:kD=.int thing:=kE;refine(zI (K:=K) (kq yH (eV (i:=0) jy) (eI (i:=1)) rfl) X Hm ?_);intro _ F H Hm E X;replace jy:=E.xc jy;exact kd (K:=K) (Qj (jhl (jX (yG Aa) (eV (i:=0) jy) rfl)) [some (.int thing)] rfl (fun b2 low high _ _ E1=>(qH (jk zA (eI (i:=0)) (eI (i:=2)) rfl))) (fun b2 low high _ _ E1=>(eI (i:=1))) rfl) X Hm Kk
theorem Uv:FnScope ["row","things"] ["row","things"] (jo (top 31)):=scK
theorem Uw (B:BiX P w K mg base) (Fn:Fun K "places_within" "places_within" (top 31) f fd):FnOk P w K mg base CX0 1 f fd ["row","things"] (sp2 K (pF (cT cI)) (pB cI) (rO cI) jT):=by
  refine(ok2 Fn Uv fun cdv A outer s H0 Q E_ hr nd hu row yf yO xM Fe R X jS jW Hm Kk=>?_);refine⟨_,(jn (j6 (yy (own:=["thing"]) (ix:=[0]) (GD rfl) rfl (yS (pv 1)) (fun _=>(xN (i:=0) (show List.Nodup (["thing","row"]:List Str) by decide +kernel) rfl (Or.inl rfl))) (fun _=>US (j9 (jhd hu) (pv 0) (pv 1) (by with_unfolding_all rfl))) (fun _=>(jjN PySem.F.slot_tuple_index PySem.F.type_tuple_index Zs (pv 1) (jc (pv 0) jl)))))),?_⟩
  try dsimp only[qe]
  unfold jT at Hm;replace jS:(cT cI).rep K Fe row yO:=jS;have jP:Bor K H0 Fe cI yf xM:=jW;clear jW;exact kd (K:=K) (Ze (jah (qy (ko (p:=pB cI) (i:=1) rfl (Bor.b jP X)))) [some yO] rfl (fun b2 thing _ _ E1=>(qH (jk (jk1 eqI (by decide)) (UZ (eI (i:=0))) (UZ (eV (i:=1) (Cd.mono _ (E1).f jS))) rfl))) (fun b2 thing _ _ E1=>(Qm (eV (i:=1) (Cd.mono _ (E1).f jS)) (eI (i:=0)) rfl)) rfl) X Hm Kk
theorem ji0:FnScope ["order","row","moved","gap","higher","place"] ["order","row"] (jo (top 32)):=scK
theorem ji1 (B:BiX P w K mg base) (Aa:Ad K mg jb) (Fn:Fun K "slid" "slid" (top 32) f fd) (xm:Mth P w K mg base jb "just_above" 2 ["self","thing"] (sp2 K (pF (jC jb)) (pF cI) (rO cI) ke)) (kY:GF P w K mg base):FnOk P w K mg base CX0 3 f fd ["order","row"] (sp2 K (pF (jC jb)) (pF (cT cI)) (rF (cT cI)) G9):=by
  refine(ok2 Fn ji0 fun cdv A outer s H0 Q E_ hr nd hu order row jU yO Fe R X je jS Hm Kk=>?_);refine⟨_,(jh (pS (i:=2) nd (cY GV B.list_ (pv 1))) (jh (pS (i:=3) nd (pX GU (pv 1) jq)) (jh (pS (i:=4) nd (pD_ kY hr (jc (pv 1) (jc (ze xm (hr.mono (by decide)) (pv 0) (jc (pv 3) jl)) jl)))) (jh (WD PassesOwn.never (j9 YT (kB jQ B.len_ (pv 4)) jq (ky _)) (jh (pS (i:=5) nd (kB (jej rfl) B.min_ (pv 4))) (jh (jc2 (pv 3) (jg2 (pv 2) (pv 5) jbc)) (jh (pS (i:=3) nd (pX GU (pv 1) (pv 5))) (jn (pS (i:=4) nd (pD_ kY hr (jc (pv 1) (jc (ze xm (hr.mono (by decide)) (pv 0) (jc (pv 3) jl)) jl))))))))) (jn (j6 (cY x6 B.tuple_ (jL jbd (qV Z9 (pv 2) (xP jq) xO) (xj (jc (pv 3) jl)))))))))),?_⟩
  try dsimp only[qe]
  unfold G9 at Hm;replace je:(jC jb).rep K Fe order jU:=je;replace jS:(cT cI).rep K Fe row yO:=jS;refine(yq (K:=K) (jN jdG (eV (i:=1) jS) rfl) X Hm ?_);intro moved xT F H Hm E X Hn Ah;replace je:=E.xc je;replace jS:=E.xc jS;refine(kZ (K:=K) (jk U1 (eV (i:=1) jS) (jp _) rfl) X Hm ?_);intro gap F H Hm E X;replace je:=E.xc je;replace jS:=E.xc jS;replace Ah:=Ah.mono E;refine(yF (K:=K) (c:=(cL cI)) (GX (qI (eV (i:=1) jS) (x8 (kq yY (eV (i:=0) je) (eI (i:=3)) rfl)) rfl)) X Hm ?_);intro higher zt F H Hm E X qb;replace je:=E.xc je;replace jS:=E.xc jS;replace Ah:=Ah.mono E;refine jat (K:=K) X Hm (fun F1 b σ' F' H'=>match b with | (moved,gap,higher)=>∃ (xT:Addr) (zt:V) (w3_:Option V),σ'=[some jU,some yO,some (.ref xT),some (.int gap),some zt,w3_]/\(Ext Fe H0 F' H'/\Same F1 F')/\Own K H0 F' H' cI moved xT/\(cL cI).rep K F' higher zt) ?_ ?_ ?_ ?_ ?_
  ·exact⟨_,_,_,rfl,⟨X,(Same.refl _)⟩,Ah,qb⟩
  ·rintro F1 ⟨moved,gap,higher⟩ σ_ F_ H_ ⟨xT,zt,w3_,rfl,⟨X_,SF_⟩,Ah,qb⟩;exact⟨X_,SF_⟩
  ·rintro⟨moved,gap,higher⟩ σ_ F H ⟨xT,zt,w3_,rfl,⟨X,SF_⟩,Ah,qb⟩;exact(qH (jk zf (jN yp (qy (Qi (ko (p:=pF (cL cI)) (i:=4) rfl qb))) rfl) (jp _) rfl))
  ·rintro⟨moved,gap,higher⟩ B_ σ_ F_ H_ F H ⟨xT,zt,w3_,rfl,⟨X,SF_⟩,Ah,qb⟩ E Hm
   try dsimp only at Hm
   have SL0:=SF_;replace je:=Cd.mono _ SF_ je;replace jS:=Cd.mono _ SF_ jS;replace X:=Ext.trans X E;replace je:=E.xc je;replace jS:=E.xc jS;replace Ah:=Ah.mono E;replace qb:=E.xc qb;replace SL0:=E.xd SL0;refine(kZ (K:=K) (jN jjO (qy (Qi (eV (i:=4) qb))) rfl) X Hm ?_);intro place F H Hm E X;replace je:=E.xc je;replace jS:=E.xc jS;replace Ah:=Ah.mono E;replace qb:=E.xc qb;replace SL0:=E.xd SL0;refine(jbt (K:=K) (k':=2) rfl Ah (eI (i:=3)) (eI (i:=5)) X Hm ?_);intro moved F H Hm Cg X Ah;replace je:=Cd.mono _ Cg.f je;replace jS:=Cd.mono _ Cg.f jS;replace qb:=Cd.mono _ Cg.f qb;replace SL0:=Same.trans SL0 Cg.f;refine(kZ (K:=K) (jk U1 (eV (i:=1) jS) (eI (i:=5)) rfl) X Hm ?_);intro gap F H Hm E X;replace je:=E.xc je;replace jS:=E.xc jS;replace Ah:=Ah.mono E;replace qb:=E.xc qb;replace SL0:=E.xd SL0;refine(U5 (K:=K) (c:=(cL cI)) (GX (qI (eV (i:=1) jS) (x8 (kq yY (eV (i:=0) je) (eI (i:=3)) rfl)) rfl)) X Hm ?_);intro higher zt F H Hm E X qb;replace Ah:=Ah.mono E;replace SL0:=E.xd SL0;cases Hm;exact⟨F,_,_,_,rfl,⟨X,SL0⟩,Ah,qb⟩
  ·rintro⟨moved,gap,higher⟩ σ_ F_ H_ F H ⟨xT,zt,w3_,rfl,⟨X,SF_⟩,Ah,qb⟩ E Hm
   try dsimp only at Hm
   replace X:=Ext.trans X E;replace Ah:=Ah.mono E;exact kd (K:=K) (yJ Y_ (qy (x8 (jk jfN (x8 (Wi (qy (ko (p:=pB cI) (i:=2) rfl Ah.b)) (kx (jp _) rfl) xQ rfl)) (x8 (xk (ku (eI (i:=3)) (qD (c:=cI)) rfl) (by decide))) rfl))) rfl) X Hm Kk
theorem QE:FnScope ["self","one"] ["self","one"] (jo ((jG (top 36) 0))):=scK
theorem YG (B:BiX P w K mg base) (Aa:Ad K mg jb) (Ai:An K mg ju) (Fn:Fun K "done" "Slide.done" ((jG (top 36) 0)) f fd) (qx:Ge P w K mg base jb) (WB:je8 P w K mg base jb):FnOk P w K mg base CX0 4 f fd ["self","one"] (sp2 K (pF (kO jb ju)) (pF (cT cI)) (rF (cT cI)) kT):=by
  refine(ok2 Fn QE fun cdv A outer s H0 Q E_ hr nd hu self one kJ qw Fe R X jy jD Hm Kk=>?_);refine⟨_,(jh (kj (pD_ qx hr (jc (xC (pv 0) rfl) (jc (pv 1) jl)))) (jn (j6 (pD_ WB hr (jc (xC (pv 0) rfl) (jc (pv 1) jl)))))),?_⟩
  try dsimp only[qe]
  unfold kT at Hm;replace jy:(kO jb ju).rep K Fe self kJ:=jy;replace jD:(cT cI).rep K Fe one qw:=jD;refine(zI (K:=K) (jz (jX (qJ Ai) (eV (i:=0) jy) rfl) (eV (i:=1) jD) rfl) X Hm ?_);intro _ F H Hm E X;replace jy:=E.xc jy;replace jD:=E.xc jD;exact kd (K:=K) (jz (jX (qJ Ai) (eV (i:=0) jy) rfl) (eV (i:=1) jD) rfl) X Hm Kk
theorem QF:FnScope ["self","one","row","end"] ["self","one"] (jo ((jG (top 37) 0))):=scK
theorem YH (B:BiX P w K mg base) (Aj:Ao K mg jr) (Aa:Ad K mg jb) (Fn:Fun K "done" "Above.done" ((jG (top 37) 0)) f fd) (qx:Ge P w K mg base jb) (WB:je8 P w K mg base jb):FnOk P w K mg base CX0 4 f fd ["self","one"] (sp2 K (pF (kP jb jr)) (pF (cT cI)) (rF (cT cI)) kU):=by
  refine(ok2 Fn QF fun cdv A outer s H0 Q E_ hr nd hu self one kJ qw Fe R X jy jD Hm Kk=>?_);refine⟨_,(jh (kj (pD_ qx hr (jc (xC (pv 0) rfl) (jc (pv 1) jl)))) (jh (pS (i:=2) nd (pv 1)) (jh (qQ PassesOwn.never rfl (jex rfl B.range_ (jc (kB jQ B.len_ (pv 1)) (jc jq (jc (jc7 YS jq) jl)))) (pG (i:=3) nd) (jn (pS (i:=2) nd (jL zj (pD_ WB hr (jc (xC (pv 0) rfl) (jc (qV yz (pv 2) xO (xP (pv 3))) jl))) (qV yz (pv 2) (xP (pv 3)) xO))))) (jn (j6 (pv 2)))))),?_⟩
  try dsimp only[qe]
  unfold kU at Hm;replace jy:(kP jb jr).rep K Fe self kJ:=jy;replace jD:(cT cI).rep K Fe one qw:=jD;refine(zI (K:=K) (jz (jX (yb Aj) (eV (i:=0) jy) rfl) (eV (i:=1) jD) rfl) X Hm ?_);intro _ F H Hm E X;replace jy:=E.xc jy;replace jD:=E.xc jD;refine(yF (K:=K) (c:=(cT cI)) (eV (i:=1) jD) X Hm ?_);intro row yO F H Hm E X jS;replace jy:=E.xc jy;replace jD:=E.xc jD;refine JU (K:=K) (c:=cI) ?_ X Hm (fun F1 row σ' F' H'=>∃ (yO:V) (w1_:Option V),σ'=[some kJ,some qw,some yO,w1_]/\(Ext Fe H0 F' H'/\Same F1 F')/\(cT cI).rep K F' row yO) ?_ ?_ ?_ ?_
  ·exact(jaH (jN Y9 (ko (p:=pF (cT cI)) (i:=1) rfl jD) rfl) (jp _) (GY o_u (jp _) rfl) rfl)
  ·intro F H E X;replace jS:=E.xc jS;exact⟨_,_,rfl,⟨X,(Same.refl _)⟩,jS⟩
  ·rintro F1 row σ_ F_ H_ ⟨yO,w1_,rfl,⟨X_,SF_⟩,jS⟩;exact⟨X_,SF_⟩
  ·rintro F1 S0_ row B_ end_ jkB σ_ F_ H_ F H ⟨yO,w1_,rfl,⟨X,SF_⟩,jS⟩ E jkC Hm
   try dsimp only at Hm
   have SL0:=SF_;replace SF_:=Same.trans S0_ SF_;replace jy:=Cd.mono _ SF_ jy;replace X:=Ext.trans X E;replace jy:=E.xc jy;replace jS:=E.xc jS;replace SL0:=E.xd SL0;obtain rfl:jkB=.int end_:=jkC;refine xD ?_;refine(U5 (K:=K) (c:=(cT cI)) (j1 Ua (jz (jX (yb Aj) (eV (i:=0) jy) rfl) (ql (eV (i:=2) jS) xQ (kx (eI (i:=3)) rfl) rfl) rfl) (ql (eV (i:=2) jS) (kx (eI (i:=3)) rfl) xQ rfl) rfl) X Hm ?_);intro row yO F H Hm E X jS;replace SL0:=E.xd SL0;cases Hm;exact⟨F,_,_,rfl,⟨X,SL0⟩,jS⟩
  ·rintro F1 S0_ row σ_ F H Hm ⟨yO,w1_,rfl,⟨X,SF_⟩,jS⟩
   try dsimp only at Hm
   exact kd (K:=K) (eV (i:=2) jS) X Hm Kk
theorem J1:FnScope ["self","thing"] ["self","thing"] (jo ((jG (top 15) 5))):=scK
theorem J7 (B:BiX P w K mg base) (Aa:Ad K mg jb) (Fn:Fun K "just_below" "Order.just_below" ((jG (top 15) 5)) f fd) (kM:yI P w K mg base jb):FnOk P w K mg base CX0 2 f fd ["self","thing"] (sp2 K (pF (jC jb)) (pF cI) (rO cI) kf):=by
  refine(ok2 Fn J1 fun cdv A outer s H0 Q E_ hr nd hu self thing kJ kD Fe R X jy kE Hm Kk=>?_);refine⟨_,(jh (kj (ze kM (hr.mono (by decide)) (pv 0) (jc (pv 1) jl))) (jn (j6 (yy (own:=["low","high"]) (ix:=[1]) (GD rfl) rfl (ja7 (xC (pv 0) rfl)) (fun _=>(UM rfl (xi (xN (i:=0) (show List.Nodup (["low","high","thing"]:List Str) by decide +kernel) rfl (Or.inl rfl)) (xi (xN (i:=1) (show List.Nodup (["low","high","thing"]:List Str) by decide +kernel) rfl (Or.inl rfl)) JP)))) (fun _=>US (j9 zz (pv 1) (pv 2) (ky _))) (fun _=>(pv 0)))))),?_⟩
  try dsimp only[qe]
  unfold kf at Hm;replace jy:(jC jb).rep K Fe self kJ:=jy;obtain rfl:kD=.int thing:=kE;refine(zI (K:=K) (kq yH (eV (i:=0) jy) (eI (i:=1)) rfl) X Hm ?_);intro _ F H Hm E X;replace jy:=E.xc jy;exact kd (K:=K) (Qj (jhl (jX (yG Aa) (eV (i:=0) jy) rfl)) [some (.int thing)] rfl (fun b2 low high _ _ E1=>(qH (jk zA (eI (i:=1)) (eI (i:=2)) rfl))) (fun b2 low high _ _ E1=>(eI (i:=0))) rfl) X Hm Kk
theorem ZY:FnScope ["order","row","moved","gap","lower","place"] ["order","row"] (jo (top 33)):=scK
theorem ZZ (B:BiX P w K mg base) (Aa:Ad K mg jb) (Fn:Fun K "slid_back" "slid_back" (top 33) f fd) (xn:Mth P w K mg base jb "just_below" 2 ["self","thing"] (sp2 K (pF (jC jb)) (pF cI) (rO cI) kf)) (kY:GF P w K mg base):FnOk P w K mg base CX0 3 f fd ["order","row"] (sp2 K (pF (jC jb)) (pF (cT cI)) (rF (cT cI)) q9):=by
  refine(ok2 Fn ZY fun cdv A outer s H0 Q E_ hr nd hu order row jU yO Fe R X je jS Hm Kk=>?_);refine⟨_,(jh (pS (i:=2) nd (cY GV B.list_ (pv 1))) (jh (pS (i:=3) nd (pX GU (pv 1) (jc7 YS jq))) (jh (pS (i:=4) nd (pD_ kY hr (jc (pv 1) (jc (ze xn (hr.mono (by decide)) (pv 0) (jc (pv 3) jl)) jl)))) (jh (WD PassesOwn.never (j9 YT (kB jQ B.len_ (pv 4)) jq (ky _)) (jh (pS (i:=5) nd (kB (jek rfl) B.max_ (pv 4))) (jh (jc2 (pv 3) (jg2 (pv 2) (pv 5) jbc)) (jh (pS (i:=3) nd (pX GU (pv 1) (pv 5))) (jn (pS (i:=4) nd (pD_ kY hr (jc (pv 1) (jc (ze xn (hr.mono (by decide)) (pv 0) (jc (pv 3) jl)) jl))))))))) (jn (j6 (cY x6 B.tuple_ (jL jbd (xj (jc (pv 3) jl)) (qV Z9 (pv 2) xO (xP (jc7 YS jq))))))))))),?_⟩
  try dsimp only[qe]
  unfold q9 at Hm;replace je:(jC jb).rep K Fe order jU:=je;replace jS:(cT cI).rep K Fe row yO:=jS;refine(yq (K:=K) (jN jdG (eV (i:=1) jS) rfl) X Hm ?_);intro moved xT F H Hm E X Hn Ah;replace je:=E.xc je;replace jS:=E.xc jS;refine(kZ (K:=K) (jk U1 (eV (i:=1) jS) (GY o_u (jp _) rfl) rfl) X Hm ?_);intro gap F H Hm E X;replace je:=E.xc je;replace jS:=E.xc jS;replace Ah:=Ah.mono E;refine(yF (K:=K) (c:=(cL cI)) (GX (qI (eV (i:=1) jS) (x8 (kq yZ (eV (i:=0) je) (eI (i:=3)) rfl)) rfl)) X Hm ?_);intro lower Jm F H Hm E X xa;replace je:=E.xc je;replace jS:=E.xc jS;replace Ah:=Ah.mono E;refine jat (K:=K) X Hm (fun F1 b σ' F' H'=>match b with | (moved,gap,lower)=>∃ (xT:Addr) (Jm:V) (w3_:Option V),σ'=[some jU,some yO,some (.ref xT),some (.int gap),some Jm,w3_]/\(Ext Fe H0 F' H'/\Same F1 F')/\Own K H0 F' H' cI moved xT/\(cL cI).rep K F' lower Jm) ?_ ?_ ?_ ?_ ?_
  ·exact⟨_,_,_,rfl,⟨X,(Same.refl _)⟩,Ah,xa⟩
  ·rintro F1 ⟨moved,gap,lower⟩ σ_ F_ H_ ⟨xT,Jm,w3_,rfl,⟨X_,SF_⟩,Ah,xa⟩;exact⟨X_,SF_⟩
  ·rintro⟨moved,gap,lower⟩ σ_ F H ⟨xT,Jm,w3_,rfl,⟨X,SF_⟩,Ah,xa⟩;exact(qH (jk zf (jN yp (qy (Qi (ko (p:=pF (cL cI)) (i:=4) rfl xa))) rfl) (jp _) rfl))
  ·rintro⟨moved,gap,lower⟩ B_ σ_ F_ H_ F H ⟨xT,Jm,w3_,rfl,⟨X,SF_⟩,Ah,xa⟩ E Hm
   try dsimp only at Hm
   have SL0:=SF_;replace je:=Cd.mono _ SF_ je;replace jS:=Cd.mono _ SF_ jS;replace X:=Ext.trans X E;replace je:=E.xc je;replace jS:=E.xc jS;replace Ah:=Ah.mono E;replace xa:=E.xc xa;replace SL0:=E.xd SL0;refine(kZ (K:=K) (jN jjP (qy (Qi (eV (i:=4) xa))) rfl) X Hm ?_);intro place F H Hm E X;replace je:=E.xc je;replace jS:=E.xc jS;replace Ah:=Ah.mono E;replace xa:=E.xc xa;replace SL0:=E.xd SL0;refine(jbt (K:=K) (k':=2) rfl Ah (eI (i:=3)) (eI (i:=5)) X Hm ?_);intro moved F H Hm Cg X Ah;replace je:=Cd.mono _ Cg.f je;replace jS:=Cd.mono _ Cg.f jS;replace xa:=Cd.mono _ Cg.f xa;replace SL0:=Same.trans SL0 Cg.f;refine(kZ (K:=K) (jk U1 (eV (i:=1) jS) (eI (i:=5)) rfl) X Hm ?_);intro gap F H Hm E X;replace je:=E.xc je;replace jS:=E.xc jS;replace Ah:=Ah.mono E;replace xa:=E.xc xa;replace SL0:=E.xd SL0;refine(U5 (K:=K) (c:=(cL cI)) (GX (qI (eV (i:=1) jS) (x8 (kq yZ (eV (i:=0) je) (eI (i:=3)) rfl)) rfl)) X Hm ?_);intro lower Jm F H Hm E X xa;replace Ah:=Ah.mono E;replace SL0:=E.xd SL0;cases Hm;exact⟨F,_,_,_,rfl,⟨X,SL0⟩,Ah,xa⟩
  ·rintro⟨moved,gap,lower⟩ σ_ F_ H_ F H ⟨xT,Jm,w3_,rfl,⟨X,SF_⟩,Ah,xa⟩ E Hm
   try dsimp only at Hm
   replace X:=Ext.trans X E;replace Ah:=Ah.mono E;exact kd (K:=K) (yJ Y_ (qy (x8 (jk jfN (x8 (xk (ku (eI (i:=3)) (qD (c:=cI)) rfl) (by decide))) (x8 (Wi (qy (ko (p:=pB cI) (i:=2) rfl Ah.b)) xQ (kx (GY o_u (jp _) rfl) rfl) rfl)) rfl))) rfl) X Hm Kk
theorem QG:FnScope ["self","one","row","start"] ["self","one"] (jo ((jG (top 38) 0))):=scK
theorem YI (B:BiX P w K mg base) (Ak:Ap K mg js) (Aa:Ad K mg jb) (Fn:Fun K "done" "Below.done" ((jG (top 38) 0)) f fd) (qx:Ge P w K mg base jb) (J_:Def P w K mg base "slid_back" 3 ["order","row"] (sp2 K (pF (jC jb)) (pF (cT cI)) (rF (cT cI)) q9)):FnOk P w K mg base CX0 4 f fd ["self","one"] (sp2 K (pF (kQ jb js)) (pF (cT cI)) (rF (cT cI)) kW):=by
  refine(ok2 Fn QG fun cdv A outer s H0 Q E_ hr nd hu self one kJ qw Fe R X jy jD Hm Kk=>?_);refine⟨_,(jh (kj (pD_ qx hr (jc (xC (pv 0) rfl) (jc (pv 1) jl)))) (jh (pS (i:=2) nd (pv 1)) (jh (qQ PassesOwn.never rfl (kA rfl B.range_ (jc (jL GR (kB jQ B.len_ (pv 1)) jq) jl)) (pG (i:=3) nd) (jn (pS (i:=2) nd (jL zj (qV yz (pv 2) xO (xP (pv 3))) (pD_ J_ hr (jc (xC (pv 0) rfl) (jc (qV yz (pv 2) (xP (pv 3)) xO) jl))))))) (jn (j6 (pv 2)))))),?_⟩
  try dsimp only[qe]
  unfold kW at Hm;replace jy:(kQ jb js).rep K Fe self kJ:=jy;replace jD:(cT cI).rep K Fe one qw:=jD;refine(zI (K:=K) (jz (jX (yd Ak) (eV (i:=0) jy) rfl) (eV (i:=1) jD) rfl) X Hm ?_);intro _ F H Hm E X;replace jy:=E.xc jy;replace jD:=E.xc jD;refine(yF (K:=K) (c:=(cT cI)) (eV (i:=1) jD) X Hm ?_);intro row yO F H Hm E X jS;replace jy:=E.xc jy;replace jD:=E.xc jD;refine JU (K:=K) (c:=cI) ?_ X Hm (fun F1 row σ' F' H'=>∃ (yO:V) (w1_:Option V),σ'=[some kJ,some qw,some yO,w1_]/\(Ext Fe H0 F' H'/\Same F1 F')/\(cT cI).rep K F' row yO) ?_ ?_ ?_ ?_
  ·exact(qf (jk ki (jN Y9 (ko (p:=pF (cT cI)) (i:=1) rfl jD) rfl) (jp _) rfl) rfl)
  ·intro F H E X;replace jS:=E.xc jS;exact⟨_,_,rfl,⟨X,(Same.refl _)⟩,jS⟩
  ·rintro F1 row σ_ F_ H_ ⟨yO,w1_,rfl,⟨X_,SF_⟩,jS⟩;exact⟨X_,SF_⟩
  ·rintro F1 S0_ row B_ zF ji6 σ_ F_ H_ F H ⟨yO,w1_,rfl,⟨X,SF_⟩,jS⟩ E ji7 Hm
   try dsimp only at Hm
   have SL0:=SF_;replace SF_:=Same.trans S0_ SF_;replace jy:=Cd.mono _ SF_ jy;replace X:=Ext.trans X E;replace jy:=E.xc jy;replace jS:=E.xc jS;replace SL0:=E.xd SL0;obtain rfl:ji6=.int zF:=ji7;refine xD ?_;refine(U5 (K:=K) (c:=(cT cI)) (j1 Ua (ql (eV (i:=2) jS) xQ (kx (eI (i:=3)) rfl) rfl) (jz (jX (yd Ak) (eV (i:=0) jy) rfl) (ql (eV (i:=2) jS) (kx (eI (i:=3)) rfl) xQ rfl) rfl) rfl) X Hm ?_);intro row yO F H Hm E X jS;replace SL0:=E.xd SL0;cases Hm;exact⟨F,_,_,rfl,⟨X,SL0⟩,jS⟩
  ·rintro F1 S0_ row σ_ F H Hm ⟨yO,w1_,rfl,⟨X,SF_⟩,jS⟩
   try dsimp only at Hm
   exact kd (K:=K) (eV (i:=2) jS) X Hm Kk
theorem VA (B:BiX P w K mg base) (Aa:Ad K mg jb) (Fn:Fun K "check_line" "check_line" (top 27) f fd) (zT:Wy P w K mg base jb) (Y_NoLine:MDef0 K mg cs "NoLine" 4):FnOk P w K mg base (CX1 P w) 3 f fd ["order","line"] (zY K (pF (jC jb)) (pF (cT cI)) cs qp):=by
  refine(YM Fn QD fun cdv A outer s H0 Q E_ hr nd hu order line jU WA Fe R X je kz Hm Kk=>?_);have hgd:=hr.gd;obtain⟨qF,h_NoLine,m_NoLine,jgV⟩:=Y_NoLine.ex;refine⟨_,(jn (qE (GB (zE (pD_ zT hr (jc (pv 0) (jc (pv 1) jl))))) (jn (jeF (cxOf_def.wish _) rfl jhq jgV rfl m_NoLine (jc (jiG (jj2 hgd hu (pv 1) (jjY jjX))) jl))) kg)),?_⟩
  try dsimp only[GO]
  unfold qp at Hm;replace je:(jC jb).rep K Fe order jU:=je;replace kz:(cT cI).rep K Fe line WA:=kz;refine(jad (K:=K) (yK (yU (jz (eV (i:=0) je) (eV (i:=1) kz) rfl)) rfl) X Hm ?_ ?_)
  ·intro F H Hm E X
   try dsimp only[cond_true] at Hm
   replace kz:=E.xc kz;exact jeG (K:=K) (jiH (jj3 (eV (i:=1) kz) (jj1 jj0)) rfl) X Hm h_NoLine Kk
  ·intro F H Hm E X
   try dsimp only[cond_false] at Hm
   refine GP ?_;cases Hm
theorem VB (B:BiX P w K mg base) (Aa:Ad K mg jb) (Ai:An K mg ju) (Fn:Fun K "done" "Slide.done" ((jG (top 36) 0)) f fd) (DE_check_line:xL P w K mg base cs jb):FnOk P w K mg base (CX1 P w) 4 f fd ["self","one"] (zY K (pF (kO jb ju)) (pF (cT cI)) cs qS):=by
  refine(YM Fn QE fun cdv A outer s H0 Q E_ hr nd hu self one kJ qw Fe R X jy jD Hm Kk=>?_);refine⟨_,(jh (kj (xE cxOf_def DE_check_line (hr.mono (by decide)) rfl (jc (xC (pv 0) rfl) (jc (pv 1) jl)))) qo),?_⟩
  try dsimp only[GO]
  unfold qS at Hm;replace jy:(kO jb ju).rep K Fe self kJ:=jy;replace jD:(cT cI).rep K Fe one qw:=jD;rcases JB Hm with Hm | Hm
  ·exact QW (K:=K) (kG (jX (qJ Ai) (eV (i:=0) jy) rfl) (eV (i:=1) jD)) X Hm Kk
  ·refine(zI (K:=K) (zM (jX (qJ Ai) (eV (i:=0) jy) rfl) (eV (i:=1) jD)) X Hm ?_);intro _ F H Hm E X;cases Hm
theorem VC (B:BiX P w K mg base) (Aj:Ao K mg jr) (Aa:Ad K mg jb) (Fn:Fun K "done" "Above.done" ((jG (top 37) 0)) f fd) (DE_check_line:xL P w K mg base cs jb):FnOk P w K mg base (CX1 P w) 4 f fd ["self","one"] (zY K (pF (kP jb jr)) (pF (cT cI)) cs qr):=by
  refine(YM Fn QF fun cdv A outer s H0 Q E_ hr nd hu self one kJ qw Fe R X jy jD Hm Kk=>?_);refine⟨_,(jh (kj (xE cxOf_def DE_check_line (hr.mono (by decide)) rfl (jc (xC (pv 0) rfl) (jc (pv 1) jl)))) qo),?_⟩
  try dsimp only[GO]
  unfold qr at Hm;replace jy:(kP jb jr).rep K Fe self kJ:=jy;replace jD:(cT cI).rep K Fe one qw:=jD;rcases JB Hm with Hm | Hm
  ·exact QW (K:=K) (kG (jX (yb Aj) (eV (i:=0) jy) rfl) (eV (i:=1) jD)) X Hm Kk
  ·refine(zI (K:=K) (zM (jX (yb Aj) (eV (i:=0) jy) rfl) (eV (i:=1) jD)) X Hm ?_);intro _ F H Hm E X;cases Hm
theorem VD (B:BiX P w K mg base) (Ak:Ap K mg js) (Aa:Ad K mg jb) (Fn:Fun K "done" "Below.done" ((jG (top 38) 0)) f fd) (DE_check_line:xL P w K mg base cs jb):FnOk P w K mg base (CX1 P w) 4 f fd ["self","one"] (zY K (pF (kQ jb js)) (pF (cT cI)) cs qt):=by
  refine(YM Fn QG fun cdv A outer s H0 Q E_ hr nd hu self one kJ qw Fe R X jy jD Hm Kk=>?_);refine⟨_,(jh (kj (xE cxOf_def DE_check_line (hr.mono (by decide)) rfl (jc (xC (pv 0) rfl) (jc (pv 1) jl)))) qo),?_⟩
  try dsimp only[GO]
  unfold qt at Hm;replace jy:(kQ jb js).rep K Fe self kJ:=jy;replace jD:(cT cI).rep K Fe one qw:=jD;rcases JB Hm with Hm | Hm
  ·exact QW (K:=K) (kG (jX (yd Ak) (eV (i:=0) jy) rfl) (eV (i:=1) jD)) X Hm Kk
  ·refine(zI (K:=K) (zM (jX (yd Ak) (eV (i:=0) jy) rfl) (eV (i:=1) jD)) X Hm ?_);intro _ F H Hm E X;cases Hm
theorem GK:FnScope ["self","one"] ["self","one"] (jo ((jG (top 36) 1))):=scK
theorem Ux (B:BiX P w K mg base) (Aa:Ad K mg jb) (Ai:An K mg ju) (Fn:Fun K "back" "Slide.back" ((jG (top 36) 1)) f fd):FnOk P w K mg base CX0 1 f fd ["self","one"] (sp2 K (pF (kO jb ju)) (pF (cT cI)) (rF cU) y3):=by
 refine Fn.ok GK (fun vs H Q E h=>?_) (fun cdv A outer s H0 vs Q E_ hr h=>?_)
 ·obtain⟨_,_,_,_,_,_,rfl,_⟩:=h;rfl
 ·obtain⟨self,one,kJ,qw,Fe,R,rfl,S_,jy,jD,Hm,Kk⟩:=h;unfold y3 at Hm;cases Hm
theorem QH (B:BiX P w K mg base) (Aa:Ad K mg jb) (Ai:An K mg ju) (Fn:Fun K "back" "Slide.back" ((jG (top 36) 1)) f fd) (DE_check_line:xL P w K mg base cs jb):FnOk P w K mg base (CX1 P w) 4 f fd ["self","one"] (zY K (pF (kO jb ju)) (pF (cT cI)) cs qh):=by
  refine(YM Fn GK fun cdv A outer s H0 Q E_ hr nd hu self one kJ qw Fe R X jy jD Hm Kk=>?_);refine⟨_,(jh (kj (xE cxOf_def DE_check_line (hr.mono (by decide)) rfl (jc (xC (pv 0) rfl) (jc (pv 1) jl)))) qo),?_⟩
  try dsimp only[GO]
  unfold qh at Hm;replace jy:(kO jb ju).rep K Fe self kJ:=jy;replace jD:(cT cI).rep K Fe one qw:=jD;rcases JB Hm with Hm | Hm
  ·exact QW (K:=K) (kG (jX (qJ Ai) (eV (i:=0) jy) rfl) (eV (i:=1) jD)) X Hm Kk
  ·refine(zI (K:=K) (zM (jX (qJ Ai) (eV (i:=0) jy) rfl) (eV (i:=1) jD)) X Hm ?_);intro _ F H Hm E X;cases Hm
theorem GL:FnScope ["self","one"] ["self","one"] (jo ((jG (top 37) 1))):=scK
theorem Uy (B:BiX P w K mg base) (Aj:Ao K mg jr) (Aa:Ad K mg jb) (Fn:Fun K "back" "Above.back" ((jG (top 37) 1)) f fd):FnOk P w K mg base CX0 1 f fd ["self","one"] (sp2 K (pF (kP jb jr)) (pF (cT cI)) (rF cU) y6):=by
 refine Fn.ok GL (fun vs H Q E h=>?_) (fun cdv A outer s H0 vs Q E_ hr h=>?_)
 ·obtain⟨_,_,_,_,_,_,rfl,_⟩:=h;rfl
 ·obtain⟨self,one,kJ,qw,Fe,R,rfl,S_,jy,jD,Hm,Kk⟩:=h;unfold y6 at Hm;cases Hm
theorem QI (B:BiX P w K mg base) (Aj:Ao K mg jr) (Aa:Ad K mg jb) (Fn:Fun K "back" "Above.back" ((jG (top 37) 1)) f fd) (DE_Above_done:yB P w K mg base cs jr jb):FnOk P w K mg base (CX1 P w) 5 f fd ["self","one"] (zY K (pF (kP jb jr)) (pF (cT cI)) cs qi):=by
  refine(YM Fn GL fun cdv A outer s H0 Q E_ hr nd hu self one kJ qw Fe R X jy jD Hm Kk=>?_);refine⟨_,(jn (j6 (ya cxOf_def DE_Above_done (hr.mono (by decide)) (pv 0) (jc (pv 1) jl)))),?_⟩
  try dsimp only[GO]
  unfold qi at Hm;replace jy:(kP jb jr).rep K Fe self kJ:=jy;replace jD:(cT cI).rep K Fe one qw:=jD;exact W4 (K:=K) (k6 yc (eV (i:=0) jy) (eV (i:=1) jD)) X Hm Kk
theorem GM:FnScope ["self","one"] ["self","one"] (jo ((jG (top 38) 1))):=scK
theorem Uz (B:BiX P w K mg base) (Ak:Ap K mg js) (Aa:Ad K mg jb) (Fn:Fun K "back" "Below.back" ((jG (top 38) 1)) f fd):FnOk P w K mg base CX0 1 f fd ["self","one"] (sp2 K (pF (kQ jb js)) (pF (cT cI)) (rF cU) y7):=by
 refine Fn.ok GM (fun vs H Q E h=>?_) (fun cdv A outer s H0 vs Q E_ hr h=>?_)
 ·obtain⟨_,_,_,_,_,_,rfl,_⟩:=h;rfl
 ·obtain⟨self,one,kJ,qw,Fe,R,rfl,S_,jy,jD,Hm,Kk⟩:=h;unfold y7 at Hm;cases Hm
theorem QJ (B:BiX P w K mg base) (Ak:Ap K mg js) (Aa:Ad K mg jb) (Fn:Fun K "back" "Below.back" ((jG (top 38) 1)) f fd) (DE_Below_done:yC P w K mg base cs js jb):FnOk P w K mg base (CX1 P w) 5 f fd ["self","one"] (zY K (pF (kQ jb js)) (pF (cT cI)) cs qj):=by
  refine(YM Fn GM fun cdv A outer s H0 Q E_ hr nd hu self one kJ qw Fe R X jy jD Hm Kk=>?_);refine⟨_,(jn (j6 (ya cxOf_def DE_Below_done (hr.mono (by decide)) (pv 0) (jc (pv 1) jl)))),?_⟩
  try dsimp only[GO]
  unfold qj at Hm;replace jy:(kQ jb js).rep K Fe self kJ:=jy;replace jD:(cT cI).rep K Fe one qw:=jD;exact W4 (K:=K) (k6 ye (eV (i:=0) jy) (eV (i:=1) jD)) X Hm Kk
theorem Je:FnScope ["turn","one","circle","following"] ["turn","one"] (jo (top 40)):=scK
theorem VE (B:BiX P w K mg base) (Aj:Ao K mg jr) (Ak:Ap K mg js) (Aa:Ad K mg jb) (Ai:An K mg ju) (Fn:Fun K "round_of" "round_of" (top 40) f fd):FnOk P w K mg base CX0 1 f fd ["turn","one"] (sp2 K (pF (zc (kO jb ju) (zc (kP jb jr) (kQ jb js)))) (pF (cT cI)) (rF cU) zC):=by
 refine Fn.ok Je (fun vs H Q E h=>?_) (fun cdv A outer s H0 vs Q E_ hr h=>?_)
 ·obtain⟨_,_,_,_,_,_,rfl,_⟩:=h;rfl
 ·obtain⟨turn,one,xZ,qw,Fe,R,rfl,S_,jj,jD,Hm,Kk⟩:=h;unfold zC at Hm;cases Hm
theorem Q4 (B:BiX P w K mg base) (Aj:Ao K mg jr) (Ak:Ap K mg js) (Aa:Ad K mg jb) (Ai:An K mg ju) (Fn:Fun K "round_of" "round_of" (top 40) f fd) (DE_Slide_done:GG P w K mg base cs jb ju) (DE_Above_done:yB P w K mg base cs jr jb) (DE_Below_done:yC P w K mg base cs js jb):FnOk P w K mg base (CX1 P w) 5 f fd ["turn","one"] (zY K (pF (zc (kO jb ju) (zc (kP jb jr) (kQ jb js)))) (pF (cT cI)) cs qB):=by
  refine(YM Fn Je fun cdv A outer s H0 Q E_ hr nd hu turn one xZ qw Fe R X jj jD Hm Kk=>?_);refine⟨_,(jh (pS (i:=2) nd (xj (jc (pv 1) jl))) (jh (pS (i:=3) nd (JK (ya cxOf_def DE_Slide_done (hr.mono (by decide)) (pv 0) (jc (pv 1) jl)) (JK (ya cxOf_def DE_Above_done (hr.mono (by decide)) (pv 0) (jc (pv 1) jl)) (ya cxOf_def DE_Below_done (hr.mono (by decide)) (pv 0) (jc (pv 1) jl))))) qo)),?_⟩
  try dsimp only[GO]
  unfold qB at Hm;replace jj:(zc (kO jb ju) (zc (kP jb jr) (kQ jb js))).rep K Fe turn xZ:=jj;replace jD:(cT cI).rep K Fe one qw:=jD;refine(yq (K:=K) (xk (ku (eV (i:=1) jD) (qD (c:=(cT cI))) rfl) (by decide)) X Hm ?_);intro circle jgT F H Hm E X Hn jgU;replace jj:=E.xc jj;replace jD:=E.xc jD;exact Wu (K:=K) (QX jj (fun o1 jj=>(k6 yN (eV (i:=0) jj) (eV (i:=1) jD))) (fun o2 jj=>(QX jj (fun o3 jj=>(k6 yc (eV (i:=0) jj) (eV (i:=1) jD))) (fun o4 jj=>(k6 ye (eV (i:=0) jj) (eV (i:=1) jD)))))) X Hm Kk
theorem zS:FnScope ["turn","ones","found","gone_through","one","circle","other"] ["turn","ones"] (jo (top 41)):=scK
theorem Q5 (B:BiX P w K mg base) (Aj:Ao K mg jr) (Ak:Ap K mg js) (Aa:Ad K mg jb) (Ai:An K mg ju) (Fn:Fun K "all_rounds" "all_rounds" (top 41) f fd):FnOk P w K mg base CX0 1 f fd ["turn","ones"] (sp2 K (pF (zc (kO jb ju) (zc (kP jb jr) (kQ jb js)))) (pB (cT cI)) (rF cU) yA):=by
 refine Fn.ok zS (fun vs H Q E h=>?_) (fun cdv A outer s H0 vs Q E_ hr h=>?_)
 ·obtain⟨_,_,_,_,_,_,rfl,_⟩:=h;rfl
 ·obtain⟨turn,ones,xZ,VJ,Fe,R,rfl,S_,jj,VL,Hm,Kk⟩:=h;unfold yA at Hm;cases Hm
theorem J8 (B:BiX P w K mg base) (Aj:Ao K mg jr) (Ak:Ap K mg js) (Aa:Ad K mg jb) (Ai:An K mg ju) (Fn:Fun K "all_rounds" "all_rounds" (top 41) f fd) (DE_round_of_nv2:zr P w K mg base cs jr js jb ju):FnOk P w K mg base (CX1 P w) 6 f fd ["turn","ones"] (zY K (pF (zc (kO jb ju) (zc (kP jb jr) (kQ jb js)))) (pB (cT cI)) cs qm):=by
  refine(YM Fn zS fun cdv A outer s H0 Q E_ hr nd hu turn ones xZ VJ Fe R X jj VL Hm Kk=>?_);refine⟨_,(jh (pS (i:=2) nd (xj jl)) (jh (pS (i:=3) nd (jgv (fl:=Kt.fl (List Int)))) (jh (qQ (Qn cxOf_def) rfl (yS (pv 1)) (pG (i:=4) nd) (jn (qE (jgX (Zy (hu1 hu) (pv 4) (pv 3)) (by with_unfolding_all rfl)) (jh (pS (i:=5) nd (xE cxOf_def DE_round_of_nv2 (hr.mono (by decide)) rfl (jc (pv 0) (jc (pv 4) jl)))) qo) kg))) qo))),?_⟩
  try dsimp only[GO]
  unfold qm at Hm;replace jj:(zc (kO jb ju) (zc (kP jb jr) (kQ jb js))).rep K Fe turn xZ:=jj;have kX:Bor K H0 Fe (cT cI) ones VJ:=VL;clear VL;refine(yq (K:=K) (xk (qD (c:=cI)) (by decide)) X Hm ?_);intro found jK F H Hm E X Hn Ab;replace jj:=E.xc jj;replace kX:=E.xb kX;refine(jiJ (K:=K) (jgz (κ:=(List Int)) (c:=cI)) X Hm ?_);intro gone_through jZ F H Hm E X Hn Af;have jB:=Own.ne Ab Hn;have qa:=Ne.symm jB;replace jj:=E.xc jj;replace kX:=E.xb kX;replace Ab:=Ab.mono E;refine UC (K:=K) (c:=(cT cI)) (fun c=>c=R) ?_ X Hm ?_ (fun F1 b σ' F' H'=>match b with | (found,gone_through)=>∃ (jK:Addr) (jZ:Addr) (w1_:Option V) (w2_:Option V) (w3_:Option V),σ'=[some xZ,some VJ,some (.ref jK),some (.ref jZ),w1_,w2_,w3_]/\(Ext Fe H0 F' H'/\Same F1 F')/\Own K H0 F' H' cI found jK/\OwnDT K H0 F' H' cI gone_through jZ/\jK≠jZ) ?_ ?_ ?_ ?_
  ·exact(U3 (i:=1) rfl kX)
  ·intro c h;exact Option.some.inj h
  ·intro F H E X;replace Ab:=Ab.mono E;replace Af:=Af.mono E;exact⟨_,_,_,_,_,rfl,⟨X,(Same.refl _)⟩,Ab,Af,jB⟩
  ·rintro F1 ⟨found,gone_through⟩ σ_ F_ H_ ⟨jK,jZ,w1_,w2_,w3_,rfl,⟨X_,SF_⟩,Ab,Af,jB⟩;exact⟨X_,SF_⟩
  ·rintro F1 S0_ ⟨found,gone_through⟩ B_ one qw σ_ F_ H_ F H ⟨jK,jZ,w1_,w2_,w3_,rfl,⟨X,SF_⟩,Ab,Af,jB⟩ E jD Hm Hr
   try dsimp only at Hm
   have SL0:=SF_;replace SF_:=Same.trans S0_ SF_;replace jj:=Cd.mono _ SF_ jj;have qa:=Ne.symm jB;replace X:=Ext.trans X E;replace jj:=E.xc jj;replace Ab:=Ab.mono E;replace Af:=Af.mono E;replace SL0:=E.xd SL0;refine xD ?_;refine(Za (K:=K) (yU (jaL (eV (i:=4) jD) (ko (p:=pDT (κ:=(List Int)) cI) (i:=3) rfl Af.b) rfl)) X Hm ?_ ?_)
   ·intro F H Hc Hm E X;replace jj:=E.xc jj;replace jD:=E.xc jD;obtain⟨y_,Hy_,Hm⟩:=bind_some Hm;cases Hm;exact Wu (K:=K) (kG (eV (i:=0) jj) (eV (i:=4) jD)) X (Hy_.trans (congrArg some (Hr _ rfl))) Kk
   ·intro F H Hc Hm E X;replace Ab:=Ab.mono E;replace Af:=Af.mono E;replace SL0:=E.xd SL0;refine GP ?_;cases Hm;exact⟨_,F,rfl,_,_,_,_,_,rfl,⟨X,SL0⟩,Ab,Af,jB⟩
  ·rintro F1 S0_ ⟨found,gone_through⟩ σ_ F H Hm ⟨jK,jZ,w1_,w2_,w3_,rfl,⟨X,SF_⟩,Ab,Af,jB⟩
   try dsimp only at Hm
   have qa:=Ne.symm jB;cases Hm
theorem Ay:FnScope ["_law_turn","_law_one","_law_which","_law_told","e"] ["_law_turn","_law_one","_law_which"] (jo (top 52)):=scK
theorem V8 (B:BiX P w K mg base) (Aj:Ao K mg jr) (Ak:Ap K mg js) (Aa:Ad K mg jb) (Ai:An K mg ju) (Fn:Fun K "_law_said" "_law_said" (top 52) f fd) (DE_Slide_done:GG P w K mg base cs jb ju) (DE_Above_done:yB P w K mg base cs jr jb) (DE_Below_done:yC P w K mg base cs js jb) (DE_Slide_back_nv:MthE P w K mg base ju "back" 4 ["self","one"] (Vg (sp2 K (pF (kO jb ju)) (pF (cT cI)) (rF cU) y3) (zY K (pF (kO jb ju)) (pF (cT cI)) cs qh))) (DE_Above_back_nv:MthE P w K mg base jr "back" 5 ["self","one"] (Vg (sp2 K (pF (kP jb jr)) (pF (cT cI)) (rF cU) y6) (zY K (pF (kP jb jr)) (pF (cT cI)) cs qi))) (DE_Below_back_nv:MthE P w K mg base js "back" 5 ["self","one"] (Vg (sp2 K (pF (kQ jb js)) (pF (cT cI)) (rF cU) y7) (zY K (pF (kQ jb js)) (pF (cT cI)) cs qj))) (DE_round_of_nv2:zr P w K mg base cs jr js jb ju) (DE_all_rounds_nv2:DefE P w K mg base "all_rounds" 6 ["turn","ones"] (Vg (sp2 K (pF (zc (kO jb ju) (zc (kP jb jr) (kQ jb js)))) (pB (cT cI)) (rF cU) yA) (zY K (pF (zc (kO jb ju) (zc (kP jb jr) (kQ jb js)))) (pB (cT cI)) cs qm))) (m_NoDownset:mg "NoDownset"=some (.ref CT_NoDownset)) (x_NoDownset:zK K CT_NoDownset fo_NoDownset=true) (J9:jfj K CT_NoDownset cs [3]) {CT_NoLine:Addr}{fo_NoLine:Option Addr} (m_NoLine:mg "NoLine"=some (.ref CT_NoLine)) (x_NoLine:zK K CT_NoLine fo_NoLine=true) (jgW:jfj K CT_NoLine cs [4]) (xA:XCl K mg cs "ToggleError" [0,1,2,3,4]) (x4:mg "ValueError"=none/\jiw K cs (.type "ValueError") [0,1,2,3,4]) (Qa:XCl K mg cs "NoDownset" [3]):FnOk P w K mg base CX0 7 f fd ["_law_turn","_law_one","_law_which"] (sp3 K (pF (zc (kO jb ju) (zc (kP jb jr) (kQ jb js)))) (pF (cT cI)) (pF cI) (rF cF5) zo):=by
 refine Fn.ok0 Ay (fun vs H Q E h=>?_) (fun cdv A outer s H0 vs Q E_ hr h=>?_)
 ·obtain⟨_,_,_,_,_,_,_,_,rfl,_⟩:=h;rfl
 ·obtain⟨turn,one,which,xZ,qw,ja4,Fe,R,rfl,S_,jj,jD,ja5,Hm,Kk⟩:=h;have nd:=Ay.nd;have hu:=UW hr;obtain⟨Cq_ToggleError,mq_ToggleError,Iq_ToggleError⟩:=xA;obtain⟨mq_ValueError,Iq_ValueError⟩:=x4;obtain⟨Cq_NoDownset,mq_NoDownset,Iq_NoDownset⟩:=Qa;refine⟨_,(Qo (PS.z (pS (i:=3) nd (xH (jc Wc (jc jq jl))))) (Qo (jgC (i:=4) (cxOf_def.wish _) nd rfl rfl rfl m_NoDownset x_NoDownset rfl m_NoLine x_NoLine (fun Er_=>(jn (qE (j9 zz (pv 2) jq (ky _)) (jn (kj (JK (ya (cxOf_def.wish _) DE_Slide_done (hr.mono (by decide)) (pv 0) (jc (pv 1) jl)) (JK (ya (cxOf_def.wish _) DE_Above_done (hr.mono (by decide)) (pv 0) (jc (pv 1) jl)) (ya (cxOf_def.wish _) DE_Below_done (hr.mono (by decide)) (pv 0) (jc (pv 1) jl)))))) (jn (qE (j9 zz (pv 2) jq (ky _)) (jn (kj (JK (ya (cxOf_def.wish _) DE_Slide_back_nv (hr.mono (by decide)) (pv 0) (jc (pv 1) jl)) (JK (ya (cxOf_def.wish _) DE_Above_back_nv (hr.mono (by decide)) (pv 0) (jc (pv 1) jl)) (ya (cxOf_def.wish _) DE_Below_back_nv (hr.mono (by decide)) (pv 0) (jc (pv 1) jl)))))) (jn (qE (j9 zz (pv 2) jq (ky _)) (jn (kj (xE (cxOf_def.wish _) DE_round_of_nv2 (hr.mono (by decide)) rfl (jc (pv 0) (jc (pv 1) jl))))) (jn (kj (xE (cxOf_def.wish _) DE_all_rounds_nv2 (hr.mono (by decide)) rfl (jc (pv 0) (jc (xj (jc (pv 1) jl)) jl)))))))))))) (fun v_=>jn (pS (i:=3) nd (xH (jc Wc (jc jq (jc (xK yR rfl B.isinstance_ (by kernel_rfl) (jc (pv 4) (jc (zy (v:=.ref Cq_ToggleError) rfl mq_ToggleError rfl) jl))) (jc (xK yR rfl B.isinstance_ (by kernel_rfl) (jc (pv 4) (jc (jc0 (v:=.ty "ValueError") rfl mq_ValueError (by kernel_rfl) rfl) jl))) (jc (xK yR rfl B.isinstance_ (by kernel_rfl) (jc (pv 4) (jc (zy (v:=.ref Cq_NoDownset) rfl mq_NoDownset rfl) jl))) jl))))))))) (PSs.z (jn (j6 (pv 3)))))),?_⟩
  try dsimp only[qe]
  have X:Ext Fe H0 Fe H0:=Ext.refl S_;unfold zo at Hm;replace jj:(zc (kO jb ju) (zc (kP jb jr) (kQ jb js))).rep K Fe turn xZ:=jj;replace jD:(cT cI).rep K Fe one qw:=jD;obtain rfl:ja4=.int which:=ja5;refine(yF (K:=K) (c:=(cP cS cI)) (qz (We _) (jp _) rfl) X Hm ?_);intro told jbL F H Hm E X Jl;replace jj:=E.xc jj;replace jD:=E.xc jD;refine(jj5 (K:=K) (c:=cF5) (i:=4) (j:=3) (jcu (qH (jk zA (eI (i:=2)) (jp _) rfl)) (G3 (fun Er_=>(QX jj (fun o1 jj=>(k6 yN (eV (i:=0) jj) (eV (i:=1) jD))) (fun o2 jj=>(QX jj (fun o3 jj=>(k6 yc (eV (i:=0) jj) (eV (i:=1) jD))) (fun o4 jj=>(k6 ye (eV (i:=0) jj) (eV (i:=1) jD)))))))) (jcu (qH (jk zA (eI (i:=2)) (jp _) rfl)) (G3 (fun Er_=>(QX jj (fun o5 jj=>(k6 W9 (eV (i:=0) jj) (eV (i:=1) jD))) (fun o6 jj=>(QX jj (fun o7 jj=>(k6 W_ (eV (i:=0) jj) (eV (i:=1) jD))) (fun o8 jj=>(k6 Ya (eV (i:=0) jj) (eV (i:=1) jD)))))))) (jcu (qH (jk zA (eI (i:=2)) (jp _) rfl)) (G3 (fun Er_=>(kG (eV (i:=0) jj) (eV (i:=1) jD)))) (G3 (fun Er_=>(kG (eV (i:=0) jj) (x8 (xk (ku (eV (i:=1) jD) (qD (c:=(cT cI))) rfl) (by decide))))))))) J9 jgW (by decide) rfl (fun er_ V_e_ F H E (P_e_:(cOE cs).rep K F (some er_) V_e_)=>(jiN (We _) (jp _) (yh (c:=.ref Cq_ToggleError) (fun u h=>h) Iq_ToggleError (eV (i:=4) P_e_) rfl) (yh (c:=.ty "ValueError") (fun u h=>h) Iq_ValueError (eV (i:=4) P_e_) rfl) (yh (c:=.ref Cq_NoDownset) (fun u h=>h) Iq_NoDownset (eV (i:=4) P_e_) rfl) rfl)) X Hm ?_);intro told jbL F H Hm E X Jl;exact kd (K:=K) (eV (i:=3) Jl) X Hm Kk
theorem jkz:FnScope ["_law_script","_law_many","_law_pairs","_law_under_here","_law_order","_law_line_here","_law_bad","_law_turns","_law_at","_law_turn","_law_kinds","_law_one","_law_due","_law_good","_law_told"] ["_law_script"] (jo (top 55)):=scK
theorem jkA (B:BiX P w K mg base) (Aj:Ao K mg jr) (Ak:Ap K mg js) (Al:Am K mg jt) (Aa:Ad K mg jb) (Ai:An K mg ju) (Fn:Fun K "law" "law" (top 55) f fd) (Jn:Def P w K mg base "_law_drawn" 3 ["_law_script","_law_most"] (sp2 K (pF cScr) (pF cI) (rF (cP cI (cL (cP cI cI)))) JX)) (Jo:Def P w K mg base "_law_under" 1 ["_law_many","_law_pairs"] (sp2 K (pF cI) (pB (cP cI cI)) (rO (cL cI)) G6)) (Jp:Kls P w K mg base "Order" jb 4 ["self","many","pairs"] (jk3 K jb (pF cI) (pB (cP cI cI)) (jC jb) xq)) (Qb:Def P w K mg base "_law_line" 2 ["_law_under_here","_law_script","_law_at"] (sp3 K (pB (cL cI)) (pF cScr) (pF cI) (rF (cT cI)) Uc)) (Gk:Def P w K mg base "_law_free" 2 ["_law_script","_law_k"] (sp2 K (pF cScr) (pF cI) (rF cI) zN)) (yl:Def P w K mg base "_law_no_downset" 2 ["_law_under_here","_law_cell"] (sp2 K (pB (cL cI)) (pF cI) (rF cI) xr)) (Jq:Kls P w K mg base "Great" jt 1 ["self","order"] (jf7 K jt (pF (jC jb)) (kN jb jt) xt)) (Jr:Kls P w K mg base "Slide" ju 1 ["self","order"] (jf7 K ju (pF (jC jb)) (kO jb ju) xV)) (Js:Kls P w K mg base "Above" jr 1 ["self","order"] (jf7 K jr (pF (jC jb)) (kP jb jr) xW)) (Jt:Kls P w K mg base "Below" js 1 ["self","order"] (jf7 K js (pF (jC jb)) (kQ jb js) xX)) (zD:Def P w K mg base "_law_no_line" 1 ["_law_line_here","_law_under_here","_law_cell"] (sp3 K (pF (cT cI)) (pB (cL cI)) (pF cI) (rF (cT cI)) yt)) (Gm:Def P w K mg base "_law_bits" 1 ["_law_things"] (sp1 K (pF (cT cI)) (rF cI) z_)) (zu:Mth P w K mg base jt "done" 7 ["self","one"] (sp2 K (pF (kN jb jt)) (pF cI) (rF cI) qd)) (Qc:Def P w K mg base "_law_said" 10 ["_law_turn","_law_one","_law_which"] (sp3 K (pF (kN jb jt)) (pF cI) (pF cI) (rF cF5) Vn)) (zv:Mth P w K mg base ju "done" 4 ["self","one"] (sp2 K (pF (kO jb ju)) (pF (cT cI)) (rF (cT cI)) kT)) (zw:Mth P w K mg base jr "done" 4 ["self","one"] (sp2 K (pF (kP jb jr)) (pF (cT cI)) (rF (cT cI)) kU)) (zx:Mth P w K mg base js "done" 4 ["self","one"] (sp2 K (pF (kQ jb js)) (pF (cT cI)) (rF (cT cI)) kW)) (Gn:Def P w K mg base "_law_said" 7 ["_law_turn","_law_one","_law_which"] (sp3 K (pF (zc (kO jb ju) (zc (kP jb jr) (kQ jb js)))) (pF (cT cI)) (pF cI) (rF cF5) zo)) {Ju:Addr} (At:IsiC K mg "Great" jt jt true) (Go:IsiC K mg "Great" ju jt false) (Gp:IsiC K mg "Great" jr jt false) (Gq:IsiC K mg "Great" js jt false) (Au:IsiC K mg "Slide" jt ju false) (Gr:IsiC K mg "Slide" ju ju true) (Gs:IsiC K mg "Slide" jr ju false) (Gu:IsiC K mg "Slide" js ju false) (Av:IsiC K mg "Above" jt jr false) (Gv:IsiC K mg "Above" ju jr false) (Gw:IsiC K mg "Above" jr jr true) (Gx:IsiC K mg "Above" js jr false) (Aw:IsiC K mg "Below" jt js false) (Gy:IsiC K mg "Below" ju js false) (Gz:IsiC K mg "Below" jr js false) (GA:IsiC K mg "Below" js js true) (Ax:IsiC K mg "Turn" jt Ju true) (Jv:IsiC K mg "Turn" ju Ju true) (Jw:IsiC K mg "Turn" jr Ju true) (Jx:IsiC K mg "Turn" js Ju true):FnOk P w K mg base CX0 11 f fd ["_law_script"] (sp1 K (pF cScr) (rF cB) ZC):=by
  refine(ok1 Fn jkz fun cdv A outer s H0 Q E_ hr nd hu script kC Fe R X jd Hm Kk=>?_);refine⟨_,(jh (jc2 (pD_ Jn hr (jc (pv 0) (jc jq jl))) (UM rfl (xi (pG (i:=1) nd) (xi (pG (i:=2) nd) JP)))) (jh (pS (i:=3) nd (pD_ Jo hr (jc (pv 1) (jc (pv 2) jl)))) (jh (pS (i:=4) nd (Y6 Jp (hr.mono (by decide)) rfl (jc (pv 1) (jc (cY GV B.list_ (pv 2)) jl)))) (jh (pS (i:=5) nd (pD_ Qb hr (jc (pv 3) (jc (pv 0) (jc jq jl))))) (jh (pS (i:=6) nd (pD_ yl hr (jc (pv 3) (jc (pD_ Gk hr (jc (pv 0) (jc jq jl))) jl)))) (jh (pS (i:=7) nd (xj (jc (Y6 Jq (hr.mono (by decide)) rfl (jc (pv 4) jl)) (jc (Y6 Jr (hr.mono (by decide)) rfl (jc (pv 4) jl)) (jc (Y6 Js (hr.mono (by decide)) rfl (jc (pv 4) jl)) (jc (Y6 Jt (hr.mono (by decide)) rfl (jc (pv 4) jl)) jl)))))) (jh (qQ PassesOwn.never rfl (jhR rfl B.enumerate_ (jc (pv 7) jl)) (UM rfl (xi (pG (i:=8) nd) (xi (pG (i:=9) nd) JP))) (jh (pS (i:=10) nd (xj (jc (xK Qg rfl B.isinstance_ (by kernel_rfl) (jc (pv 9) (jc (zy (v:=.ref jt) rfl At.m rfl) jl))) (jc (xK Qg rfl B.isinstance_ (by kernel_rfl) (jc (pv 9) (jc (zy (v:=.ref ju) rfl Au.m rfl) jl))) (jc (xK Qg rfl B.isinstance_ (by kernel_rfl) (jc (pv 9) (jc (zy (v:=.ref jr) rfl Av.m rfl) jl))) (jc (xK Qg rfl B.isinstance_ (by kernel_rfl) (jc (pv 9) (jc (zy (v:=.ref js) rfl Aw.m rfl) jl))) jl)))))) (jh (qE (PW.pt (jc1 (j9 (jdt hu) (pv 10) (yy (own:=["_law_k"]) (ix:=[8]) (GD rfl) rfl (kA rfl B.range_ (jc jq jl)) (fun _=>(xN (i:=0) (show List.Nodup (["_law_k","_law_at"]:List Str) by decide +kernel) rfl (Or.inl rfl))) (fun _=>JS) (fun _=>(QN zz (pv 1) (pv 0) (ky _)))) (ky _)) (YO (GB (zE (xK Qg rfl B.isinstance_ (by kernel_rfl) (jc (pv 9) (jc (zy (v:=.ref Ju) rfl Ax.m rfl) jl)))))))) (jn (j6 JO)) kg) (jh (pS (i:=11) nd (pD_ zD hr (jc (pv 5) (jc (pv 3) (jc (pD_ Gk hr (jc (pv 0) (jc (jL qC jq (pv 8)) jl))) jl))))) (jh (pS (i:=12) nd (xH (jc Wc (jc jq (jc JO (jc JO (jc JO jl))))))) (jh (pS (i:=13) nd (pv 5)) (jh (qE (j9 zz (pv 8) jq (ky _)) (jh (pS (i:=11) nd (pv 6)) (jh (pS (i:=12) nd (xH (jc Wc (jc (pv 6) (jc JO (jc JO (jc JO jl))))))) (jn (pS (i:=13) nd (pD_ Gm hr (jc (qV yz (pv 5) xO (xP jq)) jl)))))) kg) (jiK (jh (pS (i:=14) nd (ze zu (hr.mono (by decide)) (pv 9) (jc (pv 13) jl))) (jn (qE (PW.pt (jc1 (GB (zE (kB (UB rfl) B.all_ (yy (own:=["_law_which"]) (ix:=[9,11,12]) (GD rfl) rfl (kA rfl B.range_ (jc jq jl)) (fun _=>(xN (i:=0) (show List.Nodup (["_law_which","_law_turn","_law_one","_law_due"]:List Str) by decide +kernel) rfl (Or.inl rfl))) (fun _=>JS) (fun _=>(QN (jhc hu) (pD_ Qc hr (jc (pv 1) (jc (pv 2) (jc (pv 0) jl)))) (pv 3) (ky _))))))) (YO (j9 jkS (ze zu (hr.mono (by decide)) (pv 9) (jc (pv 13) jl)) (pv 14) (ky _))))) (jn (j6 JO)) kg))) (jh (pS (i:=14) nd (JK (ze zv (hr.mono (by decide)) (pv 9) (jc (pv 13) jl)) (JK (ze zw (hr.mono (by decide)) (pv 9) (jc (pv 13) jl)) (ze zx (hr.mono (by decide)) (pv 9) (jc (pv 13) jl))))) (jn (qE (PW.pt (jc1 (GB (zE (kB (UB rfl) B.all_ (yy (own:=["_law_which"]) (ix:=[9,11,12]) (GD rfl) rfl (kA rfl B.range_ (jc jq jl)) (fun _=>(xN (i:=0) (show List.Nodup (["_law_which","_law_turn","_law_one","_law_due"]:List Str) by decide +kernel) rfl (Or.inl rfl))) (fun _=>JS) (fun _=>(QN (jhc hu) (pD_ Gn hr (jc (pv 1) (jc (pv 2) (jc (pv 0) jl)))) (pv 3) (ky _))))))) (YO (j9 (jdt hu) (JK (ze zv (hr.mono (by decide)) (pv 9) (jc (pv 13) jl)) (JK (ze zw (hr.mono (by decide)) (pv 9) (jc (pv 13) jl)) (ze zx (hr.mono (by decide)) (pv 9) (jc (pv 13) jl)))) (pv 14) (ky _))))) (jn (j6 JO)) kg))))))))))) (jn (j6 JO))))))))),?_⟩
  try dsimp only[qe]
  unfold ZC at Hm;replace jd:cScr.rep K Fe script kC:=jd;refine(jjF (K:=K) (jz (eV (i:=0) jd) (jp _) rfl) X Hm ?_);intro many pairs QK xG F H Hm E X QL jE
  try dsimp only at Hm
  obtain rfl:QK=.int many:=QL;replace jd:=E.xc jd;refine(yF (K:=K) (c:=(cL (cL cI))) (GX (jz (eI (i:=1)) (Qi (eV (i:=2) jE)) rfl)) X Hm ?_);intro under_here ka F H Hm E X jm;replace jd:=E.xc jd;replace jE:=E.xc jE;refine(yF (K:=K) (c:=(jC jb)) (Zh (eI (i:=1)) (x8 (jN jhY (qy (Qi (eV (i:=2) jE))) rfl)) rfl) X Hm ?_);intro order jU F H Hm E X je;replace jd:=E.xc jd;replace jm:=E.xc jm;refine(yF (K:=K) (c:=(cT cI)) (yr (Qi (eV (i:=3) jm)) (eV (i:=0) jd) (jp _) rfl) X Hm ?_);intro line_here yj F H Hm E X jg;replace jd:=E.xc jd;replace jm:=E.xc jm;replace je:=E.xc je;refine(kZ (K:=K) (qI (Qi (eV (i:=3) jm)) (jz (eV (i:=0) jd) (jp _) rfl) rfl) X Hm ?_);intro bad F H Hm E X;replace jd:=E.xc jd;replace jm:=E.xc jm;replace je:=E.xc je;replace jg:=E.xc jg;refine(yF (K:=K) (c:=(cL (zc (kN jb jt) (zc (kO jb ju) (zc (kP jb jr) (kQ jb js)))))) (GX (xk (xf (W5 (zi (eV (i:=4) je) rfl) rfl) (xf (JC (W5 (zi (eV (i:=4) je) rfl) rfl) rfl) (xf (JC (JC (W5 (zi (eV (i:=4) je) rfl) rfl) rfl) rfl) (xf (JC (JC (JC (zi (eV (i:=4) je) rfl) rfl) rfl) rfl) (qD (c:=(zc (kN jb jt) (zc (kO jb ju) (zc (kP jb jr) (kQ jb js)))))) rfl) rfl) rfl) rfl) (by decide))) X Hm ?_);intro turns ji8 F H Hm E X j0;replace jd:=E.xc jd;replace jm:=E.xc jm;replace jg:=E.xc jg;refine UC (K:=K) (c:=(cP cI (zc (kN jb jt) (zc (kO jb ju) (zc (kP jb jr) (kQ jb js)))))) (fun c=>c=R) ?_ X Hm ?_ (fun F1 b σ' F' H'=>∃ (w21_:Option V) (w22_:Option V) (w23_:Option V) (w24_:Option V) (w25_:Option V) (w26_:Option V) (w27_:Option V),σ'=[some kC,some (.int many),some xG,some ka,some jU,some yj,some (.int bad),some ji8,w21_,w22_,w23_,w24_,w25_,w26_,w27_]/\(Ext Fe H0 F' H'/\Same F1 F')) ?_ ?_ ?_ ?_
  ·exact(jao (ko (p:=pF (cL (zc (kN jb jt) (zc (kO jb ju) (zc (kP jb jr) (kQ jb js)))))) (i:=7) rfl j0) rfl)
  ·intro c h;exact Option.some.inj h
  ·intro F H E X;exact⟨_,_,_,_,_,_,_,rfl,⟨X,(Same.refl _)⟩⟩
  ·rintro F1 _ σ_ F_ H_ ⟨w21_,w22_,w23_,w24_,w25_,w26_,w27_,rfl,⟨X_,SF_⟩⟩;exact⟨X_,SF_⟩
  ·rintro F1 S0_ _ B_ ⟨at_,turn⟩ jl8 σ_ F_ H_ F H ⟨w21_,w22_,w23_,w24_,w25_,w26_,w27_,rfl,⟨X,SF_⟩⟩ E jlo Hm Hr
   try dsimp only at Hm
   have SL0:=SF_;replace SF_:=Same.trans S0_ SF_;replace jd:=Cd.mono _ SF_ jd;replace jm:=Cd.mono _ SF_ jm;replace jg:=Cd.mono _ SF_ jg;replace X:=Ext.trans X E;replace jd:=E.xc jd;replace jm:=E.xc jm;replace jg:=E.xc jg;replace SL0:=E.xd SL0;refine jbo jlo X.sub fun ji4 xZ ji5 jj=>?_;obtain rfl:ji4=.int at_:=ji5;refine(yF (K:=K) (c:=(cL cB)) (GX (xk (xf (xS jj (fun o30 jj=>(j4 Qp Al.cl At (eV (i:=9) jj) rfl)) (fun o31 jj=>(xS jj (fun o32 jj=>(j4 Qq Ai.cl Go (eV (i:=9) jj) rfl)) (fun o33 jj=>(xS jj (fun o34 jj=>(j4 Qr Aj.cl Gp (eV (i:=9) jj) rfl)) (fun o35 jj=>(j4 Qs Ak.cl Gq (eV (i:=9) jj) rfl)) rfl)) rfl)) rfl) (xf (xS jj (fun o36 jj=>(j4 Qp Al.cl Au (eV (i:=9) jj) rfl)) (fun o37 jj=>(xS jj (fun o38 jj=>(j4 Qq Ai.cl Gr (eV (i:=9) jj) rfl)) (fun o39 jj=>(xS jj (fun o40 jj=>(j4 Qr Aj.cl Gs (eV (i:=9) jj) rfl)) (fun o41 jj=>(j4 Qs Ak.cl Gu (eV (i:=9) jj) rfl)) rfl)) rfl)) rfl) (xf (xS jj (fun o42 jj=>(j4 Qp Al.cl Av (eV (i:=9) jj) rfl)) (fun o43 jj=>(xS jj (fun o44 jj=>(j4 Qq Ai.cl Gv (eV (i:=9) jj) rfl)) (fun o45 jj=>(xS jj (fun o46 jj=>(j4 Qr Aj.cl Gw (eV (i:=9) jj) rfl)) (fun o47 jj=>(j4 Qs Ak.cl Gx (eV (i:=9) jj) rfl)) rfl)) rfl)) rfl) (xf (xS jj (fun o48 jj=>(j4 Qp Al.cl Aw (eV (i:=9) jj) rfl)) (fun o49 jj=>(xS jj (fun o50 jj=>(j4 Qq Ai.cl Gy (eV (i:=9) jj) rfl)) (fun o51 jj=>(xS jj (fun o52 jj=>(j4 Qr Aj.cl Gz (eV (i:=9) jj) rfl)) (fun o53 jj=>(j4 Qs Ak.cl GA (eV (i:=9) jj) rfl)) rfl)) rfl)) rfl) (qD (c:=cB)) rfl) rfl) rfl) rfl) (by decide))) X Hm ?_);intro kinds jlp F H Hm E X km;replace jd:=E.xc jd;replace jm:=E.xc jm;replace jg:=E.xc jg;replace jj:=E.xc jj;replace SL0:=E.xd SL0;refine(jif (K:=K) (jal (qH (j1 (jhX (eqL eqB) (by decide) nfL) (UZ (eV (i:=10) km)) (jdE (x8 (xy (yW (jp _) rfl) [some (.int at_)] rfl (fun b63 k_ _ _ E62=>U4) (fun b63 k_ _ _ E62=>(jk zA (eI (i:=1)) (eI (i:=0)) rfl)) rfl))) rfl)) (yK (yU (xS jj (fun o67 jj=>(j4 Qp Al.cl Ax (eV (i:=9) jj) rfl)) (fun o68 jj=>(xS jj (fun o69 jj=>(j4 Qq Ai.cl Jv (eV (i:=9) jj) rfl)) (fun o70 jj=>(xS jj (fun o71 jj=>(j4 Qr Aj.cl Jw (eV (i:=9) jj) rfl)) (fun o72 jj=>(j4 Qs Ak.cl Jx (eV (i:=9) jj) rfl)) rfl)) rfl)) rfl)) rfl) rfl) X Hm ?_ ?_)
   ·intro F H Hm E X
    try dsimp only[cond_true] at Hm
    obtain⟨y_,Hy_,Hm⟩:=bind_some Hm;cases Hm;exact kd (K:=K) (JT _) X (Hy_.trans (congrArg some (Hr _ rfl))) Kk
   ·intro F H Hm E X
    try dsimp only[cond_false] at Hm
    replace jd:=E.xc jd;replace jm:=E.xc jm;replace jg:=E.xc jg;replace jj:=E.xc jj;replace SL0:=E.xd SL0;refine GP ?_;refine(yF (K:=K) (c:=(cT cI)) (jca (eV (i:=5) jg) (Qi (eV (i:=3) jm)) (jz (eV (i:=0) jd) (jk ki (jp _) (eI (i:=8)) rfl) rfl) rfl) X Hm ?_);intro one qw F H Hm E X jD;replace jg:=E.xc jg;replace jj:=E.xc jj;replace SL0:=E.xd SL0;refine(yF (K:=K) (c:=cF5) (jeK (We _) (jp _) (JT _) (JT _) (JT _) rfl) X Hm ?_);intro due ji9 F H Hm E X yD;replace jg:=E.xc jg;replace jj:=E.xc jj;replace jD:=E.xc jD;replace SL0:=E.xd SL0;refine(yF (K:=K) (c:=(cT cI)) (eV (i:=5) jg) X Hm ?_);intro good jlK F H Hm E X x5;replace jg:=E.xc jg;replace jj:=E.xc jj;replace jD:=E.xc jD;replace yD:=E.xc yD;replace SL0:=E.xd SL0;refine(jb4 (K:=K) (qH (jk zA (eI (i:=8)) (jp _) rfl)) X Hm ?_ ?_)
    ·intro F H Hc Hm E X;replace jg:=E.xc jg;replace jj:=E.xc jj;replace yD:=E.xc yD;replace SL0:=E.xd SL0;refine(kZ (K:=K) (eI (i:=6)) X Hm ?_);intro one F H Hm E X;replace jg:=E.xc jg;replace jj:=E.xc jj;replace yD:=E.xc yD;replace SL0:=E.xd SL0;refine(yF (K:=K) (c:=cF5) (jeK (We _) (eI (i:=6)) (JT _) (JT _) (JT _) rfl) X Hm ?_);intro due ji9 F H Hm E X yD;replace jg:=E.xc jg;replace jj:=E.xc jj;replace SL0:=E.xd SL0;refine(xR (K:=K) (zh (ql (eV (i:=5) jg) xQ (kx (jp _) rfl) rfl) rfl) X Hm ?_);intro good F H Hm E X;replace jj:=E.xc jj;replace yD:=E.xc yD;replace SL0:=E.xd SL0;refine nx' ?_;refine Or.inl ?_;obtain⟨o77,jj,Hm⟩:=jlW jj Hm;refine(kZ (K:=K) (kq yM (eV (i:=9) jj) (eI (i:=13)) rfl) X Hm ?_);intro told F H Hm E X;replace jj:=E.xc jj;replace yD:=E.xc yD;replace SL0:=E.xd SL0;refine(jad (K:=K) (jal (yK (yU (yJ jfX (qy (x8 (xy (yW (jp _) rfl) [some xZ,some (.int one),some ji9] rfl (fun b79 which _ _ E78=>U4) (fun b79 which _ _ E78=>(j1 (jjy eq5 (by decide) nf5) (UZ (yr (eV (i:=1) (Cd.mono _ (E78).f jj)) (eI (i:=2)) (eI (i:=0)) rfl)) (UZ (eV (i:=3) (Cd.mono _ (E78).f yD))) rfl)) rfl))) rfl)) rfl) (qH (j1 jkY (kq yM (eV (i:=9) jj) (eI (i:=13)) rfl) (eI (i:=14)) rfl)) rfl) X Hm ?_ ?_)
     ·intro F H Hm E X
      try dsimp only[cond_true] at Hm
      obtain⟨y_,Hy_,Hm⟩:=bind_some Hm;cases Hm;exact kd (K:=K) (JT _) X (Hy_.trans (congrArg some (Hr _ rfl))) Kk
     ·intro F H Hm E X
      try dsimp only[cond_false] at Hm
      replace SL0:=E.xd SL0;refine GP ?_;cases Hm;exact⟨_,F,rfl,_,_,_,_,_,_,_,rfl,⟨X,SL0⟩⟩
    ·intro F H Hc Hm E X;replace jj:=E.xc jj;replace jD:=E.xc jD;replace yD:=E.xc yD;replace x5:=E.xc x5;replace SL0:=E.xd SL0;refine GP ?_;refine Or.inr ?_;obtain⟨o88,jj,Hm⟩:=jlX jj Hm;refine(yF (K:=K) (c:=(cT cI)) (jbB jj (fun o89 jj=>(kq yN (eV (i:=9) jj) (eV (i:=13) x5) rfl)) (fun o90 jj=>(jbB jj (fun o91 jj=>(kq yc (eV (i:=9) jj) (eV (i:=13) x5) rfl)) (fun o92 jj=>(kq ye (eV (i:=9) jj) (eV (i:=13) x5) rfl)) rfl)) rfl) X Hm ?_);intro told jbL F H Hm E X Jl;replace jj:=E.xc jj;replace jD:=E.xc jD;replace yD:=E.xc yD;replace x5:=E.xc x5;replace SL0:=E.xd SL0;refine(jad (K:=K) (jal (yK (yU (yJ jfX (qy (x8 (xy (yW (jp _) rfl) [some xZ,some qw,some ji9] rfl (fun b94 which _ _ E93=>U4) (fun b94 which _ _ E93=>(j1 (jjy eq5 (by decide) nf5) (UZ (yr (eV (i:=1) (Cd.mono _ (E93).f jj)) (eV (i:=2) (Cd.mono _ (E93).f jD)) (eI (i:=0)) rfl)) (UZ (eV (i:=3) (Cd.mono _ (E93).f yD))) rfl)) rfl))) rfl)) rfl) (qH (j1 (jhX (eqT eqI) (by decide) nfT) (UZ (jbB jj (fun o100 jj=>(kq yN (eV (i:=9) jj) (eV (i:=13) x5) rfl)) (fun o101 jj=>(jbB jj (fun o102 jj=>(kq yc (eV (i:=9) jj) (eV (i:=13) x5) rfl)) (fun o103 jj=>(kq ye (eV (i:=9) jj) (eV (i:=13) x5) rfl)) rfl)) rfl)) (UZ (eV (i:=14) Jl)) rfl)) rfl) X Hm ?_ ?_)
     ·intro F H Hm E X
      try dsimp only[cond_true] at Hm
      obtain⟨y_,Hy_,Hm⟩:=bind_some Hm;cases Hm;exact kd (K:=K) (JT _) X (Hy_.trans (congrArg some (Hr _ rfl))) Kk
     ·intro F H Hm E X
      try dsimp only[cond_false] at Hm
      replace SL0:=E.xd SL0;refine GP ?_;cases Hm;exact⟨_,F,rfl,_,_,_,_,_,_,_,rfl,⟨X,SL0⟩⟩
  ·rintro F1 S0_ _ σ_ F H Hm ⟨w21_,w22_,w23_,w24_,w25_,w26_,w27_,rfl,⟨X,SF_⟩⟩
   try dsimp only at Hm
   exact kd (K:=K) (JT _) X Hm Kk
theorem V9:FnScope ["self","bits"] ["self","bits"] (jo ((jG (top 6) 0))):=⟨rfl,rfl,rfl,by decide +kernel,rfl,by decide +kernel,by decide +kernel⟩
theorem V_ {P:Program}{f:Addr} (Fn:Fun K "__init__" "NoDownset.__init__" ((jG (top 6) 0)) f fd) (c:XCls K C) (n0:NoAttr K C "bits"):FnOk P w K mg base CX0 1 f fd ["self","bits"] (spX C ["bits"]):=by
 refine Fn.ok V9 (fun vs H Q E h=>?_) (fun cdv A outer s H0 vs Q E_ hr h=>?_)
 ·obtain⟨x,is,rfl,hl,_⟩:=h;simpa using hl
 ·obtain⟨x,is,rfl,hl,hx,k⟩:=h;obtain⟨i,rfl⟩:∃ i,is=[i]:=by
   match is,hl with
   | [i],_=>exact ⟨i,rfl⟩
  refine⟨_,(jn (jlU (pv 0) (pv 1) rfl)),?_⟩
  try dsimp only[qe]
  refine jk5 rfl rfl c n0 hx fun dx h1 h2=>?_;exact k dx h1 h2
end
theorem all_mk {l:W.OpenLaw}{fa:Addr} (X:K.In h) (G:h.Ns mainGlobals mg) (hfa:mg "law"=some (.ref fa))
  {f0 f1 f2 f3 f4 f5 f6 f7 f8 f9 f10 f11 f12 f13 f14 f15 f16 f17 f18 f19 f20 f21 f22 f23 f24 f25 f26 f27 f28 f29 f30 f31 f32 f33 f34 f35 f36 f37 f38 f39 f40 f41 f42 f43 f44 f45 f46 f47 f48 f49 f50 f51 f52 Ju:Addr}{od51 an51:Option Addr}{sl51:Array (Option Value)}{oc51 kV51 dc51 pm51 cd51 ct51:Value}{xI yo xJ j7 qF Aq As Ar:Addr}{tk_MOST_THINGS:Tok}
  (aC_Order:W.nsIn K mainGlobals "Order"=some (some (.ref jb)))
  (vb_c_Order:jhx K jb=true)
  (n_Order_many:W.findIn K (.ref jb) "many"=some none)
  (n_Order_beneath:W.findIn K (.ref jb) "beneath"=some none)
  (n_Order_neighbours:W.findIn K (.ref jb) "neighbours"=some none)
  (aC_Great:W.nsIn K mainGlobals "Great"=some (some (.ref jt)))
  (vb_c_Great:jhx K jt=true)
  (n_Great_order:W.findIn K (.ref jt) "order"=some none)
  (aC_Slide:W.nsIn K mainGlobals "Slide"=some (some (.ref ju)))
  (vb_c_Slide:jhx K ju=true)
  (n_Slide_order:W.findIn K (.ref ju) "order"=some none)
  (aC_Above:W.nsIn K mainGlobals "Above"=some (some (.ref jr)))
  (vb_c_Above:jhx K jr=true)
  (n_Above_order:W.findIn K (.ref jr) "order"=some none)
  (aC_Below:W.nsIn K mainGlobals "Below"=some (some (.ref js)))
  (vb_c_Below:jhx K js=true)
  (n_Below_order:W.findIn K (.ref js) "order"=some none)
  (aC_Turn:W.nsIn K mainGlobals "Turn"=some (some (.ref Ju)))
  (vb_Great_Great:V0 K jt jt true=true)
  (vb_Slide_Great:V0 K ju jt false=true)
  (vb_Above_Great:V0 K jr jt false=true)
  (vb_Below_Great:V0 K js jt false=true)
  (vb_Great_Slide:V0 K jt ju false=true)
  (vb_Slide_Slide:V0 K ju ju true=true)
  (vb_Above_Slide:V0 K jr ju false=true)
  (vb_Below_Slide:V0 K js ju false=true)
  (vb_Great_Above:V0 K jt jr false=true)
  (vb_Slide_Above:V0 K ju jr false=true)
  (vb_Above_Above:V0 K jr jr true=true)
  (vb_Below_Above:V0 K js jr false=true)
  (vb_Great_Below:V0 K jt js false=true)
  (vb_Slide_Below:V0 K ju js false=true)
  (vb_Above_Below:V0 K jr js false=true)
  (vb_Below_Below:V0 K js js true=true)
  (vb_Great_Turn:V0 K jt Ju true=true)
  (vb_Slide_Turn:V0 K ju Ju true=true)
  (vb_Above_Turn:V0 K jr Ju true=true)
  (vb_Below_Turn:V0 K js Ju true=true)
  (vb_u_Great:uB K jt=true)
  (vb_u_Slide:uB K ju=true)
  (vb_u_Above:uB K jr=true)
  (vb_u_Below:uB K js=true)
  (xa_T:W.nsIn K mainGlobals "ToggleError"=some (some (.ref CT)))
  (xa_NoCount:W.nsIn K mainGlobals "NoCount"=some (some (.ref xI)))
  (xi_NoCount:W.findIn K (.ref xI) "__init__"=some (some (.ref Aq)))
  (xa_NoPair:W.nsIn K mainGlobals "NoPair"=some (some (.ref yo)))
  (xi_NoPair:W.findIn K (.ref yo) "__init__"=some (some (.ref As)))
  (xa_NoThing:W.nsIn K mainGlobals "NoThing"=some (some (.ref xJ)))
  (xi_NoThing:W.findIn K (.ref xJ) "__init__"=some (some (.ref Ar)))
  (xa_NoDownset:W.nsIn K mainGlobals "NoDownset"=some (some (.ref j7)))
  (xa_NoLine:W.nsIn K mainGlobals "NoLine"=some (some (.ref qF)))
  (a0:W.nsIn K mainGlobals "_law_raw"=some (some (.ref f0)))
  (F0:FunX K "_law_raw" "_law_raw" (top 44) f0)
  (a1:W.nsIn K mainGlobals "_law_any"=some (some (.ref f1)))
  (F1:FunX K "_law_any" "_law_any" (top 46) f1)
  (a2:W.nsIn K mainGlobals "_law_cell_at"=some (some (.ref f2)))
  (F2:FunX K "_law_cell_at" "_law_cell_at" (top 43) f2)
  (a3:W.nsIn K mainGlobals "_law_field"=some (some (.ref f3)))
  (F3:FunX K "_law_field" "_law_field" (top 47) f3)
  (a4:W.nsIn K mainGlobals "_law_drawn"=some (some (.ref f4)))
  (F4:FunX K "_law_drawn" "_law_drawn" (top 48) f4)
  (a5:W.nsIn K mainGlobals "_law_under"=some (some (.ref f5)))
  (F5:FunX K "_law_under" "_law_under" (top 49) f5)
  (a6:W.nsIn K mainGlobals "check_parts"=some (some (.ref f6)))
  (F6:FunX K "check_parts" "check_parts" (top 10) f6)
  (a7:W.nsIn K mainGlobals "sets_below"=some (some (.ref f7)))
  (F7:FunX K "sets_below" "sets_below" (top 12) f7)
  (a8:W.nsIn K mainGlobals "has"=some (some (.ref f8)))
  (F8:FunX K "has" "has" (top 11) f8)
  (a9:W.nsIn K mainGlobals "is_cover"=some (some (.ref f9)))
  (F9:FunX K "is_cover" "is_cover" (top 13) f9)
  (a10:W.nsIn K mainGlobals "cover_pairs"=some (some (.ref f10)))
  (F10:FunX K "cover_pairs" "cover_pairs" (top 14) f10)
  (a11:W.findIn K (.ref jb) "__init__"=some (some (.ref f11))) (i11:W.isFn K (.ref f11)=true)
  (F11:FunX K "__init__" "Order.__init__" ((jG (top 15) 0)) f11)
  (a12:W.nsIn K mainGlobals "_law_line"=some (some (.ref f12)))
  (F12:FunX K "_law_line" "_law_line" (top 51) f12)
  (a13:W.nsIn K mainGlobals "_law_free"=some (some (.ref f13)))
  (F13:FunX K "_law_free" "_law_free" (top 45) f13)
  (a14:W.nsIn K mainGlobals "_law_bits"=some (some (.ref f14)))
  (F14:FunX K "_law_bits" "_law_bits" (top 50) f14)
  (a15:W.nsIn K mainGlobals "_law_no_downset"=some (some (.ref f15)))
  (F15:FunX K "_law_no_downset" "_law_no_downset" (top 53) f15)
  (a16:W.findIn K (.ref jt) "__init__"=some (some (.ref f16))) (i16:W.isFn K (.ref f16)=true)
  (F16:FunX K "__init__" "Turn.__init__" ((jG (top 34) 0)) f16)
  (a17:W.findIn K (.ref ju) "__init__"=some (some (.ref f17))) (i17:W.isFn K (.ref f17)=true)
  (F17:FunX K "__init__" "Turn.__init__" ((jG (top 34) 0)) f17)
  (a18:W.findIn K (.ref jr) "__init__"=some (some (.ref f18))) (i18:W.isFn K (.ref f18)=true)
  (F18:FunX K "__init__" "Turn.__init__" ((jG (top 34) 0)) f18)
  (a19:W.findIn K (.ref js) "__init__"=some (some (.ref f19))) (i19:W.isFn K (.ref f19)=true)
  (F19:FunX K "__init__" "Turn.__init__" ((jG (top 34) 0)) f19)
  (a20:W.nsIn K mainGlobals "_law_no_line"=some (some (.ref f20)))
  (F20:FunX K "_law_no_line" "_law_no_line" (top 54) f20)
  (a21:W.findIn K (.ref jb) "size"=some (some (.ref f21))) (i21:W.isFn K (.ref f21)=true)
  (F21:FunX K "size" "Order.size" ((jG (top 15) 1)) f21)
  (a22:W.nsIn K mainGlobals "things_of"=some (some (.ref f22)))
  (F22:FunX K "things_of" "things_of" (top 17) f22)
  (a23:W.nsIn K mainGlobals "holds_all"=some (some (.ref f23)))
  (F23:FunX K "holds_all" "holds_all" (top 19) f23)
  (a24:W.nsIn K mainGlobals "is_downset"=some (some (.ref f24)))
  (F24:FunX K "is_downset" "is_downset" (top 20) f24)
  (a25:W.nsIn K mainGlobals "check_downset"=some (some (.ref f25)))
  (F25:FunX K "check_downset" "check_downset" (top 21) f25)
  (a26:W.nsIn K mainGlobals "is_door"=some (some (.ref f26)))
  (F26:FunX K "is_door" "is_door" (top 23) f26)
  (a27:W.nsIn K mainGlobals "set_of"=some (some (.ref f27)))
  (F27:FunX K "set_of" "set_of" (top 18) f27)
  (a28:W.nsIn K mainGlobals "doors"=some (some (.ref f28)))
  (F28:FunX K "doors" "doors" (top 24) f28)
  (a29:W.nsIn K mainGlobals "great_turn"=some (some (.ref f29)))
  (F29:FunX K "great_turn" "great_turn" (top 29) f29)
  (a30:W.findIn K (.ref jt) "done"=some (some (.ref f30))) (i30:W.isFn K (.ref f30)=true)
  (F30:FunX K "done" "Great.done" ((jG (top 35) 0)) f30)
  (a31:W.findIn K (.ref jt) "back"=some (some (.ref f31))) (i31:W.isFn K (.ref f31)=true)
  (F31:FunX K "back" "Great.back" ((jG (top 35) 1)) f31)
  (a32:W.nsIn K mainGlobals "great_turn_back"=some (some (.ref f32)))
  (F32:FunX K "great_turn_back" "great_turn_back" (top 30) f32)
  (a33:W.nsIn K mainGlobals "brim"=some (some (.ref f33)))
  (F33:FunX K "brim" "brim" (top 22) f33)
  (a34:W.nsIn K mainGlobals "round_of"=some (some (.ref f34)))
  (F34:FunX K "round_of" "round_of" (top 40) f34)
  (a35:W.nsIn K mainGlobals "all_rounds"=some (some (.ref f35)))
  (F35:FunX K "all_rounds" "all_rounds" (top 41) f35)
  (a36:W.nsIn K mainGlobals "_law_said"=some (some (.ref f36)))
  (F36:FunX K "_law_said" "_law_said" (top 52) f36)
  (a37:W.nsIn K mainGlobals "is_line"=some (some (.ref f37)))
  (F37:FunX K "is_line" "is_line" (top 26) f37)
  (a38:W.nsIn K mainGlobals "check_line"=some (some (.ref f38)))
  (F38:FunX K "check_line" "check_line" (top 27) f38)
  (a39:W.findIn K (.ref jb) "check_thing"=some (some (.ref f39))) (i39:W.isFn K (.ref f39)=true)
  (F39:FunX K "check_thing" "Order.check_thing" ((jG (top 15) 2)) f39)
  (a40:W.findIn K (.ref jb) "just_above"=some (some (.ref f40))) (i40:W.isFn K (.ref f40)=true)
  (F40:FunX K "just_above" "Order.just_above" ((jG (top 15) 6)) f40)
  (a41:W.nsIn K mainGlobals "places_within"=some (some (.ref f41)))
  (F41:FunX K "places_within" "places_within" (top 31) f41)
  (a42:W.nsIn K mainGlobals "slid"=some (some (.ref f42)))
  (F42:FunX K "slid" "slid" (top 32) f42)
  (a43:W.findIn K (.ref ju) "done"=some (some (.ref f43))) (i43:W.isFn K (.ref f43)=true)
  (F43:FunX K "done" "Slide.done" ((jG (top 36) 0)) f43)
  (a44:W.findIn K (.ref jr) "done"=some (some (.ref f44))) (i44:W.isFn K (.ref f44)=true)
  (F44:FunX K "done" "Above.done" ((jG (top 37) 0)) f44)
  (a45:W.findIn K (.ref jb) "just_below"=some (some (.ref f45))) (i45:W.isFn K (.ref f45)=true)
  (F45:FunX K "just_below" "Order.just_below" ((jG (top 15) 5)) f45)
  (a46:W.nsIn K mainGlobals "slid_back"=some (some (.ref f46)))
  (F46:FunX K "slid_back" "slid_back" (top 33) f46)
  (a47:W.findIn K (.ref js) "done"=some (some (.ref f47))) (i47:W.isFn K (.ref f47)=true)
  (F47:FunX K "done" "Below.done" ((jG (top 38) 0)) f47)
  (a48:W.findIn K (.ref ju) "back"=some (some (.ref f48))) (i48:W.isFn K (.ref f48)=true)
  (F48:FunX K "back" "Slide.back" ((jG (top 36) 1)) f48)
  (a49:W.findIn K (.ref jr) "back"=some (some (.ref f49))) (i49:W.isFn K (.ref f49)=true)
  (F49:FunX K "back" "Above.back" ((jG (top 37) 1)) f49)
  (a50:W.findIn K (.ref js) "back"=some (some (.ref f50))) (i50:W.isFn K (.ref f50)=true)
  (F50:FunX K "back" "Below.back" ((jG (top 38) 1)) f50)
  (a51:W.nsIn K mainGlobals "law"=some (some (.ref f51)))
  (l51:K.lookup f51=some ⟨oc51,od51,.func (W.fnOf "law" "law" (yx (top 55)) (qW (top 55)) (jo (top 55)) .none kV51 dc51 pm51 an51 cd51 ct51),sl51⟩) (c51:W.codeIn K cd51 "law"=true) (k51:W.keepIn K (.ref f51)=true)
  (a52:W.findIn K (.ref j7) "__init__"=some (some (.ref f52))) (i52:W.isFn K (.ref f52)=true)
  (F52:FunX K "__init__" "NoDownset.__init__" ((jG (top 6) 0)) f52)
  (xb_T:zK K CT none=true) (xb_all:jaI K CT [(xI,some Aq),(yo,some As),(xJ,some Ar),(j7,some f52),(qF,none)]=true)
  (xq_bits:W.findIn K (.ref j7) "bits"=some none)
  (xb_ToggleError:jaJ K [(xI,some Aq),(yo,some As),(xJ,some Ar),(j7,some f52),(qF,none)] (.ref CT) [0,1,2,3,4]=true)
  (xv_V:W.nsIn K mainGlobals "ValueError"=some none) (xb_V:jaJ K [(xI,some Aq),(yo,some As),(xJ,some Ar),(j7,some f52),(qF,none)] (.type "ValueError") [0,1,2,3,4]=true)
  (xb_NoLine:jaJ K [(xI,some Aq),(yo,some As),(xJ,some Ar),(j7,some f52),(qF,none)] (.ref qF) [4]=true)
  (xb_NoDownset:jaJ K [(xI,some Aq),(yo,some As),(xJ,some Ar),(j7,some f52),(qF,none)] (.ref j7) [3]=true)
  (xb_s_NoDownset:jkL K [(xI,some Aq),(yo,some As),(xJ,some Ar),(j7,some f52),(qF,none)] j7 [3]=true)
  (xb_s_NoLine:jkL K [(xI,some Aq),(yo,some As),(xJ,some Ar),(j7,some f52),(qF,none)] qF [4]=true)
  (xn_NoDownset_bits:W.findIn K (.ref j7) "bits"=some none)
  (g_MOST_THINGS:W.nsIn K mainGlobals "MOST_THINGS"=some (some (.int 9 tk_MOST_THINGS)))
  (z0:W.nsIn K mainGlobals "len"=some none) (z1:W.nsIn K mainGlobals "range"=some none) (z2:W.nsIn K mainGlobals "isinstance"=some none) (z3:W.nsIn K mainGlobals "any"=some none) (z4:W.nsIn K mainGlobals "all"=some none) (z5:W.nsIn K mainGlobals "sum"=some none) (z6:W.nsIn K mainGlobals "list"=some none) (z7:W.nsIn K mainGlobals "tuple"=some none) (z8:W.nsIn K mainGlobals "int"=some none) (z9:W.nsIn K mainGlobals "bool"=some none) (z10:W.nsIn K mainGlobals "str"=some none) (z11:W.nsIn K mainGlobals "enumerate"=some none) (z12:W.nsIn K mainGlobals "reversed"=some none) (z13:W.nsIn K mainGlobals "sorted"=some none) (z14:W.nsIn K mainGlobals "set"=some none) (z15:W.nsIn K mainGlobals "max"=some none) (z16:W.nsIn K mainGlobals "min"=some none) (z17:W.nsIn K mainGlobals "abs"=some none) (z18:W.nsIn K mainGlobals "zip"=some none) :
  ∃ fd:FuncData,(∀ (s:Shared) (v:Value),BindsTo s fd ⟨[v],[]⟩ [("_law_script",v)])/\∀ base:Heap,K.In base->base.Ns mainGlobals mg->FnOk l.prog w K mg base CX0 11 fa fd ["_law_script"] (sp1 K (pF cScr) (rF cB) ZC):=by
 have e:=hfa.symm.trans (Xx X G a51);cases e;have B:Bi mg:=⟨XC X G z0,XC X G z1,XC X G z2,XC X G z3,XC X G z4,XC X G z5,XC X G z6,XC X G z7,XC X G z8,XC X G z9,XC X G z10,XC X G z11,XC X G z12,XC X G z13,XC X G z14,XC X G z15,XC X G z16,XC X G z17,XC X G z18⟩;have Aa:Ad K mg jb:=⟨(jiO vb_c_Order).cl,n_Order_many,n_Order_beneath,n_Order_neighbours⟩;have Al:Am K mg jt:=⟨(jiO vb_c_Great).cl,n_Great_order⟩;have Ai:An K mg ju:=⟨(jiO vb_c_Slide).cl,n_Slide_order⟩;have Aj:Ao K mg jr:=⟨(jiO vb_c_Above).cl,n_Above_order⟩;have Ak:Ap K mg js:=⟨(jiO vb_c_Below).cl,n_Below_order⟩;have At:=xU (Xx X G aC_Great) vb_u_Great vb_Great_Great;have Go:=xU (Xx X G aC_Great) vb_u_Slide vb_Slide_Great;have Gp:=xU (Xx X G aC_Great) vb_u_Above vb_Above_Great;have Gq:=xU (Xx X G aC_Great) vb_u_Below vb_Below_Great;have Au:=xU (Xx X G aC_Slide) vb_u_Great vb_Great_Slide;have Gr:=xU (Xx X G aC_Slide) vb_u_Slide vb_Slide_Slide;have Gs:=xU (Xx X G aC_Slide) vb_u_Above vb_Above_Slide;have Gu:=xU (Xx X G aC_Slide) vb_u_Below vb_Below_Slide;have Av:=xU (Xx X G aC_Above) vb_u_Great vb_Great_Above;have Gv:=xU (Xx X G aC_Above) vb_u_Slide vb_Slide_Above;have Gw:=xU (Xx X G aC_Above) vb_u_Above vb_Above_Above;have Gx:=xU (Xx X G aC_Above) vb_u_Below vb_Below_Above;have Aw:=xU (Xx X G aC_Below) vb_u_Great vb_Great_Below;have Gy:=xU (Xx X G aC_Below) vb_u_Slide vb_Slide_Below;have Gz:=xU (Xx X G aC_Below) vb_u_Above vb_Above_Below;have GA:=xU (Xx X G aC_Below) vb_u_Below vb_Below_Below;have Ax:=xU (Xx X G aC_Turn) vb_u_Great vb_Great_Turn;have Jv:=xU (Xx X G aC_Turn) vb_u_Slide vb_Slide_Turn;have Jw:=xU (Xx X G aC_Turn) vb_u_Above vb_Above_Turn;have Jx:=xU (Xx X G aC_Turn) vb_u_Below vb_Below_Turn;have Gg:∃ t,mg "MOST_THINGS"=some (.int 9 t):=⟨_,Xx X G g_MOST_THINGS⟩;obtain⟨fd0,F0⟩:=F0.ex;obtain⟨fd1,F1⟩:=F1.ex;obtain⟨fd2,F2⟩:=F2.ex;obtain⟨fd3,F3⟩:=F3.ex;obtain⟨fd4,F4⟩:=F4.ex;obtain⟨fd5,F5⟩:=F5.ex;obtain⟨fd6,F6⟩:=F6.ex;obtain⟨fd7,F7⟩:=F7.ex;obtain⟨fd8,F8⟩:=F8.ex;obtain⟨fd9,F9⟩:=F9.ex;obtain⟨fd10,F10⟩:=F10.ex;obtain⟨fd11,F11⟩:=F11.ex;obtain⟨fd12,F12⟩:=F12.ex;obtain⟨fd13,F13⟩:=F13.ex;obtain⟨fd14,F14⟩:=F14.ex;obtain⟨fd15,F15⟩:=F15.ex;obtain⟨fd16,F16⟩:=F16.ex;obtain⟨fd17,F17⟩:=F17.ex;obtain⟨fd18,F18⟩:=F18.ex;obtain⟨fd19,F19⟩:=F19.ex;obtain⟨fd20,F20⟩:=F20.ex;obtain⟨fd21,F21⟩:=F21.ex;obtain⟨fd22,F22⟩:=F22.ex;obtain⟨fd23,F23⟩:=F23.ex;obtain⟨fd24,F24⟩:=F24.ex;obtain⟨fd25,F25⟩:=F25.ex;obtain⟨fd26,F26⟩:=F26.ex;obtain⟨fd27,F27⟩:=F27.ex;obtain⟨fd28,F28⟩:=F28.ex;obtain⟨fd29,F29⟩:=F29.ex;obtain⟨fd30,F30⟩:=F30.ex;obtain⟨fd31,F31⟩:=F31.ex;obtain⟨fd32,F32⟩:=F32.ex;obtain⟨fd33,F33⟩:=F33.ex;obtain⟨fd34,F34⟩:=F34.ex;obtain⟨fd35,F35⟩:=F35.ex;obtain⟨fd36,F36⟩:=F36.ex;obtain⟨fd37,F37⟩:=F37.ex;obtain⟨fd38,F38⟩:=F38.ex;obtain⟨fd39,F39⟩:=F39.ex;obtain⟨fd40,F40⟩:=F40.ex;obtain⟨fd41,F41⟩:=F41.ex;obtain⟨fd42,F42⟩:=F42.ex;obtain⟨fd43,F43⟩:=F43.ex;obtain⟨fd44,F44⟩:=F44.ex;obtain⟨fd45,F45⟩:=F45.ex;obtain⟨fd46,F46⟩:=F46.ex;obtain⟨fd47,F47⟩:=F47.ex;obtain⟨fd48,F48⟩:=F48.ex;obtain⟨fd49,F49⟩:=F49.ex;obtain⟨fd50,F50⟩:=F50.ex;have F51:=jg_ (st:=top 55) l51 c51 k51;obtain⟨fd52,F52⟩:=F52.ex;have b52:=F52.binds (ps:=["self","bits"]) fun _ _ _ _ _ _ us hl=>match us,hl with | [_,_],_=>rfl
 refine⟨W.fnOf "law" "law" (yx (top 55)) (qW (top 55)) (jo (top 55)) .none kV51 dc51 pm51 an51 cd51 ct51,fun s v=>.of_eq rfl,fun base _ _=>?_⟩;have B:BiX l.prog w K mg base:=⟨B⟩;obtain⟨cs,hcs⟩:∃ cs:Ecs,cs=(([(xI,some Aq),(yo,some As),(xJ,some Ar),(j7,some f52),(qF,none)].zip ([["number"],["low","high"],["thing"],["bits"],[]]:List (List Str))).map fun z=>(z.1.1,z.2)):=⟨_,rfl⟩;have jfc:jjR K cs 3 0 "bits":=hcs ▸ jiF xb_all rfl rfl xq_bits (by decide +kernel) rfl;have xA:XCl K mg cs "ToggleError" [0,1,2,3,4]:=hcs ▸ jeC xb_all (Xx X G xa_T) xb_ToggleError;have x4:mg "ValueError"=none/\jiw K cs (.type "ValueError") [0,1,2,3,4]:=⟨XC X G xv_V,hcs ▸ jeB xb_all xb_V⟩;have YK:XCl K mg cs "NoLine" [4]:=hcs ▸ jeC xb_all (Xx X G xa_NoLine) xb_NoLine;have Qa:XCl K mg cs "NoDownset" [3]:=hcs ▸ jeC xb_all (Xx X G xa_NoDownset) xb_NoDownset;have m2_NoDownset:=Xx X G xa_NoDownset;have x2_NoDownset:=(Vk (p:=(j7,some f52)) xb_all (XG (i:=3) rfl)).exc;have S2_NoDownset:jfj K j7 cs [3]:=hcs ▸ jeI xb_all xb_s_NoDownset;have m2_NoLine:=Xx X G xa_NoLine;have x2_NoLine:=(Vk (p:=(qF,none)) xb_all (XG (i:=4) rfl)).exc;have S2_NoLine:jfj K qF cs [4]:=hcs ▸ jeI xb_all xb_s_NoLine;have YF_NoLine:=Vk (p:=(qF,none)) xb_all (XG (i:=4) rfl);have Y_NoLine:MDef0 K mg cs "NoLine" 4:=⟨⟨qF,by rw[hcs]; rfl,Xx X G xa_NoLine,⟨YF_NoLine.exc,YF_NoLine.kp⟩⟩⟩;have XF_NoDownset:=Vk (p:=(j7,some f52)) xb_all (XG (i:=3) rfl);have X_NoDownset:XDef l.prog w K mg base cs "NoDownset" 3 1 ["bits"]:=⟨⟨j7,f52,_,by rw[hcs]; rfl,Xx X G xa_NoDownset,⟨XF_NoDownset.exc,i52,XF_NoDownset.kp⟩,V_ F52 XF_NoDownset.cls xn_NoDownset_bits,b52⟩⟩;have kL:=qc X G a0 F0 (jaU B F0);have Q6:=qc X G a1 F1 (jaW B F1 kL);have kh:=qc X G a2 F2 (Vv B F2);have Jh:=qc X G a3 F3 (Yn B F3);have Jn:=qc X G a4 F4 (Yp B F4 kL Q6 kh Jh);have Jo:=qc X G a5 F5 (Yr B F5);have Gh:=qc X G a6 F6 (V2 B F6 Gg);have Ji:=qc X G a7 F7 (Yt B F7);have VH:=qc X G a8 F8 (jky B F8);have Q7:=qc X G a9 F9 (jaY B F9 VH);have Gi:=qc X G a10 F10 (V4 B F10 Q7);have Jp:=ZA X G vb_c_Order a11 i11 aC_Order F11 (Yu B Aa F11 Gh Ji Gi);have Qb:=qc X G a12 F12 (ZN B F12 kL kh);have Gk:=qc X G a13 F13 (ZP B F13 kL kh);have Gj:=qc X G a14 F14 (ZR B F14);have yl:=qc X G a15 F15 (Qx B F15 Gj);have Jq:=ZA X G vb_c_Great a16 i16 aC_Great F16 (Yv B Al Aa F16);have Jr:=ZA X G vb_c_Slide a17 i17 aC_Slide F17 (Yw B Aa Ai F17);have Js:=ZA X G vb_c_Above a18 i18 aC_Above F18 (Yx B Aj Aa F18);have Jt:=ZA X G vb_c_Below a19 i19 aC_Below F19 (Yy B Ak Aa F19);have zD:=qc X G a20 F20 (Vx B F20);have Gm:=qc X G a14 F14 (V6 B F14);have qv:=Ub a21 i21 Aa.cl F21 (YA B Aa F21);have yk:=qc X G a22 F22 (ZT B F22 VH);have q_:=qc X G a23 F23 (ZV B F23);have xY:=qc X G a24 F24 (YC B Aa F24 qv yk q_);have Jy:=Ur B Aa F25 xY;have zb:=qc X G a25 F25 (Jy);have VI:=qc X G a26 F26 (jcP B Aa F26 VH q_);have YJ:=qc X G a27 F27 (je_ B F27);have jfd:=jgQ B Aa F28 zb qv VI YJ;have ja1:=qc X G a28 F28 (jfd);have Uf:=YD B Aa F29 ja1 yk;have Jk:=qc X G a29 F29 (Uf);have Ug:=YE B Al Aa F30 Jk;have zu:=Ub a30 i30 Al.cl F30 (Ug);have DE_check_downset:=zB X G a25 F25 Jy (QA B Aa F25 xY X_NoDownset);have DE_doors:=zB X G a28 F28 jfd (jcQ B Aa F28 DE_check_downset);have DE_great_turn:=zB X G a29 F29 Uf (Vy B Aa F29 DE_doors);have DE_Great_done:=G4 a30 i30 Al.cl F30 Ug (Vz B Al Aa F30 DE_great_turn);have VM:=Us B Al Aa F31;have JG:=Jd B Aa F32;have jfe:=jcR B Aa F33;have DE_brim_nv:=zB X G a33 F33 jfe (ZW B Aa F33 DE_check_downset);have DE_great_turn_back_nv:=zB X G a32 F32 JG (Gf B Aa F32 DE_brim_nv);have DE_Great_back_nv:=G4 a31 i31 Al.cl F31 VM (QB B Al Aa F31 DE_great_turn_back_nv);have YL:=V7 B Al Aa F34;have DE_round_of_nv:=zB X G a34 F34 YL (Ut B Al Aa F34 DE_Great_done);have VN:=Uu B Al Aa F35;have DE_all_rounds_nv:=zB X G a35 F35 VN (QC B Al Aa F35 DE_round_of_nv);have Qc:=qc X G a36 F36 (ZX B Al Aa F36 DE_Great_done DE_Great_back_nv DE_round_of_nv DE_all_rounds_nv m2_NoDownset x2_NoDownset S2_NoDownset jfc xA x4 YK);have zT:=qc X G a37 F37 (jcT B Aa F37 qv q_);have Uh:=YF B Aa F38 zT;have qx:=qc X G a38 F38 (Uh);have kM:=Ub a39 i39 Aa.cl F39 (JF B Aa F39);have xm:=Ub a40 i40 Aa.cl F40 (J0 B Aa F40 kM);have kY:=qc X G a41 F41 (Uw B F41);have WB:=qc X G a42 F42 (ji1 B Aa F42 xm kY);have Ui:=YG B Aa Ai F43 qx WB;have zv:=Ub a43 i43 Ai.cl F43 (Ui);have Uj:=YH B Aj Aa F44 qx WB;have zw:=Ub a44 i44 Aj.cl F44 (Uj);have xn:=Ub a45 i45 Aa.cl F45 (J7 B Aa F45 kM);have J_:=qc X G a46 F46 (ZZ B Aa F46 xn kY);have Uk:=YI B Ak Aa F47 qx J_;have zx:=Ub a47 i47 Ak.cl F47 (Uk);have DE_check_line:=zB X G a38 F38 Uh (VA B Aa F38 zT Y_NoLine);have DE_Slide_done:=G4 a43 i43 Ai.cl F43 Ui (VB B Aa Ai F43 DE_check_line);have DE_Above_done:=G4 a44 i44 Aj.cl F44 Uj (VC B Aj Aa F44 DE_check_line);have DE_Below_done:=G4 a47 i47 Ak.cl F47 Uk (VD B Ak Aa F47 DE_check_line);have VO:=Ux B Aa Ai F48;have DE_Slide_back_nv:=G4 a48 i48 Ai.cl F48 VO (QH B Aa Ai F48 DE_check_line);have VP:=Uy B Aj Aa F49;have DE_Above_back_nv:=G4 a49 i49 Aj.cl F49 VP (QI B Aj Aa F49 DE_Above_done);have VQ:=Uz B Ak Aa F50;have DE_Below_back_nv:=G4 a50 i50 Ak.cl F50 VQ (QJ B Ak Aa F50 DE_Below_done);have Wa:=VE B Aj Ak Aa Ai F34;have DE_round_of_nv2:=zB X G a34 F34 Wa (Q4 B Aj Ak Aa Ai F34 DE_Slide_done DE_Above_done DE_Below_done);have UA:=Q5 B Aj Ak Aa Ai F35;have DE_all_rounds_nv2:=zB X G a35 F35 UA (J8 B Aj Ak Aa Ai F35 DE_round_of_nv2);have Gn:=qc X G a36 F36 (V8 B Aj Ak Aa Ai F36 DE_Slide_done DE_Above_done DE_Below_done DE_Slide_back_nv DE_Above_back_nv DE_Below_back_nv DE_round_of_nv2 DE_all_rounds_nv2 m2_NoDownset x2_NoDownset S2_NoDownset m2_NoLine x2_NoLine S2_NoLine xA x4 Qa);exact jkA B Aj Ak Al Aa Ai F51 Jn Jo Jp Qb Gk yl Jq Jr Js Jt zD Gm zu Qc zv zw zx Gn At Go Gp Gq Au Gr Gs Gu Av Gv Gw Gx Aw Gy Gz GA Ax Jv Jw Jx
end Lw
namespace PySem.W.Fast
def tw17772385777685571188:=0
def tw8102057461873505272:=0
def tw7003487002434979716:=0
def tw5369531905710831977:=0
def tw11698999365847330269:=0
def tw5077577723003305020:=0
def tw13150071114225695412:=0
def tw12854105497632586571:=0
def tw14983569172158869688:=0
def tw14259799782626788698:=0
def tw6939803836933073634:=0
def tw14188697171343844769:=0
def tw8163852188964936217:=0
def tw17883136147187032974:=0
def tw4416182527450897728:=0
def tw17382940024146524524:=0
def tw15444820722366608172:=0
def tw429679240107386242:=0
def tw11858429167159939623:=0
def tw9116035938953192940:=0
def tw15808276936680255577:=0
end PySem.W.Fast
namespace Lw
open PySem L2 L3
theorem walk {l:W.OpenLaw}{q:Program}{d:DefRec}{K:Params->W.Frag} (hn:l.most=some 63) (hdf:d.params.defaults=[])
  (hY:∀ (w:World) (h:Heap),YP w h->(K w.params).In h)
  (F:∀ (w:World) (mg:Str->Option Value) (fa:Addr) (h:Heap),(K w.params).In h->h.Ns mainGlobals mg->mg d.name=some (.ref fa) ->
   ∃ fd:FuncData,(∀ (s:Shared) (u:Value),BindsTo s fd ⟨[u],[]⟩ [("_law_script",u)])/\∀ base:Heap,(K w.params).In base->base.Ns mainGlobals mg->FnOk l.prog w (K w.params) mg base CX0 11 fa fd ["_law_script"] (sp1 (K w.params) (pF cScr) (rF cB) ZC)) :
  W.WalkO q loose XP YP l.row.toRowW d [] (fun f vs=>PySem.call f vs):=
 L2.walk_of (n:=63) (k:=11) (x:="_law_script") (CX:=fun _=>CX0) (sp:=fun w=>sp1 (K w.params) (pF cScr) (rF cB) ZC) hn (by decide) hdf ⟨rfl,by decide,by decide,rfl⟩ hY F (fun _ H a ns hl _ hS=>⟨ns,_,H,true,rfl,Same.refl _,⟨a,rfl,hS⟩,law_true ns hl,fun u F' H' E h=>h⟩) fun _ _ _ _ _ z=>z
end Lw
open PySem PySem.W PyProof.Rows
set_option maxRecDepth 100000 in
set_option maxHeartbeats 0 in
theorem PySem.Challenge.cw_toggleclock_k54_turns_refused_holds : PySem.Challenge.rw_toggleclock_k54_turns_refused.Holds := by
 w_on; o_law; k_head; (case hw => w_witness2)
 k_fill
 refine Lw.walk (l := PySem.Challenge.rw_toggleclock_k54_turns_refused) rfl rfl (fun w h Y => PySem.W.kIn_of Y) ?F
 case F =>
  intro w mg fa h KX G hmg
  refine' Lw.all_mk KX G hmg ?aC_Order ?vb_c_Order ?n_Order_many ?n_Order_beneath ?n_Order_neighbours ?aC_Great ?vb_c_Great ?n_Great_order ?aC_Slide ?vb_c_Slide ?n_Slide_order ?aC_Above ?vb_c_Above ?n_Above_order ?aC_Below ?vb_c_Below ?n_Below_order ?aC_Turn ?vb_Great_Great ?vb_Slide_Great ?vb_Above_Great ?vb_Below_Great ?vb_Great_Slide ?vb_Slide_Slide ?vb_Above_Slide ?vb_Below_Slide ?vb_Great_Above ?vb_Slide_Above ?vb_Above_Above ?vb_Below_Above ?vb_Great_Below ?vb_Slide_Below ?vb_Above_Below ?vb_Below_Below ?vb_Great_Turn ?vb_Slide_Turn ?vb_Above_Turn ?vb_Below_Turn ?vb_u_Great ?vb_u_Slide ?vb_u_Above ?vb_u_Below ?xa_T ?xa_NoCount ?xi_NoCount ?xa_NoPair ?xi_NoPair ?xa_NoThing ?xi_NoThing ?xa_NoDownset ?xa_NoLine ?a0 ?F0 ?a1 ?F1 ?a2 ?F2 ?a3 ?F3 ?a4 ?F4 ?a5 ?F5 ?a6 ?F6 ?a7 ?F7 ?a8 ?F8 ?a9 ?F9 ?a10 ?F10 ?a11 ?i11 ?F11 ?a12 ?F12 ?a13 ?F13 ?a14 ?F14 ?a15 ?F15 ?a16 ?i16 ?F16 ?a17 ?i17 ?F17 ?a18 ?i18 ?F18 ?a19 ?i19 ?F19 ?a20 ?F20 ?a21 ?i21 ?F21 ?a22 ?F22 ?a23 ?F23 ?a24 ?F24 ?a25 ?F25 ?a26 ?F26 ?a27 ?F27 ?a28 ?F28 ?a29 ?F29 ?a30 ?i30 ?F30 ?a31 ?i31 ?F31 ?a32 ?F32 ?a33 ?F33 ?a34 ?F34 ?a35 ?F35 ?a36 ?F36 ?a37 ?F37 ?a38 ?F38 ?a39 ?i39 ?F39 ?a40 ?i40 ?F40 ?a41 ?F41 ?a42 ?F42 ?a43 ?i43 ?F43 ?a44 ?i44 ?F44 ?a45 ?i45 ?F45 ?a46 ?F46 ?a47 ?i47 ?F47 ?a48 ?i48 ?F48 ?a49 ?i49 ?F49 ?a50 ?i50 ?F50 ?a51 ?l51 ?c51 ?k51 ?a52 ?i52 ?F52 ?xb_T ?xb_all ?xq_bits ?xb_ToggleError ?xv_V ?xb_V ?xb_NoLine ?xb_NoDownset ?xb_s_NoDownset ?xb_s_NoLine ?xn_NoDownset_bits ?g_MOST_THINGS ?z0 ?z1 ?z2 ?z3 ?z4 ?z5 ?z6 ?z7 ?z8 ?z9 ?z10 ?z11 ?z12 ?z13 ?z14 ?z15 ?z16 ?z17 ?z18
  (case aC_Order => k_is)
  (case vb_c_Order => kernel_rfl)
  (case n_Order_many => k_is)
  (case n_Order_beneath => k_is)
  (case n_Order_neighbours => k_is)
  (case aC_Great => k_is)
  (case vb_c_Great => kernel_rfl)
  (case n_Great_order => k_is)
  (case aC_Slide => k_is)
  (case vb_c_Slide => kernel_rfl)
  (case n_Slide_order => k_is)
  (case aC_Above => k_is)
  (case vb_c_Above => kernel_rfl)
  (case n_Above_order => k_is)
  (case aC_Below => k_is)
  (case vb_c_Below => kernel_rfl)
  (case n_Below_order => k_is)
  (case aC_Turn => k_is)
  (case vb_Great_Great => kernel_rfl)
  (case vb_Slide_Great => kernel_rfl)
  (case vb_Above_Great => kernel_rfl)
  (case vb_Below_Great => kernel_rfl)
  (case vb_Great_Slide => kernel_rfl)
  (case vb_Slide_Slide => kernel_rfl)
  (case vb_Above_Slide => kernel_rfl)
  (case vb_Below_Slide => kernel_rfl)
  (case vb_Great_Above => kernel_rfl)
  (case vb_Slide_Above => kernel_rfl)
  (case vb_Above_Above => kernel_rfl)
  (case vb_Below_Above => kernel_rfl)
  (case vb_Great_Below => kernel_rfl)
  (case vb_Slide_Below => kernel_rfl)
  (case vb_Above_Below => kernel_rfl)
  (case vb_Below_Below => kernel_rfl)
  (case vb_Great_Turn => kernel_rfl)
  (case vb_Slide_Turn => kernel_rfl)
  (case vb_Above_Turn => kernel_rfl)
  (case vb_Below_Turn => kernel_rfl)
  (case vb_u_Great => kernel_rfl)
  (case vb_u_Slide => kernel_rfl)
  (case vb_u_Above => kernel_rfl)
  (case vb_u_Below => kernel_rfl)
  (case xa_T => k_is)
  (case xa_NoCount => k_is)
  (case xi_NoCount => k_is)
  (case xa_NoPair => k_is)
  (case xi_NoPair => k_is)
  (case xa_NoThing => k_is)
  (case xi_NoThing => k_is)
  (case xa_NoDownset => k_is)
  (case xa_NoLine => k_is)
  (case a0 => k_is)
  (case F0 => exact L3.funX_mk (by k_is) (by k_is) (by k_is))
  (case a1 => k_is)
  (case F1 => exact L3.funX_mk (by k_is) (by k_is) (by k_is))
  (case a2 => k_is)
  (case F2 => exact L3.funX_mk (by k_is) (by k_is) (by k_is))
  (case a3 => k_is)
  (case F3 => exact L3.funX_mk (by k_is) (by k_is) (by k_is))
  (case a4 => k_is)
  (case F4 => exact L3.funX_mk (by k_is) (by k_is) (by k_is))
  (case a5 => k_is)
  (case F5 => exact L3.funX_mk (by k_is) (by k_is) (by k_is))
  (case a6 => k_is)
  (case F6 => exact L3.funX_mk (by k_is) (by k_is) (by k_is))
  (case a7 => k_is)
  (case F7 => exact L3.funX_mk (by k_is) (by k_is) (by k_is))
  (case a8 => k_is)
  (case F8 => exact L3.funX_mk (by k_is) (by k_is) (by k_is))
  (case a9 => k_is)
  (case F9 => exact L3.funX_mk (by k_is) (by k_is) (by k_is))
  (case a10 => k_is)
  (case F10 => exact L3.funX_mk (by k_is) (by k_is) (by k_is))
  (case a11 => k_is)
  (case i11 => k_is)
  (case F11 => exact L3.funX_mk (by k_is) (by k_is) (by k_is))
  (case a12 => k_is)
  (case F12 => exact L3.funX_mk (by k_is) (by k_is) (by k_is))
  (case a13 => k_is)
  (case F13 => exact L3.funX_mk (by k_is) (by k_is) (by k_is))
  (case a14 => k_is)
  (case F14 => exact L3.funX_mk (by k_is) (by k_is) (by k_is))
  (case a15 => k_is)
  (case F15 => exact L3.funX_mk (by k_is) (by k_is) (by k_is))
  (case a16 => k_is)
  (case i16 => k_is)
  (case F16 => exact L3.funX_mk (by k_is) (by k_is) (by k_is))
  (case a17 => k_is)
  (case i17 => k_is)
  (case F17 => exact L3.funX_mk (by k_is) (by k_is) (by k_is))
  (case a18 => k_is)
  (case i18 => k_is)
  (case F18 => exact L3.funX_mk (by k_is) (by k_is) (by k_is))
  (case a19 => k_is)
  (case i19 => k_is)
  (case F19 => exact L3.funX_mk (by k_is) (by k_is) (by k_is))
  (case a20 => k_is)
  (case F20 => exact L3.funX_mk (by k_is) (by k_is) (by k_is))
  (case a21 => k_is)
  (case i21 => k_is)
  (case F21 => exact L3.funX_mk (by k_is) (by k_is) (by k_is))
  (case a22 => k_is)
  (case F22 => exact L3.funX_mk (by k_is) (by k_is) (by k_is))
  (case a23 => k_is)
  (case F23 => exact L3.funX_mk (by k_is) (by k_is) (by k_is))
  (case a24 => k_is)
  (case F24 => exact L3.funX_mk (by k_is) (by k_is) (by k_is))
  (case a25 => k_is)
  (case F25 => exact L3.funX_mk (by k_is) (by k_is) (by k_is))
  (case a26 => k_is)
  (case F26 => exact L3.funX_mk (by k_is) (by k_is) (by k_is))
  (case a27 => k_is)
  (case F27 => exact L3.funX_mk (by k_is) (by k_is) (by k_is))
  (case a28 => k_is)
  (case F28 => exact L3.funX_mk (by k_is) (by k_is) (by k_is))
  (case a29 => k_is)
  (case F29 => exact L3.funX_mk (by k_is) (by k_is) (by k_is))
  (case a30 => k_is)
  (case i30 => k_is)
  (case F30 => exact L3.funX_mk (by k_is) (by k_is) (by k_is))
  (case a31 => k_is)
  (case i31 => k_is)
  (case F31 => exact L3.funX_mk (by k_is) (by k_is) (by k_is))
  (case a32 => k_is)
  (case F32 => exact L3.funX_mk (by k_is) (by k_is) (by k_is))
  (case a33 => k_is)
  (case F33 => exact L3.funX_mk (by k_is) (by k_is) (by k_is))
  (case a34 => k_is)
  (case F34 => exact L3.funX_mk (by k_is) (by k_is) (by k_is))
  (case a35 => k_is)
  (case F35 => exact L3.funX_mk (by k_is) (by k_is) (by k_is))
  (case a36 => k_is)
  (case F36 => exact L3.funX_mk (by k_is) (by k_is) (by k_is))
  (case a37 => k_is)
  (case F37 => exact L3.funX_mk (by k_is) (by k_is) (by k_is))
  (case a38 => k_is)
  (case F38 => exact L3.funX_mk (by k_is) (by k_is) (by k_is))
  (case a39 => k_is)
  (case i39 => k_is)
  (case F39 => exact L3.funX_mk (by k_is) (by k_is) (by k_is))
  (case a40 => k_is)
  (case i40 => k_is)
  (case F40 => exact L3.funX_mk (by k_is) (by k_is) (by k_is))
  (case a41 => k_is)
  (case F41 => exact L3.funX_mk (by k_is) (by k_is) (by k_is))
  (case a42 => k_is)
  (case F42 => exact L3.funX_mk (by k_is) (by k_is) (by k_is))
  (case a43 => k_is)
  (case i43 => k_is)
  (case F43 => exact L3.funX_mk (by k_is) (by k_is) (by k_is))
  (case a44 => k_is)
  (case i44 => k_is)
  (case F44 => exact L3.funX_mk (by k_is) (by k_is) (by k_is))
  (case a45 => k_is)
  (case i45 => k_is)
  (case F45 => exact L3.funX_mk (by k_is) (by k_is) (by k_is))
  (case a46 => k_is)
  (case F46 => exact L3.funX_mk (by k_is) (by k_is) (by k_is))
  (case a47 => k_is)
  (case i47 => k_is)
  (case F47 => exact L3.funX_mk (by k_is) (by k_is) (by k_is))
  (case a48 => k_is)
  (case i48 => k_is)
  (case F48 => exact L3.funX_mk (by k_is) (by k_is) (by k_is))
  (case a49 => k_is)
  (case i49 => k_is)
  (case F49 => exact L3.funX_mk (by k_is) (by k_is) (by k_is))
  (case a50 => k_is)
  (case i50 => k_is)
  (case F50 => exact L3.funX_mk (by k_is) (by k_is) (by k_is))
  (case a51 => k_is)
  (case l51 => k_is)
  (case c51 => k_is)
  (case k51 => k_is)
  (case a52 => k_is)
  (case i52 => k_is)
  (case F52 => exact L3.funX_mk (by k_is) (by k_is) (by k_is))
  (case xb_T => kernel_rfl)
  (case xb_all => kernel_rfl)
  (case xq_bits => k_is)
  (case xb_ToggleError => kernel_rfl)
  (case xv_V => k_is)
  (case xb_V => kernel_rfl)
  (case xb_NoLine => kernel_rfl)
  (case xb_NoDownset => kernel_rfl)
  (case xb_s_NoDownset => kernel_rfl)
  (case xb_s_NoLine => kernel_rfl)
  (case xn_NoDownset_bits => k_is)
  (case g_MOST_THINGS => k_is)
  (case z0 => k_is)
  (case z1 => k_is)
  (case z2 => k_is)
  (case z3 => k_is)
  (case z4 => k_is)
  (case z5 => k_is)
  (case z6 => k_is)
  (case z7 => k_is)
  (case z8 => k_is)
  (case z9 => k_is)
  (case z10 => k_is)
  (case z11 => k_is)
  (case z12 => k_is)
  (case z13 => k_is)
  (case z14 => k_is)
  (case z15 => k_is)
  (case z16 => k_is)
  (case z17 => k_is)
  (case z18 => k_is)