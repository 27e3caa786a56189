import PyProof.Rows.All
import Wide.All
import OpenK.AllK
import Wide.FinOn
import Lean
import PyProof.EqAt
import PyProof.EqKinds
import PyProof.TupleCall
import KE.IntBitsLaws
import KE.KFind
import PyProof.ListRange
import KE.KRevIter
import PySem.SetOps
import PyProof.Rows.SetFrom
import PyProof.Rows.SortWalk
import PyProof.CollectWalk
import PyProof.ListNew
import PyProof.SetRoads
import PyProof.MeetsSeq2
import PyProof.MeetsSeq3
import PyProof.StationsW
import PyProof.ExcInit
import PyProof.InstStoreFacts
import PyProof.RulesAs
import PyProof.RulesDel
import PyProof.ExcArgs
import KE.KSortTup
import PyProof.Draws
import PyProof.TupleOfGen
import PyProof.ZipIter
import PyProof.TupleKey
import PyProof.SetKind
import PyProof.IsRules
import PyProof.WalkLemmas
import PyProof.DictKinds
import PyProof.ReprRoads
import PyProof.ReprLen
import PySem.Challenge.RW_toggleclock_k25_lines_refused
set_option Elab.async false
set_option linter.all false
set_option maxRecDepth 100000
set_option maxHeartbeats 4000000
variable {κ α β γ δ ε α1 α2 α3:Type}{us its bm sub:List PySem.Value}{x name qual nm:PySem.Str}{u v cdv vl vu cv:PySem.Value}{a it C dx sl CT je:PySem.Addr}{o ox:PySem.Obj}{h h' h1 base:PySem.Heap}{items:Array PySem.Value}{P:List (Nat×Nat)}{w:PySem.World}{e tg iter value:PySem.Expr}{pins:List (PySem.Addr×PySem.Obj)}{s s':PySem.Shared}{g' g g'':Int->Int->Bool}{t' i j n k' ep:Nat}{ch fp:List PySem.Addr}{N ns ps loose own sn:List PySem.Str}{M:PySem.Model}{A:PySem.Around}{E Q Ex Q₁:PySem.Value->PySem.Shared->Prop}{pos pos' p apos cpos:PySem.Pos}{op:α->β->Option γ}{K:PySem.W.Frag}{st:PySem.Stmt}{es:List PySem.Expr}{body:List PySem.Stmt}{vs:List (κ×PySem.Value)}{l:List α}{r:δ}{op':PySem.CmpOp}{mA mg mN:PySem.Str->Option PySem.Value}{prog:PySem.Program}{expr hdct ab:Bool}{pl:PySem.Sem Bool}{R:α->β->Prop}{kw:List (PySem.Str×PySem.Value)}{env:PySem.Env}{fd:PySem.FuncData}{outer:List PySem.Env}{kindOf:PySem.Str->Option PySem.NameKind}{sc scope:PySem.Scope}{an d fo fo' fo_T:Option PySem.Addr}{od:Option PySem.Obj}{osl:Array (Option PySem.Value)}{T:Option (PySem.Addr×PySem.Value)}{lo hi ma mi:Option Int}{XP:(PySem.Str->Option PySem.Value)->PySem.Heap->Prop}{YP:PySem.World->PySem.Heap->Prop}{m mr mm_:Option (List α)}{ix L ks:List Nat}{mb:Option β}{ml:Option (List (κ×α))}{mh:Option (Option Int)}{m' n' col:Option Bool}{mc:Int->Option Bool}{m1:Option α1}{m2:Option α2}{B:Option δ}{b0:β}{kk:β->Option δ}{me:Int->Option β}{x1:α1}{x2:α2}{ll:List (List α)}{fM:β->Option β}{S:Int->Bool}{k0 k1 k2 k3 k5:Option PySem.Value}{mk:Option κ}{nss:List (List PySem.Str)}{tbl:Nat->List Nat}{row:List Int}
namespace L2
open PySem PySem.Spec PyProof.Rows
theorem Xa:type_of% @wpAny_bind:=@wpAny_bind
theorem Xb:type_of% @Heap.get?_push_of_some:=@Heap.get?_push_of_some
theorem Xd:type_of% @wpAny_pure:=@wpAny_pure
theorem Xg:type_of% @List.getElem?_eq_getElem:=@List.getElem?_eq_getElem
theorem Xh:type_of% @Nat.le_refl:=@Nat.le_refl
theorem Xi:type_of% @decide_eq_false:=@decide_eq_false
theorem Xj:type_of% @List.mem_cons_of_mem:=@List.mem_cons_of_mem
theorem Xk:type_of% @decide_eq_true:=@decide_eq_true
theorem Xl:type_of% @List.map_cons:=@List.map_cons
theorem Xn:type_of% @List.mem_cons_self:=@List.mem_cons_self
theorem Xo:type_of% @Heap.get?_push_size:=@Heap.get?_push_size
theorem Xp:type_of% @List.length_map:=@List.length_map
theorem Xq:type_of% @W.mg_of:=@W.mg_of
theorem Xs:type_of% @List.size_toArray:=@List.size_toArray
theorem Xt:type_of% @List.getElem?_map:=@List.getElem?_map
theorem Xu:type_of% @Heap.lt_size:=@Heap.lt_size
theorem Xv:type_of% @List.mem_range:=@List.mem_range
theorem Xw:type_of% @decide_eq_true_eq:=@decide_eq_true_eq
theorem Xx:type_of% @Nat.lt_of_lt_of_le:=@Nat.lt_of_lt_of_le
theorem Xy:type_of% @Bool.false_ne_true:=@Bool.false_ne_true
theorem Xz:type_of% @List.length_range:=@List.length_range
theorem XA:type_of% @List.mem_of_getElem?:=@List.mem_of_getElem?
theorem XB:type_of% @List.mem_cons:=@List.mem_cons
theorem XC:type_of% @List.mem_singleton:=@List.mem_singleton
theorem XE:type_of% @W.mg_none_of:=@W.mg_none_of
theorem XF:type_of% @Nat.ne_of_lt:=@Nat.ne_of_lt
theorem XG:type_of% @List.mem_append:=@List.mem_append
theorem XH:type_of% @sizeLine_eq:=@sizeLine_eq
theorem XI:type_of% @Nat.le_trans:=@Nat.le_trans
theorem XL:type_of% @List.nodup_cons:=@List.nodup_cons
theorem XM:type_of% @Bool.eq_iff_iff:=@Bool.eq_iff_iff
theorem XN:type_of% @wpAny_newObj_type:=@wpAny_newObj_type
theorem XQ:type_of% @List.length_cons:=@List.length_cons
theorem XR:type_of% @List.length_append:=@List.length_append
theorem XT:type_of% @Bool.not_true:=@Bool.not_true
theorem XU:type_of% @List.append_nil:=@List.append_nil
theorem XV:type_of% @List.mem_append_right:=@List.mem_append_right
theorem XW:type_of% @wpAny_mono:=@wpAny_mono
theorem XZ:type_of% @PySem.F.plainAttrs_list:=@PySem.F.plainAttrs_list
theorem X1:type_of% @List.getD_eq_getElem?_getD:=@List.getD_eq_getElem?_getD
theorem X6:type_of% @Bool.and_eq_true:=@Bool.and_eq_true
theorem X7:type_of% @wpAny_truthy_bool:=@wpAny_truthy_bool
theorem X8:type_of% @List.sum_cons:=@List.sum_cons
theorem X9:type_of% @Int.toNat_natCast:=@Int.toNat_natCast
theorem wa:type_of% @List.getElem?_set_ne:=@List.getElem?_set_ne
theorem wb:type_of% @cond_false:=@cond_false
theorem wc:type_of% @Heap.get?_update_other:=@Heap.get?_update_other
theorem wd:type_of% @List.find?_cons:=@List.find?_cons
theorem we:type_of% @PySem.F.type_list_append:=@PySem.F.type_list_append
theorem wf:type_of% @PySem.F.slot_list_append:=@PySem.F.slot_list_append
theorem wg:type_of% @List.all_eq_true:=@List.all_eq_true
theorem wj:type_of% @Heap.get?_update_self:=@Heap.get?_update_self
theorem wm:type_of% @cond_true:=@cond_true
theorem wn:type_of% @Bool.not_false:=@Bool.not_false
theorem wo:type_of% @W.kia_one:=@W.kia_one
theorem wp:type_of% @Obj.data_mapFields:=@Obj.data_mapFields
theorem wr:type_of% @PyProof.Rows.callWith_type1:=@PyProof.Rows.callWith_type1
theorem wt:type_of% @wpAny_loadPart_at:=@wpAny_loadPart_at
theorem wu:type_of% @PySem.mem_of_lookup:=@PySem.mem_of_lookup
theorem wv:type_of% @wpAny_field:=@wpAny_field
theorem ww:type_of% @List.map_append:=@List.map_append
theorem wx:type_of% @wpAny_call_entry:=@wpAny_call_entry
theorem wy:type_of% @List.lookup_cons:=@List.lookup_cons
theorem wA:type_of% @wpAny_holding:=@wpAny_holding
theorem wC:type_of% @Nat.zero_le:=@Nat.zero_le
theorem wD:type_of% @beq_iff_eq:=@beq_iff_eq
theorem wE:type_of% @List.length_reverse:=@List.length_reverse
theorem wF:type_of% @List.flatMap_append:=@List.flatMap_append
theorem wG:type_of% @Array.length_toList:=@Array.length_toList
theorem wH:type_of% @List.map_map:=@List.map_map
theorem wI:type_of% @List.getElem?_set_self:=@List.getElem?_set_self
theorem wJ:type_of% @Nat.lt_irrefl:=@Nat.lt_irrefl
theorem wK:type_of% @Heap.size_push:=@Heap.size_push
theorem wL:type_of% @List.mem_filter:=@List.mem_filter
end L2
namespace L2
open PySem PySem.Spec PyProof.Rows
abbrev Key:=Sum Int Str
def Yx:Key->Value->Bool
 | .inl k,v=>Value.isInt k v
 | .inr x,v=>Value.isStrOf x v
def jiZ (w:World):Key->Int
 | .inl k=>hashInt k
 | .inr x=>hashStr w x
theorem qh:∀ {k:Key}{v:Value},Yx k v=true->(∃ i t,k=Sum.inl i/\v=Value.int i t) \/ (∃ x t,k=Sum.inr x/\v=Value.str x t)
 | .inl i,v,h=>by
  obtain⟨t,e⟩:=Value.isInt_shape (k:=i) (v:=v) h;exact .inl ⟨i,t,rfl,e⟩
 | .inr x,v,h=>by
  obtain⟨t,e⟩:=Value.isStrOf_shape (x:=x) (v:=v) h;exact .inr ⟨x,t,rfl,e⟩
theorem ZG (i:Int) (t:Tok):Yx (.inl i) (.int i t)=true:=by simp[Yx,Value.isInt]
theorem ZH (x:Str) (t:Tok):Yx (.inr x) (.str x t)=true:=by simp[Yx,Value.isStrOf]
theorem jf_ (a b:Int):decide ((Sum.inl a:Key)=Sum.inl b)=(a==b):=by
 by_cases e:a=b
 ·subst e; simp
 ·have h:¬ (Sum.inl a:Key)=Sum.inl b:=fun q=>e (Sum.inl.inj q);rw[Xi h];exact(beq_eq_false_iff_ne.mpr e).symm
theorem jga (a b:Str):decide ((Sum.inr a:Key)=Sum.inr b)=decide (a=b):=by
 by_cases e:a=b
 ·subst e; simp
 ·have h:¬ (Sum.inr a:Key)=Sum.inr b:=fun q=>e (Sum.inr.inj q);rw[Xi h,Xi e]
theorem jgb (a:Int) (b:Str):decide ((Sum.inl a:Key)=Sum.inr b)=false:=Xi (fun q=>nomatch q)
theorem jgc (a:Str) (b:Int):decide ((Sum.inr a:Key)=Sum.inl b)=false:=Xi (fun q=>nomatch q)
def qE (prog:Program) (w:World):PySem.KeyKind prog w Key where
 is:=Yx
 hash:=jiZ w
 inj:=fun v a b ha hb=>by
  rcases qh ha with⟨i,t,rfl,rfl⟩ | ⟨x,t,rfl,rfl⟩
  ·rcases qh hb with⟨j,u,rfl,e⟩ | ⟨y,u,rfl,e⟩
   ·injection e with e1 _; rw[e1]
   ·exact nomatch e
  ·rcases qh hb with⟨j,u,rfl,e⟩ | ⟨y,u,rfl,e⟩
   ·exact nomatch e
   ·injection e with e1 _; rw[e1]
 byValue:=fun k v h=>by
  rcases qh h with⟨i,t,rfl,rfl⟩ | ⟨x,t,rfl,rfl⟩ <;> rfl
 pyHash:=fun hv h=>by
  rcases qh hv with⟨i,t,rfl,rfl⟩ | ⟨x,t,rfl,rfl⟩
  ·exact wpAny_pyHash_int h
  ·exact wpAny_pyHash_str h
 eqBool:=fun hu hv h=>by
  rcases qh hu with⟨i,t,rfl,rfl⟩ | ⟨x,t,rfl,rfl⟩
  ·rcases qh hv with⟨j,u,rfl,rfl⟩ | ⟨y,u,rfl,rfl⟩
   ·rw[jf_] at h; exact wpAny_eqBool_int h
   ·rw[jgb] at h; exact SeqAt.EqAt.int_str i t y u _ _ _ _ h
  ·rcases qh hv with⟨j,u,rfl,rfl⟩ | ⟨y,u,rfl,rfl⟩
   ·rw[jgc] at h; exact SeqAt.EqAt.str_int x t j u _ _ _ _ h
   ·rw[jga] at h; exact wpAny_eqBool_str h
 «strs»:=fun k x t v h=>by
  rcases qh h with⟨i,u,rfl,e⟩ | ⟨y,u,rfl,e⟩
  ·exact nomatch e
  ·injection e with e1 _
   subst e1;cases v <;> rfl
theorem VT (prog:Program) (w:World) (i:Int) (t:Tok):(qE prog w).is (.inl i) (.int i t)=true:=ZG i t
theorem VU (prog:Program) (w:World) (x:Str) (t:Tok):(qE prog w).is (.inr x) (.str x t)=true:=ZH x t
inductive V where
 | non | bl (b:Bool) | int (i:Int) | str (x:Str) | byt (b:Array UInt8) | flt (b:UInt64) | ref (a:Addr) | ty (n:String)
 deriving DecidableEq
def RelV:V->Value->Prop
 | .non,u=>u=Value.none
 | .bl b,u=>u=Value.bool b
 | .int i,u=>∃ t,u=Value.int i t
 | .str x,u=>∃ t,u=Value.str x t
 | .byt b,u=>∃ t,u=Value.bytes b t
 | .flt b,u=>∃ t,u=Value.float b t
 | .ref a,u=>u=Value.ref a
 | .ty n,u=>u=Value.type n
abbrev Vals:List V->List Value->Prop:=Paired RelV
theorem Vals.length {xs:List V} (r:Vals xs us):xs.length=us.length:=Paired.length r
theorem Vals.get:∀ {xs:List V}{us:List Value}{i:Nat}{x:V},Vals xs us->xs[i]?=some x->∃ u,us[i]?=some u/\RelV x u
 | _,_,_,_,.nil,e=>by simp at e
 | _,_,0,_,.cons r _,e=>by simp at e; subst e; exact ⟨_,rfl,r⟩
 | _,_,i+1,x,.cons _ t,e=>by
  obtain⟨u,h1,h2⟩:=Vals.get (i:=i) (x:=x) t (by simpa using e);exact⟨u,by simpa using h1,h2⟩
theorem Vals.set {x:V} (r:RelV x u):∀ {xs:List V}{us:List Value} (i:Nat),Vals xs us->Vals (xs.set i x) (us.set i u)
 | _,_,_,.nil=>.nil
 | _,_,0,.cons _ t=>.cons r t
 | _,_,i+1,.cons q t=>.cons q (Vals.set r i t)
theorem Vals.append:∀ {xs ys:List V}{us ws:List Value},Vals xs us->Vals ys ws->Vals (xs++ys) (us++ws)
 | _,_,_,_,.nil,s=>s
 | _,_,_,_,.cons r t,s=>.cons r (Vals.append t s)
theorem Vals.take:∀ {xs:List V}{us:List Value} (n:Nat),Vals xs us->Vals (xs.take n) (us.take n)
 | _,_,0,_=>.nil
 | _,_,_+1,.nil=>.nil
 | _,_,n+1,.cons r t=>.cons r (Vals.take n t)
theorem Vals.drop:∀ {xs:List V}{us:List Value} (n:Nat),Vals xs us->Vals (xs.drop n) (us.drop n)
 | _,_,0,r=>r
 | _,_,_+1,.nil=>.nil
 | _,_,n+1,.cons _ t=>Vals.drop n t
def RelO:Option V->Option Value->Prop
 | some v,some u=>RelV v u
 | none,none=>True
 | _,_=>False
def KV:List (κ×V)->List (κ×Value)->Prop:=Paired fun (p:κ×V) (q:κ×Value)=>p.1=q.1/\RelV p.2 q.2
def kV:Key->V
 | .inl i=>.int i
 | .inr x=>.str x
inductive HO where
 | lst (xs:List V)
 | tup (xs:List V)
 | dK (kvs:List (Key×V)) | dT (kvs:List (List Key×V))
 | set (S:Int->Bool) (n:Nat)
 | ins (C dx:Addr) (fs:List (Str×V))
 | own (x:Addr)
 | xd (fs:List (Str×V))
 | met (f x:Addr)
 | rng (lo hi:Int)
 | frz (o:Obj) (u:HO)
 | tbl (ps:Array Value)
 | ext (φ:Heap->Prop)
abbrev Hp:=Addr->Option HO
def upd (H:Hp) (a:Addr) (o:HO):Hp:=fun b=>if b=a then some o else H b
theorem jB {H:Hp}{o:HO}:upd H a o a=some o:=by unfold upd; rw[if_pos rfl]
theorem jz {H:Hp}{b:Addr}{o:HO} (h:b≠a):upd H a o b=H b:=by unfold upd; rw[if_neg h]
theorem jgd {H:Hp}{b:Addr}{o u:HO} (h:H a=some o) (h':H b=some u) (d:o≠u):a≠b:=by
 intro e; subst e; rw[h] at h'; exact d (Option.some.inj h')
theorem qF {H:Hp}{b:Addr}{o:HO} (h:H a=some o) (h':H b=none):a≠b:=by
 intro e; subst e; rw[h] at h'; cases h'
def TupO (h:Heap) (a:Addr) (items:Array Value):Prop:=∃ o,h.get? a=some o/\(o.cls=.type "tuple"/\o.dict=none)/\∃ n,o.data=.seq items n
theorem TupO.isTup (x:TupO h a items):IsTup h a items:=let ⟨o,e,c,d⟩:=x; ⟨o,e,c.1,d⟩
theorem TupO.lt (x:TupO h a items):a<h.objs.size:=x.isTup.lt
theorem TupO.new (h:Heap) (items:Array Value):TupO (h.push { cls:=.type "tuple",data:=.seq items }) h.objs.size items:=⟨_,Xo _ rfl,⟨rfl,rfl⟩,_,rfl⟩
section
variable (P:Program) (w:World)
def ObjOk (H:Hp) (h:Heap) (a:Addr):HO->Prop
 | .lst xs=>xs.length<=sizeLine/\∃ (its:List Value) (n:Nat),Vals xs its/\h.get? a=some { cls:=.type "list",data:=.seq its.toArray n }
 | .tup xs=>xs.length<=sizeLine/\∃ its:List Value,Vals xs its/\TupO h a its.toArray
 | .dK kvs=>kvs.length<=sizeLine/\(a==sysModules)=false/\∃ vs,KV kvs vs/\h.DictOf (qE P w) a vs
 | .dT kvs=>kvs.length<=sizeLine/\(a==sysModules)=false/\∃ xs:List (List Key×Addr×Value),
   Paired (fun (p:List Key×V) (q:List Key×Addr×Value)=>p.1=q.1/\H q.2.1=some (.tup (p.1.map kV))/\RelV p.2 q.2.2) kvs xs /\
   ∃ o es ep,h.get? a=some o/\o.ExactDict/\o.data=.dict es ep/\es.toList=xs.map (entryOfKey (tupleKind (qE P w)))/\(xs.map (·.1)).Nodup
 | .set S n=>h.SetOf (intKind P w) a S n
 | .ins C dx fs=>H dx=some (.own a)/\fs.length<=1000/\dx≠a/\h.get? a=some (W.instObj C dx) /\
   ∃ mA,h.Ns1 dx mA/\(∀ f,RelO (fs.lookup f) (mA f))/\PySem.Within mA (fs.map (·.1))
 | .own _=>∃ o,h.get? a=some o
 | .xd fs=>∃ mA,h.Ns1 a mA/\∀ f,RelO (fs.lookup f) (mA f)
 | .rng lo hi=>∃ t u v,h.get? a=some { cls:=.type "range",data:=.fields #[.int lo t,.int hi u,.int 1 v] }
 | .frz o u=>h.get? a=some o/\ObjOk H h a u
 | .tbl ps=>h.get? a=some { cls:=.none,data:=.fields ps }
 | .met f x=>h.get? a=some (W.methodObj (.ref f) (.ref x))
 | .ext φ=>φ h/\(∃ o,h.get? a=some o)/\∀ h1 h2:Heap,φ h1->(∀ o,h1.get? a=some o->h2.get? a=some o)->φ h2
def HOk (H:Hp) (h:Heap):Prop:=∀ a o,H a=some o->ObjOk P w H h a o
end
section
variable {P:Program}{H H':Hp}{o:HO}
theorem ObjOk.lt (x:ObjOk P w H h a o):a<h.objs.size:=by
 cases o with
 | lst xs=>obtain⟨_,_,_,_,e⟩:=x; exact Xu e
 | tup xs=>obtain⟨_,_,_,p⟩:=x; exact p.lt
 | dK kvs=>obtain⟨_,_,_,_,o,_,_,e,_⟩:=x; exact Xu e
 | dT kvs=>obtain⟨_,_,_,_,o,_,_,e,_⟩:=x; exact Xu e
 | set S n=>obtain⟨o,_,_,_,e,_⟩:=x; exact Xu e
 | ins C dx fs=>obtain⟨_,_,_,e,_⟩:=x; exact Xu e
 | own y=>obtain⟨_,e⟩:=x; exact Xu e
 | xd fs=>obtain⟨_,⟨_,_,_,e,_⟩,_⟩:=x; exact Xu e
 | rng lo hi=>obtain⟨_,_,_,e⟩:=x; exact Xu e
 | frz ob u=>obtain⟨e,_⟩:=x; exact Xu e
 | tbl ps=>exact Xu (show h.get? a=some _ from x)
 | met f y=>exact Xu (show h.get? a=some _ from x)
 | ext φ=>obtain⟨_,⟨_,e⟩,_⟩:=x; exact Xu e
theorem Paired.mapP {F G:α->β->Prop}:∀ {l₁:List α}{l₂:List β},Paired F l₁ l₂->(∀ a b,F a b->G a b)->Paired G l₁ l₂
 | _,_,.nil,_=>.nil
 | _,_,.cons r t,f=>.cons (f _ _ r) (Paired.mapP t f)
theorem ObjOk.stay (x:ObjOk P w H h a o) (k:∀ b u,(b=a \/ H b=some (.own a))->h.get? b=some u->h'.get? b=some u)
  (ho:∀ b,H b=some (.own a)->H' b=some (.own a)) (ht:∀ b xs,H b=some (.tup xs)->H' b=some (.tup xs)):ObjOk P w H' h' a o:=by
 induction o with
 | lst xs=>obtain⟨z,its,n,r,e⟩:=x; exact ⟨z,its,n,r,k _ _ (.inl rfl) e⟩
 | tup xs=>obtain⟨z,its,r,ob,e,c⟩:=x; exact ⟨z,its,r,ob,k _ _ (.inl rfl) e,c⟩
 | dK kvs=>obtain⟨z,y,vs,r,ob,es,ep,e,c⟩:=x; exact ⟨z,y,vs,r,ob,es,ep,k _ _ (.inl rfl) e,c⟩
 | dT kvs=>
  obtain⟨z,y,xs,r,ob,es,ep,e,c⟩:=x;exact⟨z,y,xs,Paired.mapP r fun p q z=>⟨z.1,ht _ _ z.2.1,z.2.2⟩,ob,es,ep,k _ _ (.inl rfl) e,c⟩
 | set S n=>obtain⟨ob,es,ep,t,e,c⟩:=x; exact ⟨ob,es,ep,t,k _ _ (.inl rfl) e,c⟩
 | ins C dx fs=>
  obtain⟨d,z,ne,e,mA,⟨od,es,ep,e2,c⟩,r⟩:=x;exact⟨ho _ d,z,ne,k _ _ (.inl rfl) e,mA,⟨od,es,ep,k _ _ (.inr d) e2,c⟩,r⟩
 | own y=>obtain⟨ob,e⟩:=x; exact ⟨ob,k _ _ (.inl rfl) e⟩
 | xd fs=>obtain⟨mA,⟨od,es,ep,e,c⟩,r⟩:=x; exact ⟨mA,⟨od,es,ep,k _ _ (.inl rfl) e,c⟩,r⟩
 | rng lo hi=>obtain⟨t,u,v,e⟩:=x; exact ⟨t,u,v,k _ _ (.inl rfl) e⟩
 | frz ob u ih=>obtain⟨e,q⟩:=x; exact ⟨k _ _ (.inl rfl) e,ih q⟩
 | tbl ps=>
  have e:h.get? a=some { cls:=.none,data:=.fields ps }:=x;show h'.get? a=some { cls:=.none,data:=.fields ps };exact k a _ (.inl rfl) e
 | met f y=>
  have e:h.get? a=some (W.methodObj (.ref f) (.ref y)):=x;show h'.get? a=some (W.methodObj (.ref f) (.ref y));exact k a _ (.inl rfl) e
 | ext φ=>obtain⟨p,⟨o,e⟩,st⟩:=x; exact ⟨st _ _ p fun o q=>k _ _ (.inl rfl) q,⟨o,k _ _ (.inl rfl) e⟩,st⟩
theorem HOk.lt (x:HOk P w H h) (e:H a=some o):a<h.objs.size:=(x a o e).lt
theorem HOk.fresh (x:HOk P w H h) (e:h.objs.size<=a):H a=none:=by
 cases q:H a with
 | none=>rfl
 | some u=>exact absurd (Xx (x.lt q) e) (wJ _)
theorem HOk.kept (x:HOk P w H h) (k:∀ b u,h.get? b=some u->h'.get? b=some u):HOk P w H h':=fun a o e=>
 (x a o e).stay (fun b u _ q=>k b u q) (fun _ q=>q) fun _ _ q=>q
theorem HOk.laid (x:HOk P w H h) (k:∀ b u,h.get? b=some u->h'.get? b=some u) (hp:h.objs.size<=a) (new:ObjOk P w (upd H a o) h' a o):HOk P w (upd H a o) h':=fun b u e=>by
 have hn:=x.fresh hp;by_cases hb:b=a
 ·subst hb; rw[jB] at e; cases e; exact new
 ·rw[jz hb] at e;exact(x b u e).stay (fun c v _ q=>k c v q) (fun c q=>by rw[jz (qF q hn)]; exact q) fun c xs q=>by rw[jz (qF q hn)]; exact q
end
def Rd (H:Hp) (a:Addr) (u:HO):Prop:=H a=some u \/ ∃ o,H a=some (.frz o u)
theorem Rd.ok {P:Program}{H:Hp}{u:HO} (r:Rd H a u) (x:HOk P w H h):ObjOk P w H h a u:=by
 rcases r with r | ⟨o,r⟩
 ·exact x a u r
 ·obtain⟨_,q⟩:=x a _ r;exact q
def Mut:Option HO->Prop
 | some (.lst _)=>True
 | some (.dK _)=>True
 | some (.dT _)=>True
 | some (.set _ _)=>True
 | some (.ins _ _ _)=>True
 | some (.ext _)=>True
 | _=>False
section
variable {P:Program}{H:Hp}{x e:Addr}{o':HO}
theorem HOk.write (ok:HOk P w H h) (mu:Mut (H x)) (he:e=x \/ H e=some (.own x)) (k:∀ b u,b≠e->h.get? b=some u->h'.get? b=some u) (heo:∃ u,h'.get? e=some u)
  (new:ObjOk P w (upd H x o') h' x o'):HOk P w (upd H x o') h':=fun b u q=>by
 have nown:∀ c y,H c=some (.own y)->c≠x:=fun c y r z=>by subst z; rw[r] at mu; exact mu
 have ntup:∀ c xs,H c=some (.tup xs)->c≠x:=fun c xs r z=>by subst z; rw[r] at mu; exact mu
 by_cases hb:b=x
 ·subst hb; rw[jB] at q; cases q; exact new
 ·rw[jz hb] at q;by_cases hbe:b=e
  ·have q':H b=some (.own x):=by
    rcases he with z | z
    ·exact absurd (hbe.trans z) hb
    ·rw[hbe]; exact z
   rw[q] at q'; cases q';obtain⟨v,hv⟩:=heo;exact⟨v,by rw[hbe]; exact hv⟩
  ·refine(ok b u q).stay (fun c v hc r=>k c v ?_ r) (fun c r=>by rw[jz (nown c b r)]; exact r) fun c xs r=>by rw[jz (ntup c xs r)]; exact r
   rcases hc with rfl | hc
   ·exact hbe
   ·rintro rfl;rcases he with z | z
    ·exact nown c b hc z
    ·rw[hc] at z; cases z; exact hb rfl
end
structure Un (fs ex:List Addr) (H H':Hp) (h h':Heap):Prop where
 keep:∀ b o,h.get? b=some o->H b=none->b∉fs->b∉ex->h'.get? b=some o
 slot:∀ b o,h.get? b=some o->H b=none->b∈fs->b∉ex->∃ sl,h'.get? b=some { o with slots:=sl }
 free:∀ b o,h.get? b=some o->H b=none->b∉ex->H' b=none
 there:∀ b o,h.get? b=some o->b∉ex->∃ o',h'.get? b=some o'
 tups:∀ b xs,H b=some (.tup xs)->H' b=some (.tup xs)
 frzs:∀ b o u,H b=some (.frz o u)->H' b=some (.frz o u)
 tbls:∀ b ps,H b=some (.tbl ps)->∃ more,H' b=some (.tbl (ps++more))
section
variable {fs fs' ex ex':List Addr}{H H1 H2:Hp}{h2:Heap}{x e:Addr}{o:HO}
theorem Un.any (u:Un fs ex H H1 h h1) {b:Addr}{ob:Obj} (q:h.get? b=some ob) (n:H b=none) (hx:b∉ex):∃ sl,h1.get? b=some { ob with slots:=sl }:=by
 by_cases hb:b∈fs
 ·exact u.slot b ob q n hb hx
 ·exact⟨ob.slots,u.keep b ob q n hb hx⟩
theorem Un.kept (k:∀ b u,h.get? b=some u->h'.get? b=some u):Un fs ex H H h h':=
 ⟨fun b ob q _ _ _=>k b ob q,fun b ob q _ _ _=>⟨ob.slots,k b ob q⟩,fun _ _ _ n _=>n,fun b ob q _=>⟨ob,k b ob q⟩,fun _ _ q=>q,fun _ _ _ q=>q,fun _ ps q=>⟨#[],by rw[q]; simp⟩⟩
theorem Un.refl:Un fs ex H H h h:=Un.kept fun _ _ q=>q
theorem Un.laid (k:∀ b u,h.get? b=some u->h'.get? b=some u) (hp:h.objs.size<=a) (hn:H a=none):Un fs ex H (upd H a o) h h' where
 keep:=fun b u q _ _ _=>k b u q
 slot:=fun b u q _ _ _=>⟨u.slots,k b u q⟩
 free:=fun b u q n _=>by rw[jz (XF (Xx (Xu q) hp))]; exact n
 there:=fun b u q _=>⟨u,k b u q⟩
 tups:=fun b xs q=>by rw[jz (qF q hn)]; exact q
 frzs:=fun b u xs q=>by rw[jz (qF q hn)]; exact q
 tbls:=fun b ps q=>⟨#[],by rw[jz (qF q hn),q]; simp⟩
theorem Un.write (mu:Mut (H x)) (he:e=x \/ H e=some (.own x)) (k:∀ b u,b≠e->h.get? b=some u->h'.get? b=some u) (heo:∃ u,h'.get? e=some u):Un fs ex H (upd H x o) h h':=by
 have hx:∀ b,H b=none->b≠x:=fun b n z=>by subst z; rw[n] at mu; exact mu
 have hb:∀ b,H b=none->b≠e:=fun b n z=>by
  subst z;rcases he with r | r
  ·exact hx b n r
  ·rw[n] at r; cases r
 have hm:∀ b u,H b=some u->¬ Mut (some u)->b≠x:=fun b u q nm z=>by subst z; rw[q] at mu; exact nm mu
 refine⟨fun b u q n _ _=>k b u (hb b n) q,fun b u q n _ _=>⟨u.slots,k b u (hb b n) q⟩,fun b u q n _=>by rw[jz (hx b n)]; exact n,fun b u q _=>?_,
  fun b xs q=>by rw[jz (hm b _ q fun z=>z)]; exact q,fun b u xs q=>by rw[jz (hm b _ q fun z=>z)]; exact q,fun b ps q=>⟨#[],by rw[jz (hm b _ q fun z=>z),q]; simp⟩⟩
 by_cases hbe:b=e
 ·subst hbe; exact heo
 ·exact⟨u,k b u hbe q⟩
end
def trk (h:Heap) (H:Hp):List Addr:=(List.range h.objs.size).filter fun a=>(H a).isSome
def jb7 (h:Heap) (H:Hp):Heap:=W.hideAll h (trk h H)
theorem ZI (h:Heap) (H:Hp):(jb7 h H).objs.size=h.objs.size:=W.hideAll_size _ _
theorem jb8 {H:Hp}{b:Addr} (e:h.get? b=some o) (n:H b=none):(jb7 h H).get? b=some o:=
 W.hideAll_get _ e fun hm=>by
  have q:(H b).isSome=true:=(wL.mp hm).2;rw[n] at q; simp at q
theorem jez {H:Hp}{b:Addr} (e:(jb7 h H).get? b=some o):h.get? b=some o/\H b=none:=by
 have e':h.get? b=some o:=W.of_hideAll (trk h H) e;refine⟨e',?_⟩;cases q:H b with
 | none=>rfl
 | some x=>
  have hm:b∈trk h H:=wL.mpr ⟨Xv.mpr (Xu e'),by simp[q]⟩;have z:(jb7 h H).get? b=none:=W.hideAll_none (trk h H) hm;rw[z] at e; cases e
def jeA (g h:Heap) (L:Addr):List (Addr×Obj):=(List.range h.objs.size).filterMap fun a=>if a=L \/ (g.get? a).isSome=true then none else (h.get? a).map fun o=>(a,o)
def rest (g h:Heap) (L d:Addr):List (Addr×Obj):=(jeA g h L).filter fun p=>decide (p.1≠d)
structure Mod (K:W.Frag) (mg:Str->Option Value) (base:Heap):Prop where
 kin:K.In base
 glob:base.Ns mainGlobals mg
 blt:∃ mb,base.Ns builtinsNs mb/\∀ x:Str,x≠"__name__"->mb x=bootBuiltins x
 nolimit:base.NoLimit
structure Cx where
 prog:Program
 w:World
 K:W.Frag
 mg:Str->Option Value
 base:Heap
 A:Around
 N:List Str
 s₀:Shared
 H₀:Hp
 env:Env
 outer:List Env
 stack:List Env
 ex:List Addr
 fn:Str->Bool
 calm:Bool
 pn:List (Addr×Obj)
 xe:Value->Shared->Prop
def frs (l:List Env):List Addr:=l.filterMap (·.frame)
abbrev Cx.fs (X:Cx):List Addr:=frs X.outer
def Vis (sc:Scope) (x:Str):Prop:=sc.names.lookup x=some .local \/ sc.names.lookup x=some .cell \/ sc.names.lookup x=some .free
def Loc (sc:Scope) (x:Str):Prop:=sc.names.lookup x=some .local \/ sc.names.lookup x=some .cell
def jiK (env:Env) (h:Heap) (m:Str->Option Value) (x:Str) (u:Value):Prop:=
 (env.kindOf x=some .local/\m x=some u) \/ ((env.kindOf x=some .cell \/ env.kindOf x=some .free)/\∃ c,env.cells.lookup x=some c/\h.IsCell c (some u))
structure Cx.Ok (X:Cx):Prop where
 mod:Mod X.K X.mg X.base
 kind:X.env.scope.kind=.function
 glob:X.env.globals=mainGlobals
 blt:X.env.builtins=builtinsNs
 above:X.s₀.heap.objs.size<=X.env.locals
 inj:∀ x y c,X.env.cells.lookup x=some c->X.env.cells.lookup y=some c->x=y
 has:∀ x,(X.env.kindOf x=some .cell \/ X.env.kindOf x=some .free)->∃ c,X.env.cells.lookup x=some c
 cab:∀ x c,X.fn x=true->X.env.cells.lookup x=some c->X.s₀.heap.objs.size<=c
 hd:X.calm=true->X.A.handled=none
 frames:X.A.frames=some X.stack
 stk:X.stack=X.outer \/ (X.stack=X.env::X.outer/\X.env.frame=some X.env.locals)
 exf:∀ b∈X.ex,b≠X.env.locals/\∀ x c,X.env.cells.lookup x=some c->c≠b
 bs:∀ b o,X.base.get? b=some o->X.s₀.heap.get? b=some o/\X.H₀ b=none
 bsz:X.base.objs.size<=X.s₀.heap.objs.size
 noex:∀ b o,X.base.get? b=some o->b∉X.ex
 exfs:∀ b∈X.ex,b∉X.fs
 funs:X.s₀.heap.FunFrames X.base X.outer
 frf:∀ b∈X.fs,X.H₀ b=none
structure Inv (X:Cx) (pins:List (Addr×Obj)) (σ:List (Option V)) (H:Hp) (s:Shared):Prop where
 ok:X.Ok
 os:s.os=X.s₀.os
 bare:AllBare s.gens
 base:Un X.fs X.ex X.H₀ H X.s₀.heap s.heap
 loc:∃ m,s.heap.Ns X.env.locals m/\∀ (i:Nat) (x:Str) (v:V),X.N[i]?=some x->σ[i]?=some (some v)->Vis X.env.scope x->∃ u,RelV v u/\jiK X.env s.heap m x u
 cell:∀ x c,X.env.cells.lookup x=some c->∃ v,s.heap.IsCell c v
 free:H X.env.locals=none
 freeC:∀ x c,X.env.cells.lookup x=some c->H c=none
 pin:∀ p∈X.pn++pins,s.heap.get? p.1=some p.2/\H p.1=none/\p.1≠X.env.locals/\p.1∉X.fs/\∀ v,p.2.data≠.cell v
 hok:HOk X.prog X.w H s.heap
 len:σ.length=X.N.length
section
variable {X:Cx}{σ:List (Option V)}{H H':Hp} 
theorem Cx.Ok.nofr (ok:X.Ok) {b:Addr} (e:X.base.get? b=some o):b∉X.fs:=fun hb=>by
 have:=(ok.funs.mem hb).1;rw[e] at this; cases this
theorem Inv.bs (I:Inv X pins σ H s):∀ b o,X.base.get? b=some o->s.heap.get? b=some o/\H b=none:=fun b o e=>
 ⟨I.base.keep b o (I.ok.bs b o e).1 (I.ok.bs b o e).2 (I.ok.nofr e) (I.ok.noex b o e),I.base.free b o (I.ok.bs b o e).1 (I.ok.bs b o e).2 (I.ok.noex b o e)⟩
theorem Inv.bk (I:Inv X pins σ H s):∀ b o,X.base.get? b=some o->s.heap.get? b=some o:=fun b o e=>(I.bs b o e).1
theorem Inv.mod (I:Inv X pins σ H s):Mod X.K X.mg X.base:=I.ok.mod
theorem Inv.kIn (I:Inv X pins σ H s):X.K.In s.heap:=I.ok.mod.kin.keeps I.bk
theorem Inv.nolimit (I:Inv X pins σ H s):s.heap.NoLimit:=I.ok.mod.nolimit.keeps I.bk
theorem Inv.fr (I:Inv X pins σ H s):∃ m,Fr X.base X.env.locals s.heap m:=
 let ⟨m,hn,_⟩:=I.loc
 ⟨m,hn,I.bk,XI I.ok.bsz I.ok.above⟩
theorem Inv.lt (I:Inv X pins σ H s):X.env.locals<s.heap.objs.size:=let ⟨_,hn,_⟩:=I.loc; hn.lt
theorem Inv.sz (I:Inv X pins σ H s):X.s₀.heap.objs.size<=s.heap.objs.size:=XI I.ok.above (Nat.le_of_lt I.lt)
theorem Inv.nofs (I:Inv X pins σ H s) (h:s.heap.objs.size<=a):a∉X.fs:=fun hb=>by
 obtain⟨_,o,ho,_⟩:=I.ok.funs.mem hb;exact absurd (Xx (Xu ho) (XI I.sz h)) (wJ _)
theorem Inv.cne (I:Inv X pins σ H s):∀ x c,X.env.cells.lookup x=some c->c≠X.env.locals:=fun x c e z=>by
 obtain⟨v,o,ho,hd⟩:=I.cell x c e;obtain⟨m,⟨o',es,ep,ho',hd',_⟩,_⟩:=I.loc;rw[z,ho'] at ho; cases ho; rw[hd'] at hd; cases hd
theorem Inv.funs (I:Inv X pins σ H s):s.heap.FunFrames X.base X.outer:=by
 have all:∀ (l:List Env),(∀ b∈frs l,b∈X.fs)->X.s₀.heap.FunFrames X.base l->s.heap.FunFrames X.base l:=by
  intro l
  induction l with
  | nil=>intro _ _; trivial
  | cons env r ih=>
   intro hs hl;obtain⟨hk,⟨L,o,hf,hn,ho,hd⟩,hr⟩:=hl;have hL:L∈X.fs:=hs L (by unfold frs; rw[List.filterMap_cons,hf]; exact Xn);obtain⟨sl,e⟩:=I.base.slot L o ho (I.ok.frf L hL) hL fun z=>I.ok.exfs L z hL;exact⟨hk,⟨L,_,hf,hn,e,hd⟩,ih (fun b hb=>hs b (by unfold frs; rw[List.filterMap_cons,hf]; exact Xj _ hb)) hr⟩
 exact all X.outer (fun _ hb=>hb) I.ok.funs
theorem Inv.stack (I:Inv X pins σ H s):s.heap.FunFrames X.base X.stack:=by
 rcases I.ok.stk with e | ⟨e,hf⟩
 ·rw[e]; exact I.funs
 ·rw[e];obtain⟨m,hn,_⟩:=I.loc;refine .cons (by rw[I.ok.kind]; decide) hf hn ?_ I.funs;exact Heap.get?_none_of_le (XI I.ok.bsz I.ok.above)
theorem Inv.stkSub (I:Inv X pins σ H s):∀ b∈frs X.stack,b∈X.env.locals::X.fs:=fun b hb=>by
 rcases I.ok.stk with e | ⟨e,hf⟩
 ·rw[e] at hb; exact Xj _ hb
 ·rw[e] at hb;unfold frs at hb;rw[List.filterMap_cons,hf] at hb;exact hb
theorem Inv.stkFree (I:Inv X pins σ H s):∀ b∈frs X.stack,H b=none:=fun b hb=>by
 rcases XB.mp (I.stkSub b hb) with e | hb
 ·rw[e]; exact I.free
 ·obtain⟨_,o,ho,_⟩:=I.ok.funs.mem hb;exact I.base.free b o ho (I.ok.frf b hb) fun z=>I.ok.exfs b z hb
theorem Inv.step {g':Array GenState}{d':Drawn} (I:Inv X pins σ H s)
  (hch:∀ b∈ch,(b∈X.ex \/ X.s₀.heap.objs.size<=b)/\b≠X.env.locals/\(∀ x c,X.env.cells.lookup x=some c->c≠b)/\∀ p∈X.pn++pins,p.1≠b)
  (keep:∀ b o,b≠X.env.locals->b∉X.fs->b∉ch->s.heap.get? b=some o->H b=none->h'.get? b=some o)
  (slot:∀ b o,b≠X.env.locals->b∈X.fs->b∉ch->s.heap.get? b=some o->H b=none->∃ sl,h'.get? b=some { o with slots:=sl }) (free:∀ b o,b∉ch->s.heap.get? b=some o->H b=none->H' b=none)
  (there:∀ b o,b∉ch->s.heap.get? b=some o->∃ o',h'.get? b=some o')
  (tups:∀ b xs,H b=some (.tup xs)->H' b=some (.tup xs)) (frzs:∀ b o u,H b=some (.frz o u)->H' b=some (.frz o u)) (tbls:∀ b ps,H b=some (.tbl ps)->∃ more,H' b=some (.tbl (ps++more)))
  (ns:∀ m,s.heap.Ns X.env.locals m->h'.Ns X.env.locals m) (hok:HOk X.prog X.w H' h') (hg:AllBare g') :
  Inv X pins σ H' { s with heap:=h',gens:=g',drawn:=d',toks:=t' }:=by
 have neL:∀ b o,X.s₀.heap.get? b=some o->b≠X.env.locals:=fun b o e=>XF (Xx (Xu e) I.ok.above);have neC:∀ b o,X.s₀.heap.get? b=some o->b∉X.ex->b∉ch:=fun b o e hx hb=>by
  rcases (hch b hb).1 with z | z
  ·exact hx z
  ·exact absurd (Xx (Xu e) z) (wJ _)
 have cellK:∀ x c,X.env.cells.lookup x=some c->∀ v,s.heap.IsCell c v->h'.IsCell c v:=fun x c e v ⟨o,ho,hd⟩=>by
  have nch:c∉ch:=fun z=>(hch c z).2.2.1 x c e rfl;by_cases hc:c∈X.fs
  ·obtain⟨sl,q⟩:=slot c o (I.cne x c e) hc nch ho (I.freeC x c e);exact⟨_,q,hd⟩
  ·exact⟨o,keep c o (I.cne x c e) hc nch ho (I.freeC x c e),hd⟩
 refine⟨I.ok,I.os,hg,⟨fun b o e n hb hx=>?_,fun b o e n hb hx=>?_,fun b o e n hx=>?_,fun b o e hx=>?_,fun b xs e=>tups b xs (I.base.tups b xs e),fun b o xs e=>frzs b o xs (I.base.frzs b o xs e),fun b ps e=>?_⟩,?_,fun x c e=>?_,?_,fun x c e=>?_,fun p hp=>?_,hok,I.len⟩
 ·exact keep b o (neL b o e) hb (neC b o e hx) (I.base.keep b o e n hb hx) (I.base.free b o e n hx)
 ·obtain⟨sl,e1⟩:=I.base.slot b o e n hb hx;obtain⟨sl',e2⟩:=slot b _ (neL b o e) hb (neC b o e hx) e1 (I.base.free b o e n hx);exact⟨sl',e2⟩
 ·obtain⟨o',e1⟩:=I.base.there b o e hx;exact free b o' (neC b o e hx) e1 (I.base.free b o e n hx)
 ·obtain⟨o',e1⟩:=I.base.there b o e hx;exact there b o' (neC b o e hx) e1
 ·obtain⟨m1,e1⟩:=I.base.tbls b ps e;obtain⟨m2,e2⟩:=tbls b _ e1;exact⟨m1++m2,by rw[e2,Array.append_assoc]⟩
 ·obtain⟨m,hn,hl⟩:=I.loc;refine⟨m,ns m hn,fun i x v e1 e2 e3=>?_⟩;obtain⟨u,r,l⟩:=hl i x v e1 e2 e3;refine⟨u,r,?_⟩;rcases l with l | ⟨k,c,e,z⟩
  ·exact .inl l
  ·exact .inr ⟨k,c,e,cellK x c e _ z⟩
 ·obtain⟨v,z⟩:=I.cell x c e;exact⟨v,cellK x c e v z⟩
 ·obtain⟨m,⟨o,_,_,ho,_⟩,_⟩:=I.loc;exact free _ o (fun z=>(hch _ z).2.1 rfl) ho I.free
 ·obtain⟨v,o,ho,hd⟩:=I.cell x c e;exact free c o (fun z=>(hch c z).2.2.1 x c e rfl) ho (I.freeC x c e)
 ·obtain⟨e,n,ne,nf,d⟩:=I.pin p hp;have nch:p.1∉ch:=fun z=>(hch p.1 z).2.2.2 p hp rfl;exact⟨keep p.1 p.2 ne nf nch e n,free p.1 p.2 nch e n,ne,nf,d⟩
theorem Inv.un (I:Inv X pins σ H s) (u:Un X.fs [] H H' s.heap h') (hok:HOk X.prog X.w H' h'):Inv X pins σ H' { s with heap:=h',toks:=t' }:=by
 obtain⟨m,⟨o,es,ep,ho,r⟩,_⟩:=id I.loc;obtain⟨sl,hL⟩:=u.any ho I.free (by simp);exact I.step (g':=s.gens) (d':=s.drawn) (ch:=[]) (fun _ z=>nomatch z) (fun b o _ hb _ e n=>u.keep b o e n hb (by simp)) (fun b o _ hb _ e n=>u.slot b o e n hb (by simp)) (fun b o _ e n=>u.free b o e n (by simp)) (fun b o _ e=>u.there b o e (by simp)) u.tups u.frzs u.tbls (fun m' hm=>by
  obtain⟨o',es',ep',ho',r'⟩:=hm;rw[ho] at ho'; cases ho';exact⟨_,es',ep',hL,r'⟩) hok I.bare
theorem Inv.call {g':Array GenState}{d':Drawn} (I:Inv X pins σ H s) (u:Un (frs X.stack) ch H H' s.heap h') (hok:HOk X.prog X.w H' h') (hg:AllBare g')
  (hch:∀ b∈ch,(b∈X.ex \/ X.s₀.heap.objs.size<=b)/\b≠X.env.locals/\(∀ x c,X.env.cells.lookup x=some c->c≠b)/\∀ p∈X.pn++pins,p.1≠b) :
  Inv X pins σ H' { s with heap:=h',gens:=g',drawn:=d',toks:=t' }:=by
 obtain⟨m,⟨o,es,ep,ho,r⟩,_⟩:=id I.loc;obtain⟨sl,hL⟩:=u.any ho I.free fun z=>(hch _ z).2.1 rfl;exact I.step (ch:=ch) hch (fun b o hL hb hc e n=>u.keep b o e n (fun z=>(XB.mp (I.stkSub b z)).elim hL hb) hc) (fun b o _ _ hc e n=>u.any e n hc) (fun b o hc e n=>u.free b o e n hc) (fun b o hc e=>u.there b o e hc) u.tups u.frzs u.tbls (fun m' hm=>by
  obtain⟨o',es',ep',ho',r'⟩:=hm;rw[ho] at ho'; cases ho';exact⟨_,es',ep',hL,r'⟩) hok hg
theorem Inv.turned (I:Inv X pins σ H s) (k:∀ b o,b≠it->s.heap.get? b=some o->h'.get? b=some o) (hn:H it=none) (hL:it≠X.env.locals)
  (h1:it∈X.ex \/ X.s₀.heap.objs.size<=it) (h2:∀ x c,X.env.cells.lookup x=some c->c≠it) (h3:∀ p∈X.pn++pins,p.1≠it):Inv X pins σ H { s with heap:=h',toks:=t' }:=by
 have nit:∀ b u,H b=some u->b≠it:=fun b u e z=>by rw[z,hn] at e; cases e
 refine I.step (g':=s.gens) (d':=s.drawn) (ch:=[it]) (fun b hb=>?_) (fun b o _ _ hc e _=>k b o (fun z=>hc (by simp[z])) e) (fun b o _ _ hc e _=>⟨o.slots,k b o (fun z=>hc (by simp[z])) e⟩) (fun _ _ _ _ n=>n)
  (fun b o hc e=>⟨o,k b o (fun z=>hc (by simp[z])) e⟩) (fun _ _ e=>e) (fun _ _ _ e=>e) (fun b ps e=>⟨#[],by rw[e]; simp⟩) (fun m hm=>?_) (fun b u e=>?_) I.bare
 ·have e:b=it:=by simpa using hb
  subst e;exact⟨h1,hL,h2,h3⟩
 ·obtain⟨o,es,ep,ho,r⟩:=hm;exact⟨o,es,ep,k _ o (Ne.symm hL) ho,r⟩
 ·refine(I.hok b u e).stay (fun c v hc q=>k c v ?_ q) (fun _ q=>q) fun _ _ q=>q;rcases hc with z | z
  ·rw[z]; exact nit b u e
  ·exact nit c _ z
theorem Inv.tok (I:Inv X pins σ H s) (t:Nat):Inv X pins σ H { s with toks:=t }:=I.un (h':=s.heap) (t':=t) Un.refl I.hok
theorem Inv.kept (I:Inv X pins σ H s) (k:∀ b u,s.heap.get? b=some u->h'.get? b=some u):Inv X pins σ H { s with heap:=h',toks:=t' }:=I.un (Un.kept k) (I.hok.kept k)
theorem Inv.laid {o:HO} (I:Inv X pins σ H s) (k:∀ b u,s.heap.get? b=some u->h'.get? b=some u) (hp:s.heap.objs.size<=a) (new:ObjOk X.prog X.w (upd H a o) h' a o) :
  Inv X pins σ (upd H a o) { s with heap:=h',toks:=t' }:=I.un (Un.laid k hp (I.hok.fresh hp)) (I.hok.laid k hp new)
theorem Inv.write {x e:Addr}{o:HO} (I:Inv X pins σ H s) (mu:Mut (H x)) (he:e=x \/ H e=some (.own x)) (k:∀ b u,b≠e->s.heap.get? b=some u->h'.get? b=some u) (heo:∃ u,h'.get? e=some u)
  (new:ObjOk X.prog X.w (upd H x o) h' x o):Inv X pins σ (upd H x o) { s with heap:=h',toks:=t' }:=I.un (Un.write mu he k heo) (I.hok.write mu he k heo new)
theorem Inv.pins_of {pins':List (Addr×Obj)} (I:Inv X pins σ H s) (h:∀ p∈pins',s.heap.get? p.1=some p.2/\H p.1=none/\p.1≠X.env.locals/\p.1∉X.fs/\∀ v,p.2.data≠.cell v):Inv X pins' σ H s:=
 ⟨I.ok,I.os,I.bare,I.base,I.loc,I.cell,I.free,I.freeC,fun p hp=>(XG.mp hp).elim (fun z=>I.pin p (List.mem_append_left _ z)) (h p),I.hok,I.len⟩
theorem QP (hN:N.Nodup) (a:N[i]?=some x) (b:N[j]?=some x):i=j:=by
 obtain⟨h1,e1⟩:=List.getElem?_eq_some_iff.mp a;obtain⟨h2,e2⟩:=List.getElem?_eq_some_iff.mp b;exact(List.getElem_inj hN).mp (e1.trans e2.symm)
theorem UH {v:V}{Q:Unit->Shared->Prop} (I:Inv X pins σ H s) (hN:X.N.Nodup) (hi:X.N[i]?=some x) (hx:Loc X.env.scope x) (r:RelV v u)
  (h:∀ s',Inv X pins (σ.set i (some v)) H s'->(∃ a,Heap.SameBut a s.heap s'.heap/\(a=X.env.locals \/ X.env.cells.lookup x=some a))->Q () s') (hf:X.fn x=true \/ X.env.scope.names.lookup x=some .local:=by first | exact .inl rfl | exact .inr rfl | assumption):wpAny M A (storeName X.env x u) Q E s:=by
 obtain⟨m,hn,hl⟩:=id I.loc;have hcls:(X.env.scope.kind==.class||(X.env.scope.kind==.module&&X.env.locals != X.env.globals))=false:=by rw[I.ok.kind]; rfl
 have hiσ:i < σ.length:=by rw[I.len]; exact (List.getElem?_eq_some_iff.mp hi).1
 have cne:=I.cne;have tracked:∀ {a:Addr}{h':Heap},(∃ o,s.heap.get? a=some o/\H a=none)->Heap.SameBut a s.heap h'->HOk X.prog X.w H h':=fun {a h'} ha hs b ob e=>by
  obtain⟨_,_,hfree⟩:=ha;refine(I.hok b ob e).stay (fun c w' hc q=>(hs.2 c ?_).trans q) (fun _ q=>q) fun _ _ q=>q;rintro rfl;rcases hc with rfl | hc
  ·rw[hfree] at e; cases e
  ·rw[hfree] at hc; cases hc
 rcases hx with hk | hk
 ·refine wpAny_storeName_local hk hn (fun h' hn' hs=>?_) hcls;obtain⟨oL,_,_,hoL,_⟩:=id hn;refine h _ ⟨I.ok,I.os,I.bare,⟨fun b o e n hb hx=>?_,fun b o e n hb hx=>?_,I.base.free,fun b o e hx=>?_,I.base.tups,I.base.frzs,I.base.tbls⟩,⟨_,hn',fun j y v' e1 e2 e3=>?_⟩,fun y c e=>?_,I.free,I.freeC,fun p hp=>?_,tracked ⟨oL,hoL,I.free⟩ hs,by simpa using I.len⟩ ⟨_,hs,.inl rfl⟩
  ·exact(hs.2 b (XF (Xx (Xu e) I.ok.above))).trans (I.base.keep b o e n hb hx)
  ·obtain⟨sl,e1⟩:=I.base.slot b o e n hb hx;exact⟨sl,(hs.2 b (XF (Xx (Xu e) I.ok.above))).trans e1⟩
  ·obtain⟨o',e1⟩:=I.base.there b o e hx;exact⟨o',(hs.2 b (XF (Xx (Xu e) I.ok.above))).trans e1⟩
  ·by_cases hj:j=i
   ·subst hj;rw[hi] at e1; cases e1;rw[wI hiσ] at e2;cases e2;exact⟨u,r,.inl ⟨hk,by simp⟩⟩
   ·rw[wa (Ne.symm hj)] at e2;obtain⟨u',r',q⟩:=hl j y v' e1 e2 e3;refine⟨u',r',?_⟩;rcases q with⟨k,e⟩ | ⟨k,c,e,z⟩
    ·refine .inl ⟨k,?_⟩;have:y≠x:=fun e=>hj (QP hN e1 (e ▸ hi));simp[this,e]
    ·exact .inr ⟨k,c,e,z.sameBut hs (cne y c e)⟩
  ·obtain⟨w',z⟩:=I.cell y c e;exact⟨w',z.sameBut hs (cne y c e)⟩
  ·obtain⟨e,n,ne,nf,d⟩:=I.pin p hp;exact⟨(hs.2 p.1 ne).trans e,n,ne,nf,d⟩
 ·have hfn:X.fn x=true:=by
   rcases hf with z | z
   ·exact z
   ·rw[z] at hk; cases hk
  obtain⟨c,hc⟩:=I.ok.has x (.inl hk);obtain⟨w',z⟩:=I.cell x c hc;refine wpAny_storeName_cell I.ok.kind hk hc z (fun h' hc' hs=>?_);obtain⟨oc,hoc,hocd⟩:=id z;refine h { s with heap:=h' } ⟨I.ok,I.os,I.bare,⟨fun b o e n hb hx=>?_,fun b o e n hb hx=>?_,I.base.free,fun b o e hx=>?_,I.base.tups,I.base.frzs,I.base.tbls⟩,⟨m,hn.sameBut hs (Ne.symm (cne x c hc)),fun j y v' e1 e2 e3=>?_⟩,fun y c' e=>?_,I.free,I.freeC,fun p hp=>?_,tracked ⟨oc,hoc,I.freeC x c hc⟩ hs,by simpa using I.len⟩ ⟨c,hs,.inr hc⟩
  ·exact(hs.2 b (XF (Xx (Xu e) (I.ok.cab x c hfn hc)))).trans (I.base.keep b o e n hb hx)
  ·obtain⟨sl,e1⟩:=I.base.slot b o e n hb hx;exact⟨sl,(hs.2 b (XF (Xx (Xu e) (I.ok.cab x c hfn hc)))).trans e1⟩
  ·obtain⟨o',e1⟩:=I.base.there b o e hx;exact⟨o',(hs.2 b (XF (Xx (Xu e) (I.ok.cab x c hfn hc)))).trans e1⟩
  ·by_cases hj:j=i
   ·subst hj;rw[hi] at e1; cases e1;rw[wI hiσ] at e2;cases e2;exact⟨u,r,.inr ⟨.inl hk,c,hc,hc'⟩⟩
   ·rw[wa (Ne.symm hj)] at e2;obtain⟨u',r',q⟩:=hl j y v' e1 e2 e3;refine⟨u',r',?_⟩;rcases q with q | ⟨k,c',e,z'⟩
    ·exact .inl q
    ·refine .inr ⟨k,c',e,z'.sameBut hs ?_⟩;rintro rfl;exact hj (QP hN e1 (I.ok.inj _ _ _ e hc ▸ hi))
  ·by_cases hcc:c'=c
   ·subst hcc; exact ⟨_,hc'⟩
   ·obtain⟨w2,z2⟩:=I.cell y c' e;exact⟨w2,z2.sameBut hs hcc⟩
  ·obtain⟨e,n,ne,nf,d⟩:=I.pin p hp;refine⟨(hs.2 p.1 ?_).trans e,n,ne,nf,d⟩;intro q;rw[q,hoc] at e;have q':oc=p.2:=Option.some.inj e;exact d w' (by rw[<- q']; exact hocd)
theorem zM {v:V}{Q:Unit->Shared->Prop} (I:Inv X pins σ H s) (hN:X.N.Nodup) (hi:X.N[i]?=some x) (hx:Loc X.env.scope x) (r:RelV v u)
  (h:∀ s',Inv X pins (σ.set i (some v)) H s'->Q () s') (hf:X.fn x=true \/ X.env.scope.names.lookup x=some .local:=by first | exact .inl rfl | exact .inr rfl | assumption):wpAny M A (storeName X.env x u) Q E s:=
 UH I hN hi hx r (fun s' I' _=>h s' I') hf
theorem Inv.call' (I:Inv X pins σ H s) (ho:s'.os=s.os) (u:Un (frs X.stack) ch H H' s.heap s'.heap) (hok:HOk X.prog X.w H' s'.heap) (hg:AllBare s'.gens)
  (hch:∀ b∈ch,(b∈X.ex \/ X.s₀.heap.objs.size<=b)/\b≠X.env.locals/\(∀ x c,X.env.cells.lookup x=some c->c≠b)/\∀ p∈X.pn++pins,p.1≠b):Inv X pins σ H' s':=by
 obtain⟨h',g',d',t',o'⟩:=s';have e:o'=s.os:=ho;subst e;exact I.call (g':=g') (t':=t') (d':=d') u hok hg hch
end
abbrev XK:=Value->Option Addr->Hp->Prop
abbrev St:=List (Option V)
abbrev VK:=V->Hp->Prop
abbrev TE:=St->Hp->VK->Prop
abbrev TT:=St->Hp->(Bool->Hp->Prop)->Prop
abbrev TA:=St->Hp->(List V->Hp->Prop)->Prop
structure Ends where
 nx:St->Hp->Prop
 rt:VK
 bk:St->Hp->Prop:=fun _ _=>False
 ct:St->Hp->Prop:=fun _ _=>False
abbrev TS:=Ends->St->Hp->Prop
def EP (X:Cx) (pins:List (Addr×Obj)) (σ:St) (Q:VK) (u:Value) (s':Shared):Prop:=∃ v H',Inv X pins σ H' s'/\RelV v u/\Q v H'
def TP (X:Cx) (pins:List (Addr×Obj)) (σ:St) (Q:Bool->Hp->Prop) (b:Bool) (s':Shared):Prop:=∃ H',Inv X pins σ H' s'/\Q b H'
def AP (X:Cx) (pins:List (Addr×Obj)) (σ:St) (Q:List V->Hp->Prop) (us:List Value) (s':Shared):Prop:=∃ vs H',Inv X pins σ H' s'/\Vals vs us/\Q vs H'
def SP (X:Cx) (pins:List (Addr×Obj)) (D:Ends) (f:Flow) (s':Shared):Prop:=
 match f with
 | .next=>∃ σ' H',Inv X pins σ' H' s'/\D.nx σ' H'
 | .brk=>∃ σ' H',Inv X pins σ' H' s'/\D.bk σ' H'
 | .cont=>∃ σ' H',Inv X pins σ' H' s'/\D.ct σ' H'
 | .ret u=>∃ v σ' H',Inv X pins σ' H' s'/\RelV v u/\D.rt v H'
def PE (X:Cx) (e:Expr) (t:TE):Prop:=
 ∀ (pins:List (Addr×Obj)) (s:Shared) (σ:St) (H:Hp) (Q:VK),Inv X pins σ H s->t σ H Q->wpAny (model X.prog X.w) X.A (eval e X.env) (EP X pins σ Q) X.xe s
def PT (X:Cx) (e:Expr) (t:TT):Prop:=
 ∀ (pins:List (Addr×Obj)) (s:Shared) (σ:St) (H:Hp) (Q:Bool->Hp->Prop),Inv X pins σ H s->t σ H Q->wpAny (model X.prog X.w) X.A (isTrue e X.env (eval e X.env)) (TP X pins σ Q) X.xe s
def PW (X:Cx) (e:Expr) (t:TT):Prop:=
 ∀ (jbH:Sem Value) (pins:List (Addr×Obj)) (s:Shared) (σ:St) (H:Hp) (Q:Bool->Hp->Prop),Inv X pins σ H s->t σ H Q->wpAny (model X.prog X.w) X.A (isTrue e X.env jbH) (TP X pins σ Q) X.xe s
theorem PW.pt {X:Cx}{t:TT} (h:PW X e t):PT X e t:=h _
def PA (X:Cx) (es:List Expr) (t:TA):Prop:=
 ∀ (pos:Pos) (pins:List (Addr×Obj)) (s:Shared) (σ:St) (H:Hp) (Q:List V->Hp->Prop),Inv X pins σ H s->t σ H Q->wpAny (model X.prog X.w) X.A (spliced (backTo pos (starEach es X.env))) (AP X pins σ Q) X.xe s
def PS (X:Cx) (st:Stmt) (t:TS):Prop:=
 ∀ (pins:List (Addr×Obj)) (s:Shared) (σ:St) (H:Hp) (D:Ends),Inv X pins σ H s->t D σ H->wpAny (model X.prog X.w) X.A (exec st X.env) (SP X pins D) X.xe s
def PSs (X:Cx) (st:List Stmt) (t:TS):Prop:=
 ∀ (pins:List (Addr×Obj)) (s:Shared) (σ:St) (H:Hp) (D:Ends),Inv X pins σ H s->t D σ H->wpAny (model X.prog X.w) X.A (execs st X.env) (SP X pins D) X.xe s
theorem thn {t:Sem α}{Q Q':α->Shared->Prop} (h:wpAny M A t Q E s) (hQ:∀ a s,Q a s->Q' a s):wpAny M A t Q' E s:=XW h hQ fun _ _ x=>x
section
variable {X:Cx}
def GM (i:Nat):TE:=fun σ H Q=>∃ v,σ[i]?=some (some v)/\Q v H
def tC (v:V):TE:=fun _ H Q=>Q v H
theorem jge (hN:X.N[i]?=some x) (hv:Vis X.env.scope x) (hd:(x==("__debug__":Str))=false:=by decide) (hcd:(x==("__classdict__":Str))=false:=by decide):PE X (.Name x pos) (GM i):=by
 intro pins s σ H Q I h;obtain⟨v,e,h⟩:=h;obtain⟨m,hn,hl⟩:=I.loc;obtain⟨u,r,l⟩:=hl i x v hN e hv;have fin:EP X pins σ Q u s:=⟨v,H,I,r,h⟩;rcases l with⟨hk,hm⟩ | ⟨hk,c,hc,hcell⟩
 ·exact wpAny_Name (wpAny_loadName_local I.ok.kind hk hn hm fin) hd
 ·rcases hk with hk | hk
  ·exact wpAny_Name (wpAny_loadName_cell I.ok.kind hk hc hcell fin) hd
  ·exact wpAny_Name (wpAny_loadName_free I.ok.kind hk hc hcell fin hcd) hd
theorem jl {i j pos}:PE X (.Constant (.int i) j pos) (tC (.int i)):=fun _ _ _ H _ I h=>wpAny_Constant_int ⟨.int i,H,I.tok _,⟨_,rfl⟩,h⟩
theorem yI {b j pos}:PE X (.Constant (.bool b) j pos) (tC (.bl b)):=fun _ _ _ H _ I h=>Constant_bool ⟨.bl b,H,I,rfl,h⟩
theorem GZ {j pos}:PE X (.Constant .none j pos) (tC .non):=fun _ _ _ H _ I h=>Constant_none ⟨.non,H,I,rfl,h⟩
def Gl (X:Cx) (x:Str):Prop:=X.env.kindOf x=some .globalImplicit
theorem zv {σ:St}{H:Hp} (I:Inv X pins σ H s) (hg:Gl X x) (hm:X.mg x=some u) (h:Q u s)
  (hd:(x==("__debug__":Str))=false:=by decide):wpAny (model X.prog X.w) X.A (eval (.Name x pos) X.env) Q E s:=
 Calls.Name_function_global I.ok.kind hg (Calls.loadGlobal_global (by rw[I.ok.glob]; exact I.mod.glob.keeps I.bk) hm h) hd
theorem zN {σ:St}{H:Hp} (I:Inv X pins σ H s) (hg:Gl X x) (hm:X.mg x=none) (hv:bootBuiltins x=some u) (h:Q u s)
  (hn:x≠"__name__":=by decide) (hd:(x==("__debug__":Str))=false:=by decide):wpAny (model X.prog X.w) X.A (eval (.Name x pos) X.env) Q E s:=by
 obtain⟨mb,h1,h2⟩:=I.mod.blt;exact Calls.Name_function_global I.ok.kind hg (Calls.loadGlobal_builtin (by rw[I.ok.glob]; exact I.mod.glob.keeps I.bk) hm (by rw[I.ok.blt]; exact h1.keeps I.bk) ((h2 x hn).trans hv) h) hd
theorem xh {v:V} (hg:Gl X x) (hm:X.mg x=some u) (r:RelV v u) (hd:(x==("__debug__":Str))=false:=by decide):PE X (.Name x pos) (tC v):=
 fun _ _ _ H _ I h=>zv I hg hm ⟨v,H,I,r,h⟩ hd
theorem VV {v:V} (hg:Gl X x) (hm:X.mg x=none) (hv:bootBuiltins x=some u) (r:RelV v u) (hn:x≠"__name__":=by decide) (hd:(x==("__debug__":Str))=false:=by decide):PE X (.Name x pos) (tC v):=
 fun _ _ _ H _ I h=>zN I hg hm hv ⟨v,H,I,r,h⟩ hn hd
variable {a b:Expr}{ta tb:TE} 
def PC (X:Cx) (op:CmpOp) (a b:Expr) (t:TE):Prop:=
 ∀ (pins:List (Addr×Obj)) (s:Shared) (σ:St) (H:Hp) (Q:VK),Inv X pins σ H s->t σ H Q ->
  wpAny (model X.prog X.w) X.A (eval a X.env) (fun v s₁=>wpAny (model X.prog X.w) X.A (eval b X.env) (fun u s₂=>wpAny (model X.prog X.w) X.A (compareOp op v u) (EP X pins σ Q) X.xe s₂) X.xe s₁) X.xe s
theorem WN (b:Expr) {op:CmpOp} (h:op≠.In) (h2:op≠.NotIn):behindInMarks op b=false:=by
 have e1:(op==CmpOp.In)=false:=by cases op <;> first | rfl | exact absurd rfl h
 have e2:(op==CmpOp.NotIn)=false:=by cases op <;> first | rfl | exact absurd rfl h2
 cases b <;> simp[behindInMarks,e1,e2]
def jh5 (ta:TE):TE:=fun σ H Q=>ta σ H fun x H1=>Q (.bl (decide (x=.non))) H1
def jeB (ta:TE):TE:=fun σ H Q=>ta σ H fun x H1=>Q (.bl (!decide (x=.non))) H1
theorem RelV.none_iff {x:V} (r:RelV x v):(v==Value.none)=decide (x=.non):=by
 cases x with
 | non=>cases r; rfl
 | bl _=>cases r; rfl
 | int _=>obtain⟨t,rfl⟩:=r; rfl
 | str _=>obtain⟨t,rfl⟩:=r; rfl
 | byt _=>obtain⟨t,rfl⟩:=r; rfl
 | flt _=>obtain⟨t,rfl⟩:=r; rfl
 | ref _=>cases r; rfl
 | ty _=>cases r; rfl
theorem jdJ {j pos'} (ha:PE X a ta):PC X .Is a (.Constant .none j pos') (jh5 ta):=by
 intro pins s σ H Q I h;refine thn (ha pins s σ H _ I h) fun v s1 ⟨x,H1,I1,r1,q1⟩=>?_;exact Constant_none (is_none_gen ⟨.bl _,H1,I1,by rw[r1.none_iff]; rfl,q1⟩)
theorem ZJ {j pos'} (ha:PE X a ta):PC X .IsNot a (.Constant .none j pos') (jeB ta):=by
 intro pins s σ H Q I h;refine thn (ha pins s σ H _ I h) fun v s1 ⟨x,H1,I1,r1,q1⟩=>?_;exact Constant_none (isnot_none_gen ⟨.bl _,H1,I1,by rw[r1.none_iff]; rfl,q1⟩)
def tB (t:TE):TT:=fun σ H Q=>t σ H fun x H1=>∃ c,x=.bl c/\Q c H1
theorem jgf {op:CmpOp}{t:TE} (h:PC X op a b t) (h1:behindInMarks op b=false:=by first | exact WN _ (by decide) (by decide) | rfl):PE X (.Compare a [op] [b] pos) t:=fun pins s σ H Q I hw=>wpAny_Compare1 (h pins s σ H Q I hw) h1
theorem ZK {op:CmpOp}{t:TE} (h:PC X op a b t) (h1:behindInMarks op b=false:=by first | exact WN _ (by decide) (by decide) | rfl):PT X (.Compare a [op] [b] pos) (tB t):=by
 intro pins s σ H Q I hw;refine wpAny_isTrue_Compare1 (thn (h pins s σ H _ I hw) fun v s1 h1=>thn h1 fun u s2 h2=>thn h2 fun c s3 ⟨x,H1,I1,r1,q1⟩=>?_) h1;obtain⟨d,rfl,q⟩:=q1;cases r1;exact X7 ⟨H1,I1,q⟩
theorem yh {t:TE} (h:PE X e t) (he:∀ jbH,isTrue e X.env jbH=(do let v <- jbH; standAt e.pos; holding [v] (truthy v)):=by intro _; rfl):PT X e (tB t):=by
 intro pins s σ H Q I hw;refine isTrue_plain (thn (h pins s σ H _ I hw) fun v s1 ⟨x,H1,I1,r1,q1⟩=>?_) (he _);obtain⟨d,rfl,q⟩:=q1;cases r1;exact X7 ⟨H1,I1,q⟩
variable {tA tB':TT}{rest:List Expr}
def jeC (t u:TT):TT:=fun σ H Q=>t σ H fun c H1=>if c=true then u σ H1 Q else Q false H1
def tOr (t u:TT):TT:=fun σ H Q=>t σ H fun c H1=>if c=true then Q true H1 else u σ H1 Q
def jgg (t:TT):TT:=fun σ H Q=>t σ H fun c H1=>Q (!c) H1
theorem Gg (ha:PT X a tA):PW X (.BoolOp .And [a] pos) tA:=by
 intro wh pins s σ H Q I h;refine isTrue_and (thn (ha pins s σ H Q I h) fun c s1 e=>?_);cases c with
 | true=>exact isTrue_and_nil e
 | false=>exact e
theorem UI (ha:PT X a tA):PW X (.BoolOp .Or [a] pos) tA:=by
 intro wh pins s σ H Q I h;refine isTrue_or (thn (ha pins s σ H Q I h) fun c s1 e=>?_);cases c with
 | false=>exact isTrue_or_nil e
 | true=>exact e
theorem Qm (ha:PT X a tA) (hb:PW X (.BoolOp .And (b::rest) pos) tB'):PW X (.BoolOp .And (a::b::rest) pos) (jeC tA tB'):=by
 intro wh pins s σ H Q I h;refine isTrue_and (thn (ha pins s σ H _ I h) fun c s1 ⟨H1,I1,q1⟩=>?_);cases c with
 | true=>exact hb wh pins s1 σ H1 Q I1 q1
 | false=>exact ⟨H1,I1,q1⟩
theorem ZL (ha:PT X a tA) (hb:PW X (.BoolOp .Or (b::rest) pos) tB'):PW X (.BoolOp .Or (a::b::rest) pos) (tOr tA tB'):=by
 intro wh pins s σ H Q I h;refine isTrue_or (thn (ha pins s σ H _ I h) fun c s1 ⟨H1,I1,q1⟩=>?_);cases c with
 | true=>exact ⟨H1,I1,q1⟩
 | false=>exact hb wh pins s1 σ H1 Q I1 q1
theorem yE (ha:PT X a tA):PT X (.UnaryOp .Not a pos) (jgg tA):=by
 intro pins s σ H Q I h;exact isTrue_not (ha pins s σ H (fun c H1=>Q (!c) H1) I h)
def UJ (ta tb:TE):TE:=fun σ H Q=>ta σ H fun x H1=>∃ c,x=.bl c/\if c=true then tb σ H1 Q else Q (.bl false) H1
def jhS (ta tb:TE):TE:=fun σ H Q=>ta σ H fun x H1=>∃ c,x=.bl c/\if c=true then Q (.bl true) H1 else tb σ H1 Q
def ZM (ta:TE):TE:=fun σ H Q=>ta σ H fun x H1=>∃ c,x=.bl c/\Q (.bl (!c)) H1
theorem UK {op}{t:TE} (h:PE X a t):PE X (.BoolOp op [a] pos) t:=fun pins s σ H Q I hw=>BoolOp_one (h pins s σ H Q I hw)
theorem WO (ha:PE X a ta) (hb:PE X (.BoolOp .And (b::rest) pos) tb):PE X (.BoolOp .And (a::b::rest) pos) (UJ ta tb):=by
 intro pins s σ H Q I h;refine BoolOp_and (thn (ha pins s σ H _ I h) fun v s1 ⟨x,H1,I1,r1,q1⟩=>?_);obtain⟨c,rfl,q1⟩:=q1;cases r1;refine X7 ?_;cases c with
 | true=>exact hb pins s1 σ H1 Q I1 q1
 | false=>exact ⟨.bl false,H1,I1,rfl,q1⟩
theorem jh6 (ha:PE X a ta) (hb:PE X (.BoolOp .Or (b::rest) pos) tb):PE X (.BoolOp .Or (a::b::rest) pos) (jhS ta tb):=by
 intro pins s σ H Q I h;refine BoolOp_or (thn (ha pins s σ H _ I h) fun v s1 ⟨x,H1,I1,r1,q1⟩=>?_);obtain⟨c,rfl,q1⟩:=q1;cases r1;refine X7 ?_;cases c with
 | false=>exact hb pins s1 σ H1 Q I1 q1
 | true=>exact ⟨.bl true,H1,I1,rfl,q1⟩
theorem UL (ha:PE X a ta):PE X (.UnaryOp .Not a pos) (ZM ta):=by
 intro pins s σ H Q I h;refine UnaryOp_ (thn (ha pins s σ H _ I h) fun v s1 ⟨x,H1,I1,r1,q1⟩=>?_);obtain⟨c,rfl,q1⟩:=q1;cases r1;exact not_of (X7 ⟨.bl (!c),H1,I1,rfl,q1⟩)
def tIf (t:TT) (ta tb:TE):TE:=fun σ H Q=>t σ H fun c H1=>if c=true then ta σ H1 Q else tb σ H1 Q
theorem WP {c:Expr} (hc:PT X c tA) (ha:PE X a ta) (hb:PE X b tb):PE X (.IfExp c a b pos) (tIf tA ta tb):=by
 intro pins s σ H Q I h;refine wpAny_IfExp (thn (hc pins s σ H _ I h) fun d s1 ⟨H1,I1,q1⟩=>?_);cases d with
 | true=>exact ha pins s1 σ H1 Q I1 q1
 | false=>exact hb pins s1 σ H1 Q I1 q1
end
def SqL (K:W.Frag) (H:Hp) (a:Addr) (xs:List V):Prop:=
 Rd H a (.lst xs) \/
  ∃ (o:Obj) (its:Array Value) (n:Nat),K.lookup a=some o/\o.cls=.type "list"/\o.dict=none/\o.data=.seq its n/\its.size<=sizeLine/\Vals xs its.toList
def SqT (K:W.Frag) (H:Hp) (a:Addr) (xs:List V):Prop:=
 Rd H a (.tup xs) \/
  ∃ (o:Obj) (its:Array Value) (n:Nat),K.lookup a=some o/\o.cls=.type "tuple"/\o.data=.seq its n/\its.size<=sizeLine/\Vals xs its.toList
def ji0:Value->Option V
 | .none=>some .non
 | .bool b=>some (.bl b)
 | .int i _=>some (.int i)
 | .str x _=>some (.str x)
 | .bytes b _=>some (.byt b)
 | .float b _=>some (.flt b)
 | .ref a=>some (.ref a)
 | .type n=>some (.ty n)
 | _=>none
theorem RelV.abs {x:V} (r:RelV x u):ji0 u=some x:=by
 cases x with
 | non=>cases r; rfl
 | bl _=>cases r; rfl
 | int _=>obtain⟨t,rfl⟩:=r; rfl
 | str _=>obtain⟨t,rfl⟩:=r; rfl
 | byt _=>obtain⟨t,rfl⟩:=r; rfl
 | flt _=>obtain⟨t,rfl⟩:=r; rfl
 | ref _=>cases r; rfl
 | ty _=>cases r; rfl
theorem RelV.inj {x y:V} (r:RelV x u) (q:RelV y u):x=y:=Option.some.inj (r.abs.symm.trans q.abs)
theorem Vals.inj:∀ {xs ys:List V}{us:List Value},Vals xs us->Vals ys us->xs=ys
 | _,_,_,.nil,.nil=>rfl
 | _,_,_,.cons r t,.cons r' t'=>by rw[r.inj r',Vals.inj t t']
section
variable {X:Cx}{σ:St}{H:Hp}{xs ys:List V}
theorem SqL.of (h:H a=some (.lst xs)):SqL K H a xs:=.inl (.inl h)
theorem SqT.of (h:H a=some (.tup xs)):SqT K H a xs:=.inl (.inl h)
theorem Inv.list (I:Inv X pins σ H s) (h:SqL X.K H a xs):∃ its:List Value,Vals xs its/\PlainL s.heap a its.toArray/\xs.length<=sizeLine:=by
 rcases h with h | ⟨o,its,n,hk,hc,hd,hs,hz,r⟩
 ·obtain⟨z,its,n,r,e⟩:=h.ok I.hok;exact⟨its,r,⟨_,n,e,rfl,rfl,rfl⟩,z⟩
 ·refine⟨its.toList,r,⟨o,n,I.kIn a o hk,hc,hd,by simpa using hs⟩,?_⟩;have e:=r.length;simp only[wG] at e;omega
theorem Inv.tuple (I:Inv X pins σ H s) (h:SqT X.K H a xs):∃ its:List Value,Vals xs its/\IsTup s.heap a its.toArray/\xs.length<=sizeLine:=by
 rcases h with h | ⟨o,its,n,hk,hc,hs,hz,r⟩
 ·obtain⟨z,its,r,p⟩:=h.ok I.hok;exact⟨its,r,p.isTup,z⟩
 ·refine⟨its.toList,r,⟨o,I.kIn a o hk,hc,n,by simpa using hs⟩,?_⟩;have e:=r.length;simp only[wG] at e;omega
theorem Inv.list_inj (I:Inv X pins σ H s) (h:SqL X.K H a xs) (h':SqL X.K H a ys):xs=ys:=by
 obtain⟨its,r,⟨o,n,e,_,_,d⟩,_⟩:=I.list h;obtain⟨its',r',⟨o',n',e',_,_,d'⟩,_⟩:=I.list h';rw[e] at e'; cases e';rw[d] at d';injection d' with d1 _
 have:its=its':=by simpa using congrArg Array.toList d1
 subst this;exact r.inj r'
theorem Inv.tuple_inj (I:Inv X pins σ H s) (h:SqT X.K H a xs) (h':SqT X.K H a ys):xs=ys:=by
 obtain⟨its,r,⟨o,e,_,n,d⟩,_⟩:=I.tuple h;obtain⟨its',r',⟨o',e',_,n',d'⟩,_⟩:=I.tuple h';rw[e] at e'; cases e';rw[d] at d';injection d' with d1 _
 have:its=its':=by simpa using congrArg Array.toList d1
 subst this;exact r.inj r'
end
abbrev Cx.wish (X:Cx) (E:Value->Shared->Prop):Cx:={ X with xe:=E }
abbrev Cx.nox (X:Cx):Cx:=X.wish fun _ _=>False
theorem Cx.Ok.wish {X:Cx} (ok:X.Ok) (E:Value->Shared->Prop):(X.wish E).Ok:=
 ⟨ok.mod,ok.kind,ok.glob,ok.blt,ok.above,ok.inj,ok.has,ok.cab,ok.hd,ok.frames,ok.stk,ok.exf,ok.bs,ok.bsz,ok.noex,ok.exfs,ok.funs,ok.frf⟩
theorem Cx.Ok.unwish {X:Cx} (ok:(X.wish E).Ok):X.Ok:=
 ⟨ok.mod,ok.kind,ok.glob,ok.blt,ok.above,ok.inj,ok.has,ok.cab,ok.hd,ok.frames,ok.stk,ok.exf,ok.bs,ok.bsz,ok.noex,ok.exfs,ok.funs,ok.frf⟩
section
variable {X:Cx}{σ:St}{H:Hp} 
theorem Inv.wish (I:Inv X pins σ H s) (E:Value->Shared->Prop):Inv (X.wish E) pins σ H s:=⟨I.ok.wish E,I.os,I.bare,I.base,I.loc,I.cell,I.free,I.freeC,I.pin,I.hok,I.len⟩
theorem Inv.unwish (I:Inv (X.wish E) pins σ H s):Inv X pins σ H s:=⟨I.ok.unwish,I.os,I.bare,I.base,I.loc,I.cell,I.free,I.freeC,I.pin,I.hok,I.len⟩
theorem SP.unwish {D:Ends}{f:Flow} (h:SP (X.wish E) pins D f s'):SP X pins D f s':=by
 cases f with
 | next=>obtain⟨σ',H',I,q⟩:=h; exact ⟨σ',H',I.unwish,q⟩
 | brk=>obtain⟨σ',H',I,q⟩:=h; exact ⟨σ',H',I.unwish,q⟩
 | cont=>obtain⟨σ',H',I,q⟩:=h; exact ⟨σ',H',I.unwish,q⟩
 | ret u=>obtain⟨v,σ',H',I,r,q⟩:=h; exact ⟨v,σ',H',I.unwish,r,q⟩
theorem PSs.nox {st:List Stmt}{t:TS} (h:PSs X.nox st t):PSs X st t:=fun pins s σ H D I hw=>
 XW (h pins s σ H D (I.wish _) hw) (fun _ _ q=>q.unwish) fun _ _ z=>False.elim z
end
section
variable {X:Cx}{rest:List Stmt}{t u:TS}{te:TE} 
def jgh:TS:=fun D σ H=>D.nx σ H
def Gh (t u:TS):TS:=fun D σ H=>t { D with nx:=u D } σ H
theorem j8:PSs X [] jgh:=fun _ _ σ H _ I h=>wpAny_execs_nil ⟨σ,H,I,h⟩
theorem jm (h1:PS X st t) (h2:PSs X rest u):PSs X (st::rest) (Gh t u):=by
 intro pins s σ H D I h;refine wpAny_execs_cons (thn (h1 pins s σ H { D with nx:=u D } I h) fun f s1 q=>?_)
 cases f with
 | next=>
  obtain⟨σ',H',I',q⟩:=q;exact h2 pins s1 σ' H' D I' q
 | ret v=>exact q
 | brk=>exact q
 | cont=>exact q
theorem jn (h1:PS X st t):PSs X [st] t:=by
 intro pins s σ H D I h;refine wpAny_execs_cons (thn (h1 pins s σ H D I h) fun f s1 q=>?_);cases f with
 | next=>exact wpAny_execs_nil q
 | ret v=>exact q
 | brk=>exact q
 | cont=>exact q
theorem Inv.quiet {σ:St}{H:Hp} (I:Inv X pins σ H s):interactive X.env=false:=by simp[interactive,I.ok.kind]
def JV (te:TE):TS:=fun D σ H=>te σ H fun _ H1=>D.nx σ H1
theorem xi (he:PE X e te) (hs:swapsWith e none pos.line X.env=pure false:=by rfl):PS X (.Expr e pos) (JV te):=by
 intro pins s σ H D I h;exact wpAny_Expr_any (thn (he pins s σ H _ I h) fun v s1 ⟨x,H1,I1,r1,q1⟩=>⟨σ,H1,I1,q1⟩) I.quiet hs
def jgi (te:TE):TS:=fun D σ H=>te σ H D.rt
theorem j7 (he:PE X e te):PS X (.Return (some e) pos) (jgi te):=by
 intro pins s σ H D I h;exact wpAny_Return_some (thn (he pins s σ H _ I h) fun v s1 ⟨x,H1,I1,r1,q1⟩=>⟨x,σ,H1,I1,r1,q1⟩)
def ZN (c:TT) (t u:TS):TS:=fun D σ H=>c σ H fun b H1=>if b=true then t D σ H1 else u D σ H1
theorem kU {c:Expr}{a b:List Stmt}{tc:TT} (hc:PT X c tc) (ha:PSs X a t) (hb:PSs X b u):PS X (.If c a b pos) (ZN tc t u):=by
 intro pins s σ H D I h;refine wpAny_If (thn (hc pins s σ H _ I h) fun d s1 ⟨H1,I1,q1⟩=>?_);cases d with
 | true=>exact ha pins s1 σ H1 D I1 q1
 | false=>exact hb pins s1 σ H1 D I1 q1
def jgj:TS:=fun _ _ _=>False
theorem zO:PS X st jgj:=fun _ _ _ _ _ _ h=>h.elim
end
abbrev TG:=V->St->Hp->(St->Hp->Prop)->Prop
abbrev TGs:=List V->St->Hp->(St->Hp->Prop)->Prop
def PG (X:Cx) (target:Expr) (t:TG):Prop:=
 ∀ (pins:List (Addr×Obj)) (s:Shared) (σ:St) (H:Hp) (v:V) (u:Value) (Q:St->Hp->Prop),Inv X pins σ H s->RelV v u->t v σ H Q ->
  wpAny (model X.prog X.w) X.A (assign target X.env u) (fun _ s'=>∃ σ' H',Inv X pins σ' H' s'/\Q σ' H') X.xe s
def PGs (X:Cx) (ts:List Expr) (t:TGs):Prop:=
 ∀ (pins:List (Addr×Obj)) (s:Shared) (σ:St) (H:Hp) (vs:List V) (us:List Value) (Q:St->Hp->Prop),Inv X pins σ H s->Vals vs us->t vs σ H Q ->
  wpAny (model X.prog X.w) X.A (assignInOrder ((assignEach ts X.env).map (·.2)) us) (fun _ s'=>∃ σ' H',Inv X pins σ' H' s'/\Q σ' H') X.xe s
section
variable {X:Cx} 
def kF (i:Nat):TG:=fun v σ H Q=>Q (σ.set i (some v)) H
theorem jG (hN:X.N.Nodup) (hi:X.N[i]?=some x) (hx:Loc X.env.scope x) (hf:X.fn x=true \/ X.env.scope.names.lookup x=some .local:=by first | exact .inl rfl | exact .inr rfl | assumption):PG X (.Name x pos) (kF i):=by
 intro pins s σ H v u Q I r h;exact wpAny_assign_Name (zM I hN hi hx r (fun s' I'=>⟨_,H,I',h⟩) hf)
def jb2:TGs:=fun vs σ H Q=>vs=[]/\Q σ H
def x4 (t:TG) (u:TGs):TGs:=fun vs σ H Q=>∃ v r,vs=v::r/\t v σ H fun σ' H'=>u r σ' H' Q
theorem yo:PGs X [] jb2:=by
 intro pins s σ H vs us Q I r h;obtain⟨e,h⟩:=h;subst e;cases r;exact assignInOrder_nil ⟨σ,H,I,h⟩
theorem kx {t:TG}{u:TGs} (h1:PG X e t) (h2:PGs X es u)
  (hs:(assignEach (e::es) X.env).map (·.2)=assign e X.env::(assignEach es X.env).map (·.2):=by rfl):PGs X (e::es) (x4 t u):=by
 intro pins s σ H vs us Q I r h;obtain⟨v,vr,e1,h⟩:=h;subst e1;cases r with
 | cons r rr=>
  rw[hs];refine assignInOrder_cons (thn (h1 pins s σ H _ _ _ I r h) fun _ s1 ⟨σ1,H1,I1,q1⟩=>?_);exact h2 pins s1 σ1 H1 _ _ Q I1 rr q1
def jb3 (K:W.Frag) (n:Nat) (t:TGs):TG:=fun v σ H Q=>∃ a xs,v=.ref a/\SqT K H a xs/\xs.length=n/\t xs σ H Q
theorem zP {k:Nat}{t:TGs} (hc:X.calm=true) (h:PGs X es t)
  (hn:(assignEach es X.env).length=n:=by rfl) (hst:(assignEach es X.env).findIdx? (·.1)=none:=by rfl):PG X (.Tuple es k pos) (jb3 X.K n t):=by
 intro pins s σ H v u Q I r hw;obtain⟨a,xs,e1,hq,hl,hw⟩:=hw;subst e1;cases r;obtain⟨its,rv,ht,hz⟩:=I.tuple hq;refine assign_Tuple_tuple (I.ok.hd hc) ht (by simp[hn,<- hl,rv.length]) hst fun h' hx=>?_;have I1:Inv X pins σ H { s with heap:=h' }:=I.kept (t':=s.toks) fun b o e=>hx b o (XF (Xu e)) e
 exact h pins _ σ H xs _ Q I1 (by simpa using rv) hw
def GN (te:TE) (g:TG):TS:=fun D σ H=>te σ H fun x H1=>g x σ H1 D.nx
theorem WQ {te:TE}{g:TG} (he:PE X e te) (hg:PG X tg g) (hs:swapsWithSole [tg] e pos.line X.env=pure false:=by rfl) (hw:swappedStores [tg] e X.env=pure none:=by rfl)
  (h1:(assignEach [tg] X.env).map (·.2)=[assign tg X.env]:=by rfl):PS X (.Assign [tg] e pos) (GN te g):=by
 intro pins s σ H D I h;refine wpAny_Assign_stores (thn (he pins s σ H _ I h) fun v s1 ⟨x,H1,I1,r1,q1⟩=>?_) hs hw;rw[h1];exact thn (hg pins s1 σ H1 x v _ I1 r1 q1) fun _ s2 q=>q
theorem jI {te:TE} (hN:X.N.Nodup) (hi:X.N[i]?=some x) (hx:Loc X.env.scope x) (he:PE X e te) (hs:swapsWith e (some (.Name x pos')) pos.line X.env=pure false:=by rfl) (hf:X.fn x=true \/ X.env.scope.names.lookup x=some .local:=by first | exact .inl rfl | exact .inr rfl | assumption) :
  PS X (.Assign [.Name x pos'] e pos) (GN te (kF i)):=by
 intro pins s σ H D I h;refine wpAny_Assign_Name (thn (he pins s σ H _ I h) fun v s1 ⟨y,H1,I1,r1,q1⟩=>?_) hs;exact zM I1 hN hi hx r1 (fun s2 I2=>⟨_,H1,I2,q1⟩) hf
end
section
variable {X:Cx} 
def ZO (c:TT) (tb:TS):TS:=fun D σ H=>∃ W:Nat->St->Hp->Prop,(∃ m,W m σ H)/\∀ m σ H,W m σ H ->
 c σ H fun b H1=>if b=true then ∃ N:St->Hp->Prop,(∀ σ' H',N σ' H'->∃ m',m'<m/\W m' σ' H')/\tb { D with nx:=N,ct:=N,bk:=D.nx } σ H1 else D.nx σ H1
theorem WR {c:Expr}{tc:TT}{tb:TS} (hp:PassesOwn (model X.prog X.w) X.A X.env X.xe) (hc:PT X c tc) (hb:PSs X body tb):PS X (.While c body [] pos) (ZO tc tb):=by
 intro pins s σ H D I h;obtain⟨W,⟨m0,w0⟩,turn⟩:=h;refine wpAny_While (codeAny_whileLoop (fun n s'=>∃ σ' H',Inv X pins σ' H' s'/\W n σ' H') ?_ m0 ⟨σ,H,I,w0⟩);rintro n s1 ⟨σ1,H1,I1,w1⟩;refine wpAny_passesOwn hp (thn (hc pins s1 σ1 H1 _ I1 (turn n σ1 H1 w1)) fun b s2 ⟨H2,I2,q2⟩=>?_);cases b with
 | true=>
  obtain⟨N,hN,q2⟩:=q2;rw[if_pos rfl];refine wpAny_passesOwn hp (thn (hb pins s2 σ1 H2 _ I2 q2) fun f s3 q3=>?_);cases f with
  | next=>
   obtain⟨σ3,H3,I3,n3⟩:=q3;obtain⟨m',hm,w3⟩:=hN σ3 H3 n3;exact⟨m',hm,σ3,H3,I3,w3⟩
  | cont=>
   obtain⟨σ3,H3,I3,n3⟩:=q3;obtain⟨m',hm,w3⟩:=hN σ3 H3 n3;exact⟨m',hm,σ3,H3,I3,w3⟩
  | brk=>exact q3
  | ret v=>exact q3
 | false=>
  rw[if_neg Xy];exact wpAny_execs_nil ⟨σ1,H2,I2,q2⟩
end
structure It where
 go:Nat->Hp->Prop
 yld:Nat->Hp->V->Hp->Prop
 stop:Nat->Hp->Prop
def ZP (X:Cx) (pins:List (Addr×Obj)) (H:Hp) (b:Addr):Prop:=
 H b=none/\b≠X.env.locals/\b∉X.fs/\(b∈X.ex \/ X.s₀.heap.objs.size<=b)/\(∀ x c,X.env.cells.lookup x=some c->c≠b)/\∀ p∈X.pn++pins,p.1≠b
theorem Inv.fpOk {X:Cx}{σ:St}{H H':Hp}{b:Addr} (I:Inv X pins σ H s) (hb:s.heap.objs.size<=b) (hn:H' b=none):ZP X pins H' b:=by
 refine⟨hn,Nat.ne_of_gt (Xx I.lt hb),I.nofs hb,.inr (XI I.sz hb),fun x c e z=>?_,fun p hp z=>?_⟩
 ·obtain⟨v,q⟩:=I.cell x c e;exact absurd (Xx q.lt (by rw[z]; exact hb)) (wJ _)
 ·exact absurd (Xx (Xu (I.pin p hp).1) (by rw[z]; exact hb)) (wJ _)
structure Turn (P:Program) (w:World) (K:W.Frag) (tg:Expr) (J:It) (fp:List Addr) (it:Addr) (tn:Nat->Heap->Prop):Prop where
 mem:it∈fp
 obj:∀ i h,tn i h->∀ b∈fp,∃ o,h.get? b=some o/\∀ v,o.data≠.cell v
 keep:∀ i h h',tn i h->(∀ b∈fp,∀ o,h.get? b=some o->h'.get? b=some o)->tn i h'
 item:∀ (X:Cx),X.prog=P->X.w=w->X.K=K->X.calm=true->∀ (i:Nat) (pins:List (Addr×Obj)) (s:Shared) (σ:St) (H:Hp) (E:Value->Shared->Prop),Inv X pins σ H s->(∀ b∈fp,ZP X pins H b)->tn i s.heap->J.go i H ->
  wpAny (model P w) X.A (pyNext (.ref it)) (fun r s1=>∃ u,r=some u /\
   wpAny (model P w) X.A (letOwnedTupleGo tg (.ref it) u) (fun _ s2=>∃ x H',Inv X pins σ H' s2/\RelV x u/\J.yld i H x H'/\tn (i+1) s2.heap/\∀ b∈fp,H' b=none) E s1) E s
 done:∀ (X:Cx),X.prog=P->X.w=w->X.K=K->X.calm=true->∀ (i:Nat) (pins:List (Addr×Obj)) (s:Shared) (σ:St) (H:Hp) (E:Value->Shared->Prop),Inv X pins σ H s->(∀ b∈fp,ZP X pins H b)->tn i s.heap->J.stop i H ->
  wpAny (model P w) X.A (pyNext (.ref it)) (fun r s1=>r=none/\Inv X pins σ H s1) E s
 self:∀ (A:Around) (i:Nat) (s:Shared) (Q:Value->Shared->Prop) (E:Value->Shared->Prop),tn i s.heap->Q (.ref it) s->wpAny (model P w) A (pyIter (.ref it)) Q E s
abbrev TI:=St->Hp->(It->Hp->Prop)->Prop
def PIE (X:Cx) (pins:List (Addr×Obj)) (σ:St) (tg:Expr) (R:It->Hp->Prop) (itv:Value) (s2:Shared):Prop:=
 ∃ (it:Addr) (fp:List Addr) (tn:Nat->Heap->Prop) (J:It) (H':Hp),itv=.ref it/\Inv X pins σ H' s2/\Turn X.prog X.w X.K tg J fp it tn/\tn 0 s2.heap/\(∀ b∈fp,ZP X pins H' b)/\R J H'
def PI (X:Cx) (tg iter:Expr) (wi:TI):Prop:=
 ∀ (pins:List (Addr×Obj)) (s:Shared) (σ:St) (H:Hp) (R:It->Hp->Prop),Inv X pins σ H s->wi σ H R ->
  wpAny (model X.prog X.w) X.A (eval iter X.env) (fun v s1=>wpAny (model X.prog X.w) X.A (pyIter v) (PIE X pins σ tg R) X.xe s1) X.xe s
theorem ZQ {n:String}{vs:Array Value}{Q:Unit->Shared->Prop} (ho:s.heap.get? it=some o) (hc:o.cls=.type n) (hd:o.data=.fields vs)
    (hn:["enumerate","zip","dict_itemiterator","dict_reverseitemiterator","odict_iterator","itertools.zip_longest","itertools.pairwise"].contains n=false) (hQ:Q () s):wpAny M A (letOwnedTupleGo tg (.ref it) u) Q E s:=by
  unfold letOwnedTupleGo;cases tg <;> first
    | exact Xd hQ
    | (cases u <;> first
        | exact Xd hQ
        | (refine Xa (wpAny_load ho ?_)
           rw[hc,hd];show wpAny M A (if (["enumerate","zip","dict_itemiterator","dict_reverseitemiterator","odict_iterator","itertools.zip_longest","itertools.pairwise"].contains n&&vs[0]?==some (rawInt _))=true then _ else _) Q E s;rw[if_neg (by intro h; rw[hn,Bool.false_and] at h; cases h)];exact Xd hQ))
def Itl (K:W.Frag) (a:Addr):It:=
 ⟨fun i H=>∃ xs x,SqL K H a xs/\xs[i]?=some x,fun i H x H'=>H'=H/\∀ xs,SqL K H a xs->xs[i]?=some x,fun i H=>∃ xs,SqL K H a xs/\xs.length<=i⟩
def Itt (K:W.Frag) (a:Addr):It:=
 ⟨fun i H=>∃ xs x,SqT K H a xs/\xs[i]?=some x,fun i H x H'=>H'=H/\∀ xs,SqT K H a xs->xs[i]?=some x,fun i H=>∃ xs,SqT K H a xs/\xs.length<=i⟩
def Itr (lo:Int) (n:Nat):It:=⟨fun i _=>i<n,fun i H x H'=>H'=H/\x=.int (lo+i),fun i _=>n<=i⟩
theorem ZR {P:Program} (a it:Addr):Turn P w K tg (Itl K a) [it] it (fun i h=>h.IsListIter it a i) where
 mem:=by simp
 obj:=fun i h st b hb=>by
  have e:b=it:=by simpa using hb
  subst e;obtain⟨o,e,c,d⟩:=st;exact⟨o,e,fun v z=>by rw[d] at z; cases z⟩
 keep:=fun i h h' st k=>st.at fun o e=>k it (by simp) o e
 item:=by
  intro X hP hw hK hc i pins s σ H E I hf st hg;subst hP hw hK;obtain⟨xs,x,hq,hx⟩:=hg;obtain⟨its,rv,p,hz⟩:=I.list hq;obtain⟨u,hu,ru⟩:=rv.get hx;obtain⟨f0,f1,f2,f3,f4,f5⟩:=hf it (by simp);refine wpAny_pyNext_list_item st p.isList (x:=u) (by simpa using hu) fun h' st' sb=>?_;have I1:Inv X pins σ H { s with heap:=h' }:=I.turned (t':=s.toks) (fun b o hb e=>(sb.2 b hb).trans e) f0 f1 f3 f4 f5
  obtain⟨o,e,c,d⟩:=id st';exact⟨u,rfl,ZQ (s:={ s with heap:=h' }) e c d (by decide) ⟨x,H,I1,ru,⟨rfl,fun ys hy=>by rw[I.list_inj hy hq]; exact hx⟩,st',fun b hb=>(hf b hb).1⟩⟩
 done:=by
  intro X hP hw hK hc i pins s σ H E I hf st hg;subst hP hw hK;obtain⟨xs,hq,hx⟩:=hg;obtain⟨its,rv,p,hz⟩:=I.list hq;obtain⟨f0,f1,f2,f3,f4,f5⟩:=hf it (by simp);have hl:=rv.length;exact wpAny_pyNext_list_end (I.ok.hd hc) st p.isList (by simp; omega) fun h' eb=>⟨rfl,I.turned (t':=s.toks) (fun b o hb e=>eb b o hb e) f0 f1 f3 f4 f5⟩
 self:=fun _ _ _ _ _ st h=>wpAny_pyIter_listiter st h
theorem Yy {P:Program} (a it:Addr):Turn P w K tg (Itt K a) [it] it (fun i h=>h.IsTupleIter it a i) where
 mem:=by simp
 obj:=fun i h st b hb=>by
  have e:b=it:=by simpa using hb
  subst e;obtain⟨o,e,c,d⟩:=st;exact⟨o,e,fun v z=>by rw[d] at z; cases z⟩
 keep:=fun i h h' st k=>st.at fun o e=>k it (by simp) o e
 item:=by
  intro X hP hw hK hc i pins s σ H E I hf st hg;subst hP hw hK;obtain⟨xs,x,hq,hx⟩:=hg;obtain⟨its,rv,p,hz⟩:=I.tuple hq;obtain⟨u,hu,ru⟩:=rv.get hx;obtain⟨f0,f1,f2,f3,f4,f5⟩:=hf it (by simp);refine wpAny_pyNext_tuple_item st (show s.heap.IsTuple a its.toArray from p) (x:=u) (by simpa using hu) fun h' st' sb=>?_;have I1:Inv X pins σ H { s with heap:=h' }:=I.turned (t':=s.toks) (fun b o hb e=>(sb.2 b hb).trans e) f0 f1 f3 f4 f5
  obtain⟨o,e,c,d⟩:=id st';exact⟨u,rfl,ZQ (s:={ s with heap:=h' }) e c d (by decide) ⟨x,H,I1,ru,⟨rfl,fun ys hy=>by rw[I.tuple_inj hy hq]; exact hx⟩,st',fun b hb=>(hf b hb).1⟩⟩
 done:=by
  intro X hP hw hK hc i pins s σ H E I hf st hg;subst hP hw hK;obtain⟨xs,hq,hx⟩:=hg;obtain⟨its,rv,p,hz⟩:=I.tuple hq;obtain⟨f0,f1,f2,f3,f4,f5⟩:=hf it (by simp);have hl:=rv.length;exact wpAny_pyNext_tuple_end (I.ok.hd hc) st (show s.heap.IsTuple a its.toArray from p) (by simp; omega) fun h' eb=>⟨rfl,I.turned (t':=s.toks) (fun b o hb e=>eb b o hb e) f0 f1 f3 f4 f5⟩
 self:=fun _ _ _ _ _ st h=>wpAny_pyIter_tupleiter st h
theorem Yz {P:Program} (it:Addr) (lo:Int) (n:Nat):Turn P w K tg (Itr lo n) [it] it (fun i h=>IsRangeIter h it (lo+(i:Nat) * 1) ((n:Int)-(i:Nat)) 1) where
 mem:=by simp
 obj:=fun i h st b hb=>by
  have e:b=it:=by simpa using hb
  subst e;exact⟨_,st,fun v z=>by
   have z':Data.fields _=Data.cell v:=z;cases z'⟩
 keep:=fun i h h' st k=>k it (by simp) _ st
 item:=by
  intro X hP hw hK hc i pins s σ H E I hf st hg;subst hP hw hK;obtain⟨f0,f1,f2,f3,f4,f5⟩:=hf it (by simp);have W:=Walks.range (prog:=X.prog) (w:=X.w) (I.ok.hd hc) it lo 1 n;refine W.item i s _ _ hg st fun v h' tk hv st' kk=>?_;obtain⟨t,rfl⟩:=hv;have I1:Inv X pins σ H { s with heap:=h',toks:=tk }:=I.turned (fun b o hb e=>kk b o (by simpa using hb) e) f0 f1 f3 f4 f5
  refine⟨_,rfl,ZQ (s:={ s with heap:=h',toks:=tk }) (n:="range_iterator") st' rfl rfl (by decide) ⟨.int (lo+i),H,I1,⟨t,?_⟩,⟨rfl,rfl⟩,st',fun b hb=>(hf b hb).1⟩⟩
  rw[Int.mul_one]
 done:=by
  intro X hP hw hK hc i pins s σ H E I hf st hg;subst hP hw hK;obtain⟨f0,f1,f2,f3,f4,f5⟩:=hf it (by simp);exact wpAny_pyNext_range_end (I.ok.hd hc) st (by have:n<=i:=hg; omega) fun h' eb=>⟨rfl,I.turned (t':=s.toks) (fun b o hb e=>eb b o hb e) f0 f1 f3 f4 f5⟩
 self:=fun _ _ _ _ _ st h=>wpAny_pyIter_rangeiter st h
section
variable {X:Cx} 
def jb9 (K:W.Frag) (tl:TE):TI:=fun σ H R=>tl σ H fun x H1=>∃ a,x=.ref a/\(∃ xs,SqL K H1 a xs)/\R (Itl K a) H1
def jiL (K:W.Frag) (tl:TE):TI:=fun σ H R=>tl σ H fun x H1=>∃ a,x=.ref a/\(∃ xs,SqT K H1 a xs)/\R (Itt K a) H1
theorem qS {l:Expr}{tl:TE} (hl:PE X l tl):PI X tg l (jb9 X.K tl):=by
 intro pins s σ H R I h;refine thn (hl pins s σ H _ I h) fun v s1 ⟨x,H1,I1,r1,q1⟩=>?_;obtain⟨a,e,⟨xs,hq⟩,q⟩:=q1;subst e;cases r1;obtain⟨its,rv,p,hz⟩:=I1.list hq;refine wpAny_pyIter_list p.isList ?_;refine⟨s1.heap.objs.size,[s1.heap.objs.size],_,_,H1,rfl,I1.kept (t':=s1.toks) fun b o e=>Xb _ e,ZR a _,⟨_,Xo _ rfl,rfl,rfl⟩,fun b hb=>?_,q⟩;have e:b=s1.heap.objs.size:=by simpa using hb
 subst e;exact I1.fpOk (Xh _) (I1.hok.fresh (Xh _))
theorem jdK {l:Expr}{tl:TE} (hl:PE X l tl):PI X tg l (jiL X.K tl):=by
 intro pins s σ H R I h;refine thn (hl pins s σ H _ I h) fun v s1 ⟨x,H1,I1,r1,q1⟩=>?_;obtain⟨a,e,⟨xs,hq⟩,q⟩:=q1;subst e;cases r1;obtain⟨its,rv,p,hz⟩:=I1.tuple hq;refine wpAny_pyIter_tuple (show s1.heap.IsTuple a its.toArray from p) ?_;refine⟨s1.heap.objs.size,[s1.heap.objs.size],_,_,H1,rfl,I1.kept (t':=s1.toks) fun b o e=>Xb _ e,Yy a _,⟨_,Xo _ rfl,rfl,rfl⟩,fun b hb=>?_,q⟩;have e:b=s1.heap.objs.size:=by simpa using hb
 subst e;exact I1.fpOk (Xh _) (I1.hok.fresh (Xh _))
theorem WS {σ:St}{H:Hp}{R:It->Hp->Prop}{lo hi:Int}{t u v:Tok}{tk:Nat} (I:Inv X pins σ H s) (h1:-(2 ^ 62)<=lo) (h2:lo<2 ^ 62) (h3:-(2 ^ 62)<=hi) (h4:hi<2 ^ 62)
  (q:R (Itr lo (hi-lo).toNat) H):wpAny (model X.prog X.w) X.A (pyIter (.ref s.heap.objs.size)) (PIE X pins σ tg R) E { s with heap:=s.heap.push { cls:=.type "range",data:=.fields #[.int lo t,.int hi u,.int 1 v] },toks:=tk }:=by
 refine wpAny_pyIter_range (IsRange.new ..) (small_one h1 h2 h3 h4) ?_;have I1:Inv X pins σ H { s with heap:=s.heap.push { cls:=.type "range",data:=.fields #[.int lo t,.int hi u,.int 1 v] },toks:=tk }:=I.kept fun b o e=>Xb _ e
 refine⟨(s.heap.push { cls:=.type "range",data:=.fields #[.int lo t,.int hi u,.int 1 v] }).objs.size,[(s.heap.push { cls:=.type "range",data:=.fields #[.int lo t,.int hi u,.int 1 v] }).objs.size],_,_,H,rfl,
  I1.kept (t':=tk) fun b o e=>Xb _ e,Yz _ lo (hi-lo).toNat,?_,fun b hb=>?_,q⟩
 ·have e1:lo+((0:Nat):Int) * 1=lo:=by simp
  have e2:(((hi-lo).toNat:Nat):Int)-((0:Nat):Int)=Builtin.Range.rangeSize lo hi 1:=by rw[rangeSize_one]; split <;> omega
  show IsRangeIter _ _ (lo+((0:Nat):Int) * 1) ((((hi-lo).toNat:Nat):Int)-((0:Nat):Int)) 1;rw[e1,e2];exact Xo _ rfl
 ·have e:b=(s.heap.push { cls:=.type "range",data:=.fields #[.int lo t,.int hi u,.int 1 v] }).objs.size:=by simpa using hb
  subst e;exact I1.fpOk (Xh _) (I1.hok.fresh (Xh _))
def QQ (ta:TA):TI:=fun σ H R=>ta σ H fun vs H1=>∃ j:Int,vs=[.int j]/\-(2 ^ 62)<=j/\j<2 ^ 62/\R (Itr 0 j.toNat) H1
def VW (ta:TA):TI:=fun σ H R=>ta σ H fun vs H1=>∃ i j:Int,vs=[.int i,.int j]/\(-(2 ^ 62)<=i/\i<2 ^ 62/\-(2 ^ 62)<=j/\j<2 ^ 62)/\R (Itr i (j-i).toNat) H1
theorem kr {a:Expr}{ta:TA} (hg:Gl X "range") (hm:X.mg "range"=none) (ha:PA X [a] ta) (hs:starEach [a] X.env=[(false,eval a X.env)]:=by rfl):PI X tg (.Call (.Name "range" p) [a] [] pos) (QQ ta):=by
 intro pins s σ H R I h;refine Call_ (zN I hg hm boot_range (wr (thn (ha pos pins s σ H _ I h) fun us s1 ⟨vs,H1,I1,r1,q1⟩=>?_) hs rfl));obtain⟨j,e,q1,q2,q⟩:=q1;subst e;cases r1 with
 | cons r rr=>
  cases rr;obtain⟨t,rfl⟩:=r;exact call_range_1 (WS I1 (by omega) (by omega) q1 q2 (by simpa using q))
theorem UM {a b:Expr}{ta:TA} (hg:Gl X "range") (hm:X.mg "range"=none) (ha:PA X [a,b] ta) (hs:starEach [a,b] X.env=[(false,eval a X.env),(false,eval b X.env)]:=by rfl) (hs2:starEach [b] X.env=[(false,eval b X.env)]:=by rfl) :
  PI X tg (.Call (.Name "range" p) [a,b] [] pos) (VW ta):=by
 intro pins s σ H R I h;refine Call_ (zN I hg hm boot_range (wr (thn (ha pos pins s σ H _ I h) fun us s1 ⟨vs,H1,I1,r1,q1⟩=>?_) (by rw[hs,hs2]) (by rw[hs2]; rfl)));obtain⟨i,j,e,⟨q1,q2,q3,q4⟩,q⟩:=q1;subst e;cases r1 with
 | cons r rr=>
  cases rr with
  | cons r' rr=>
   cases rr;obtain⟨t,rfl⟩:=r;obtain⟨t',rfl⟩:=r';exact call_range_2 (WS I1 q1 q2 q3 q4 q)
def jdL (wi:TI) (g:TG) (tb:TS):TS:=fun D σ H=>wi σ H fun J H1=>∃ W:Nat->Nat->St->Hp->Prop,(∃ m,W 0 m σ H1)/\∀ i m σ H,W i m σ H ->
 (J.stop i H/\D.nx σ H) \/ (J.go i H/\∃ N:St->Hp->Prop,(∀ σ' H',N σ' H'->∃ m',m'<m/\W (i+1) m' σ' H')/\∀ x H',J.yld i H x H'->g x σ H' fun σ2 H2=>tb { D with nx:=N,ct:=N,bk:=D.nx } σ2 H2)
def UN (fp:List Addr) (h:Heap):List (Addr×Obj):=fp.filterMap fun b=>(h.get? b).map fun o=>(b,o)
theorem zf {b:Addr} (hb:b∈fp) (e:h.get? b=some o):(b,o)∈UN fp h:=List.mem_filterMap.mpr ⟨b,hb,by rw[e]; rfl⟩
theorem ZS {p:Addr×Obj} (hp:p∈UN fp h):p.1∈fp/\h.get? p.1=some p.2:=by
 obtain⟨b,hb,e⟩:=List.mem_filterMap.mp hp;cases q:h.get? b with
 | none=>rw[q] at e; cases e
 | some o=>
  rw[q] at e;have e':(b,o)=p:=Option.some.inj e;subst e';exact⟨hb,q⟩
theorem Inv.pinned {σ:St}{H:Hp} (I:Inv X pins σ H s) (hf:∀ b∈fp,ZP X pins H b) (ho:∀ b∈fp,∃ o,s.heap.get? b=some o/\∀ v,o.data≠.cell v):Inv X (pins++UN fp s.heap) σ H s:=
 I.pins_of fun p hp=>(XG.mp hp).elim (fun z=>I.pin p (XV _ z)) fun z=>by
  obtain⟨hb,e⟩:=ZS z;obtain⟨f0,f1,f2,_⟩:=hf p.1 hb;obtain⟨o,e',d⟩:=ho p.1 hb;rw[e] at e'; cases e';exact⟨e,f0,f1,f2,d⟩
theorem Inv.unpinned {pl:List (Addr×Obj)}{σ:St}{H:Hp} (I:Inv X (pins++pl) σ H s):Inv X pins σ H s:=I.pins_of fun p hp=>I.pin p (XV _ (List.mem_append_left _ hp))
theorem qB {wi:TI}{g:TG}{tb:TS} (hp:PassesOwn (model X.prog X.w) X.A X.env X.xe) (hc:X.calm=true) (hi:PI X tg iter wi) (hg:PG X tg g) (hb:PSs X body tb)
  (hs:∀ x,foldedSetIterable iter X.env x=pure x:=by intro _; rfl):PS X (.For tg iter body [] pos) (jdL wi g tb):=by
 intro pins s σ H D I h;refine wpAny_For (thn (hi pins s σ H _ I h) fun v s1 h1=>thn h1 fun itv s2 h2=>?_) hs;obtain⟨it,fp,tn,J,H2,e,I2,T,st2,f2,W,⟨m0,w0⟩,turn⟩:=h2;subst e;have stat:∀ {H':Hp},(∀ b∈fp,H' b=none)->∀ b∈fp,ZP X pins H' b:=fun hn b hb=>⟨hn b hb,(f2 b hb).2⟩;refine codeAny_forLoop_any (fun n s'=>∃ i σ' H',Inv X pins σ' H' s'/\tn i s'.heap/\(∀ b∈fp,H' b=none)/\W i n σ' H') ?_ m0 ⟨0,σ,H2,I2,st2,fun b hb=>(f2 b hb).1,w0⟩;rintro n s3 ⟨i,σ3,H3,I3,st3,fr3,w3⟩;rcases turn i n σ3 H3 w3 with⟨stop,qn⟩ | ⟨go,N,hN,step⟩
 ·refine wpAny_passesOwn hp (thn (T.done X rfl rfl rfl hc i pins s3 σ3 H3 X.xe I3 (stat fr3) st3 stop) fun r s4 ⟨hr,I4⟩=>?_);subst hr;exact wpAny_execs_nil ⟨σ3,H3,I4,qn⟩
 ·refine wpAny_passesOwn hp (thn (T.item X rfl rfl rfl hc i pins s3 σ3 H3 X.xe I3 (stat fr3) st3 go) fun r s4 ⟨u,hr,h4⟩=>?_);subst hr;refine wpAny_passesOwn hp (thn h4 fun _ s5 ⟨x,H5,I5,r5,y5,st5,fr5⟩=>?_);have I5':=I5.pinned (stat fr5) (T.obj _ _ st5);refine wpAny_passesOwn hp (thn (hg _ s5 σ3 H5 x u _ I5' r5 (step x H5 y5)) fun _ s6 ⟨σ6,H6,I6,q6⟩=>?_);refine wpAny_passesOwn hp (thn (hb _ s6 σ6 H6 _ I6 q6) fun f s7 q7=>?_);have again:∀ {σ7:St}{H7:Hp},Inv X (pins++UN fp s5.heap) σ7 H7 s7->N σ7 H7->∃ m,m<n/\∃ i σ' H',Inv X pins σ' H' s7/\tn i s7.heap/\(∀ b∈fp,H' b=none)/\W i m σ' H':=fun {σ7 H7} I7 n7=>by
   obtain⟨m',hm,w7⟩:=hN σ7 H7 n7;refine⟨m',hm,i+1,σ7,H7,I7.unpinned,T.keep _ _ _ st5 fun b hb o e=>(I7.pin (b,o) (XV _ (XV _ (zf hb e)))).1,fun b hb=>?_,w7⟩;obtain⟨o,e,d⟩:=T.obj _ _ st5 b hb;exact(I7.pin (b,o) (XV _ (XV _ (zf hb e)))).2.1
  cases f with
  | next=>obtain⟨σ7,H7,I7,n7⟩:=q7; exact again I7 n7
  | cont=>obtain⟨σ7,H7,I7,n7⟩:=q7; exact again I7 n7
  | brk=>obtain⟨σ7,H7,I7,q7⟩:=q7; exact ⟨σ7,H7,I7.unpinned,q7⟩
  | ret v=>obtain⟨x7,σ7,H7,I7,r7,q7⟩:=q7; exact ⟨x7,σ7,H7,I7.unpinned,r7,q7⟩
end
abbrev R2:=V->V->Hp->VK->Prop
def OpR (X:Cx) (f:Value->Value->Sem Value) (r:R2):Prop:=
 ∀ (pins:List (Addr×Obj)) (s:Shared) (σ:St) (H:Hp) (x y:V) (v u:Value) (Q:VK),Inv X pins σ H s->RelV x v->RelV y u->r x y H Q ->
  wpAny (model X.prog X.w) X.A (f v u) (EP X pins σ Q) X.xe s
def UnR (X:Cx) (f:Value->Sem Value) (r:V->Hp->VK->Prop):Prop:=
 ∀ (pins:List (Addr×Obj)) (s:Shared) (σ:St) (H:Hp) (x:V) (v:Value) (Q:VK),Inv X pins σ H s->RelV x v->r x H Q ->
  wpAny (model X.prog X.w) X.A (f v) (EP X pins σ Q) X.xe s
def zw (X:Cx) (f:Value) (r:List V->Hp->VK->Prop):Prop:=
 ∀ (pins:List (Addr×Obj)) (s:Shared) (σ:St) (H:Hp) (xs:List V) (us:List Value) (Q:VK),Inv X pins σ H s->Vals xs us->r xs H Q ->
  wpAny (model X.prog X.w) X.A (call f us) (EP X pins σ Q) X.xe s
def tOp (r:R2) (ta tb:TE):TE:=fun σ H Q=>ta σ H fun x H1=>tb σ H1 fun y H2=>r x y H2 Q
def tUn (r:V->Hp->VK->Prop) (ta:TE):TE:=fun σ H Q=>ta σ H fun x H1=>r x H1 Q
def rI (C:Int->Int->Prop) (g:Int->Int->V):R2:=fun x y H Q=>∃ i j,x=.int i/\y=.int j/\C i j/\Q (g i j) H
def rI0 (g:Int->Int->V):R2:=fun x y H Q=>∃ i j,x=.int i/\y=.int j/\Q (g i j) H
def rU (g:Int->V):V->Hp->VK->Prop:=fun x H Q=>∃ i,x=.int i/\Q (g i) H
section
variable {X:Cx}{a b c:Expr}{ta tb tc:TE} 
theorem jh7 (ha:PE X a ta) (hb:PE X b tb) {σ:St}{H:Hp}{R:V->V->Hp->Prop} (I:Inv X pins σ H s)
  (h:ta σ H fun x H1=>tb σ H1 fun y H2=>R x y H2) {f:Value->Value->Sem Value}
  (hf:∀ v u s2 x y H2,Inv X pins σ H2 s2->RelV x v->RelV y u->R x y H2->wpAny (model X.prog X.w) X.A (f v u) Q X.xe s2) :
  wpAny (model X.prog X.w) X.A (eval a X.env) (fun v s₁=>wpAny (model X.prog X.w) X.A (eval b X.env) (fun u s₂=>wpAny (model X.prog X.w) X.A (f v u) Q X.xe s₂) X.xe s₁) X.xe s:=by
 refine thn (ha pins s σ H _ I h) fun v s1 ⟨x,H1,I1,r1,q1⟩=>?_;refine thn (hb pins s1 σ H1 _ I1 q1) fun u s2 ⟨y,H2,I2,r2,q2⟩=>?_;exact hf v u s2 x y H2 I2 r1 r2 q2
theorem jw {op:Operator}{r:R2} (ho:OpR X (binaryOp op) r) (ha:PE X a ta) (hb:PE X b tb):PE X (.BinOp a op b pos) (tOp r ta tb):=by
 intro pins s σ H Q I h;exact wpAny_BinOp (jh7 ha hb I h fun v u s2 x y H2 I2 rx ry q=>ho pins s2 σ H2 x y v u Q I2 rx ry q)
theorem jh8 {op:UnaryOp}{r:V->Hp->VK->Prop} (ho:UnR X (unaryOp op) r) (ha:PE X a ta):PE X (.UnaryOp op a pos) (tUn r ta):=by
 intro pins s σ H Q I h;exact UnaryOp_ (thn (ha pins s σ H _ I h) fun v s1 ⟨x,H1,I1,r1,q1⟩=>ho pins s1 σ H1 x v Q I1 r1 q1)
theorem opI {f:Value->Value->Sem Value}{C:Int->Int->Prop}{g:Int->Int->Int}
  (rule:∀ (i j:Int) (t u:Tok) (s:Shared) (Q:Value->Shared->Prop) (E:Value->Shared->Prop),C i j->Q (.int (g i j) s.toks) { s with toks:=s.toks+1 }->wpAny (model X.prog X.w) X.A (f (.int i t) (.int j u)) Q E s) :
  OpR X f (rI C fun i j=>.int (g i j)):=by
 intro pins s σ H x y v u Q I rx ry h;obtain⟨i,j,rfl,rfl,hc,q⟩:=h;obtain⟨t,rfl⟩:=rx;obtain⟨t',rfl⟩:=ry;exact rule i j t t' s _ _ hc ⟨.int (g i j),H,I.tok _,⟨_,rfl⟩,q⟩
theorem jhT {f:Value->Value->Sem Value}{g:Int->Int->Int}
  (rule:∀ (i j:Int) (t u:Tok) (s:Shared) (Q:Value->Shared->Prop) (E:Value->Shared->Prop),Q (.int (g i j) s.toks) { s with toks:=s.toks+1 }->wpAny (model X.prog X.w) X.A (f (.int i t) (.int j u)) Q E s) :
  OpR X f (rI0 fun i j=>.int (g i j)):=by
 intro pins s σ H x y v u Q I rx ry h;obtain⟨i,j,rfl,rfl,q⟩:=h;obtain⟨t,rfl⟩:=rx;obtain⟨t',rfl⟩:=ry;exact rule i j t t' s _ _ ⟨.int (g i j),H,I.tok _,⟨_,rfl⟩,q⟩
theorem jhU {f:Value->Value->Sem Value} 
  (rule:∀ (i j:Int) (t u:Tok) (s:Shared) (Q:Value->Shared->Prop) (E:Value->Shared->Prop),Q (.bool (g i j)) s->wpAny (model X.prog X.w) X.A (f (.int i t) (.int j u)) Q E s) :
  OpR X f (rI0 fun i j=>.bl (g i j)):=by
 intro pins s σ H x y v u Q I rx ry h;obtain⟨i,j,rfl,rfl,q⟩:=h;obtain⟨t,rfl⟩:=rx;obtain⟨t',rfl⟩:=ry;exact rule i j t t' s _ _ ⟨.bl (g i j),H,I,rfl,q⟩
def jf7 (i j:Int):Prop:=0<=j/\j<=1000000/\i.natAbs<2 ^ 64
def CMul (i j:Int):Prop:=(-(2 ^ 64)<i/\i<2 ^ 64) \/ (-(2 ^ 64)<j/\j<2 ^ 64)
theorem CMul.ok {i j:Int} (h:CMul i j):IntMulOk i j:=by
 rcases h with⟨h1,h2⟩ | ⟨h1,h2⟩
 ·exact .of_left (intBits_le_64 h1 h2)
 ·exact .of_right (intBits_le_64 h1 h2)
theorem YA (k:Nat):(0:Int)<=2 ^ k:=by
 rw[two_pow_cast];exact Int.natCast_nonneg _
theorem kD:OpR X (binaryOp .Add) (rI0 fun i j=>.int (i+j)):=jhT fun _ _ _ _ _ _ _ q=>add_int q
theorem zQ:OpR X (binaryOp .Sub) (rI0 fun i j=>.int (i-j)):=jhT fun _ _ _ _ _ _ _ q=>sub_int q
theorem GC:OpR X (binaryOp .Mult) (rI CMul fun i j=>.int (i * j)):=opI fun _ _ _ _ _ _ _ hc q=>mul_int q hc.ok
theorem kL:OpR X (binaryOp .Mod) (rI (fun _ j=>0<j) fun i j=>.int (i % j)):=opI fun i j _ _ _ _ _ hc q=>by
 have h1:(0:Int)<j:=hc;exact mod_int' (by omega) (by rw[Int.fmod_eq_emod_of_nonneg i (by omega)]; exact q)
theorem G0:OpR X (binaryOp .Pow) (rI jf7 fun i j=>.int (i ^ j.toNat)):=opI fun _ _ _ _ _ _ _ hc q=>pow_int_small hc.1 hc.2.1 hc.2.2 q
theorem zo:OpR X (binaryOp .LShift) (rI jf7 fun i j=>.int (i * 2 ^ j.toNat)):=opI fun _ _ _ _ _ _ _ hc q=>lshift_int_small hc.1 hc.2.1 hc.2.2 q
theorem jdM:OpR X (binaryOp .RShift) (rI (fun _ j=>0<=j) fun i j=>.int (i / 2 ^ j.toNat)):=opI fun i j _ _ _ _ _ hc q=>
 rshift_int hc (by rw[Int.fdiv_eq_ediv_of_nonneg i (YA _)]; exact q)
theorem jdN:OpR X (binaryOp .BitAnd) (rI0 fun i j=>.int (Builtin.bitAnd i j)):=jhT fun _ _ _ _ _ _ _ q=>and_int q
theorem JW:OpR X (binaryOp .BitOr) (rI0 fun i j=>.int (Builtin.bitOr i j)):=jhT fun _ _ _ _ _ _ _ q=>or_int q
theorem unI {f:Value->Sem Value}{g:Int->Int}
  (rule:∀ (i:Int) (t:Tok) (s:Shared) (Q:Value->Shared->Prop) (E:Value->Shared->Prop),Q (.int (g i) s.toks) { s with toks:=s.toks+1 }->wpAny (model X.prog X.w) X.A (f (.int i t)) Q E s) :
  UnR X f (rU fun i=>.int (g i)):=by
 intro pins s σ H x v Q I rx h;obtain⟨i,rfl,q⟩:=h;obtain⟨t,rfl⟩:=rx;exact rule i t s _ _ ⟨.int (g i),H,I.tok _,⟨_,rfl⟩,q⟩
theorem jgk:UnR X (unaryOp .USub) (rU fun i=>.int (-i)):=unI fun _ _ _ _ _ q=>neg_int q
end
def jiM:V->V->Bool
 | .non,.non=>true | .non,.int _=>true | .int _,.non=>true | .non,.bl _=>true | .bl _,.non=>true | .non,.str _=>true | .str _,.non=>true
 | .int _,.int _=>true | .bl _,.bl _=>true | .str _,.str _=>true | .byt _,.byt _=>true
 | .int _,.str _=>true | .str _,.int _=>true | .bl _,.str _=>true | .str _,.bl _=>true
 | _,_=>false
def rEq:R2:=fun x y H Q=>jiM x y=true/\Q (.bl (decide (x=y))) H
def rNe:R2:=fun x y H Q=>jiM x y=true/\Q (.bl (!decide (x=y))) H
theorem QR {i j:Int}:decide (V.int i=V.int j)=(i==j):=by
 rw[XM];simp
theorem jdO {i j:Bool}:decide (V.bl i=V.bl j)=(i==j):=by
 rw[XM];simp
theorem ZT {i j:Str}:decide (V.str i=V.str j)=(i==j):=by
 rw[XM];simp
theorem ZU {i j:Array UInt8}:decide (V.byt i=V.byt j)=(i.toList==j.toList):=by
 rw[XM];cases i;cases j;simp
section
variable {X:Cx}{a b c:Expr}{ta tb tc:TE} 
theorem kM {σ:St}{H:Hp}{Q:VK}{k k':Bool} (I:Inv X pins σ H s) (q:Q (.bl k) H) (e:k=k'):EP X pins σ Q (.bool k') s:=by
 subst e;exact⟨.bl k,H,I,rfl,q⟩
theorem xI:OpR X (compareOp .Eq) rEq:=by
 intro pins s σ H x y v u Q I rx ry h;obtain⟨hs,q⟩:=h;cases x with
 | non=>
  cases rx;cases y with
  | non=>cases ry; exact PySem.EqNone.eq_none_none (kM I q (by simp))
  | bl j=>cases ry; exact PySem.EqNone.eq_none_bool (kM I q (by simp))
  | int j=>obtain⟨t',rfl⟩:=ry; exact PySem.EqNone.eq_none_int (kM I q (by simp))
  | str j=>obtain⟨t',rfl⟩:=ry; exact PySem.EqNone.eq_none_str (kM I q (by simp))
  | _=>exact absurd (show false=true from hs) Xy
 | bl i=>
  cases rx;cases y with
  | non=>cases ry; exact PySem.EqNone.eq_bool_none (kM I q (by simp))
  | bl j=>cases ry; exact eq_bool (kM I q jdO)
  | str j=>obtain⟨t',rfl⟩:=ry; exact PySem.EqMixed.eq_bool_str (kM I q (by simp))
  | _=>exact absurd (show false=true from hs) Xy
 | int i=>
  obtain⟨t,rfl⟩:=rx;cases y with
  | non=>cases ry; exact PySem.EqNone.eq_int_none (kM I q (by simp))
  | int j=>obtain⟨t',rfl⟩:=ry; exact eq_int (kM I q QR)
  | str j=>obtain⟨t',rfl⟩:=ry; exact PySem.EqMixed.eq_int_str (kM I q (by simp))
  | _=>exact absurd (show false=true from hs) Xy
 | str i=>
  obtain⟨t,rfl⟩:=rx;cases y with
  | non=>cases ry; exact PySem.EqNone.eq_str_none (kM I q (by simp))
  | bl j=>cases ry; exact PySem.EqMixed.eq_str_bool (kM I q (by simp))
  | int j=>obtain⟨t',rfl⟩:=ry; exact PySem.EqMixed.eq_str_int (kM I q (by simp))
  | str j=>obtain⟨t',rfl⟩:=ry; exact eq_str (kM I q ZT)
  | _=>exact absurd (show false=true from hs) Xy
 | byt i=>
  obtain⟨t,rfl⟩:=rx;cases y with
  | byt j=>obtain⟨t',rfl⟩:=ry; exact W.eq_bytes (kM I q ZU)
  | _=>exact absurd (show false=true from hs) Xy
 | _=>cases y <;> exact absurd (show false=true from hs) Xy
theorem jh9:OpR X (compareOp .NotEq) rNe:=by
 intro pins s σ H x y v u Q I rx ry h;obtain⟨hs,q⟩:=h;cases x with
 | non=>
  cases rx;cases y with
  | non=>cases ry; exact PySem.EqNone.ne_none_none (kM I q (by simp))
  | bl j=>cases ry; exact PySem.EqNone.ne_none_bool (kM I q (by simp))
  | int j=>obtain⟨t',rfl⟩:=ry; exact PySem.EqNone.ne_none_int (kM I q (by simp))
  | str j=>obtain⟨t',rfl⟩:=ry; exact PySem.EqNone.ne_none_str (kM I q (by simp))
  | _=>exact absurd (show false=true from hs) Xy
 | bl i=>
  cases rx;cases y with
  | non=>cases ry; exact PySem.EqNone.ne_bool_none (kM I q (by simp))
  | bl j=>cases ry; exact ne_bool (kM I q (congrArg not jdO))
  | str j=>obtain⟨t',rfl⟩:=ry; exact PySem.EqMixed.ne_bool_str (kM I q (by simp))
  | _=>exact absurd (show false=true from hs) Xy
 | int i=>
  obtain⟨t,rfl⟩:=rx;cases y with
  | non=>cases ry; exact PySem.EqNone.ne_int_none (kM I q (by simp))
  | int j=>obtain⟨t',rfl⟩:=ry; exact ne_int (kM I q (congrArg not QR))
  | str j=>obtain⟨t',rfl⟩:=ry; exact PySem.EqMixed.ne_int_str (kM I q (by simp))
  | _=>exact absurd (show false=true from hs) Xy
 | str i=>
  obtain⟨t,rfl⟩:=rx;cases y with
  | non=>cases ry; exact PySem.EqNone.ne_str_none (kM I q (by simp))
  | bl j=>cases ry; exact PySem.EqMixed.ne_str_bool (kM I q (by simp))
  | int j=>obtain⟨t',rfl⟩:=ry; exact PySem.EqMixed.ne_str_int (kM I q (by simp))
  | str j=>obtain⟨t',rfl⟩:=ry; exact ne_str (kM I q (congrArg not ZT))
  | _=>exact absurd (show false=true from hs) Xy
 | byt i=>
  obtain⟨t,rfl⟩:=rx;cases y with
  | byt j=>obtain⟨t',rfl⟩:=ry; exact W.ne_bytes (kM I q (congrArg not ZU))
  | _=>exact absurd (show false=true from hs) Xy
 | _=>cases y <;> exact absurd (show false=true from hs) Xy
theorem G1:OpR X (compareOp .Lt) (rI0 fun i j=>.bl (decide (i<j))):=jhU fun _ _ _ _ _ _ _ q=>lt_int q
theorem YB:OpR X (compareOp .LtE) (rI0 fun i j=>.bl (decide (i<=j))):=jhU fun _ _ _ _ _ _ _ q=>le_int q
theorem UO:OpR X (compareOp .Gt) (rI0 fun i j=>.bl (decide (j<i))):=jhU fun _ _ _ _ _ _ _ q=>gt_int q
theorem jh_:OpR X (compareOp .GtE) (rI0 fun i j=>.bl (decide (j<=i))):=jhU fun _ _ _ _ _ _ _ q=>ge_int q
theorem kh (b:Expr) {op:CmpOp} (h:op≠.In:=by decide) (h2:op≠.NotIn:=by decide):behindInMarks op b=false:=by
 have e1:(op==CmpOp.In)=false:=by cases op <;> first | rfl | exact absurd rfl h
 have e2:(op==CmpOp.NotIn)=false:=by cases op <;> first | rfl | exact absurd rfl h2
 cases b <;> simp[behindInMarks,e1,e2]
theorem zx {op:CmpOp}{r:R2} (ho:OpR X (compareOp op) r) (ha:PE X a ta) (hb:PE X b tb) (hm:behindInMarks op b=false):PE X (.Compare a [op] [b] pos) (tOp r ta tb):=by
 intro pins s σ H Q I h;exact wpAny_Compare1 (jh7 ha hb I h fun v u s2 x y H2 I2 rx ry q=>ho pins s2 σ H2 x y v u Q I2 rx ry q) hm
def jb_ (t:TE):TT:=fun σ H Q=>t σ H fun x H'=>∃ k,x=.bl k/\Q k H'
theorem jV {op:CmpOp}{r:R2} (ho:OpR X (compareOp op) r) (ha:PE X a ta) (hb:PE X b tb) (hm:behindInMarks op b=false):PT X (.Compare a [op] [b] pos) (jb_ (tOp r ta tb)):=by
 intro pins s σ H Q I h;refine wpAny_isTrue_Compare1 (thn (ha pins s σ H _ I h) fun v s1 ⟨x,H1,I1,r1,q1⟩=>thn (hb pins s1 σ H1 _ I1 q1) fun u s2 ⟨y,H2,I2,r2,q2⟩=>
  thn (ho pins s2 σ H2 x y v u _ I2 r1 r2 q2) fun c s3 ⟨z,H3,I3,r3,k,e,q3⟩=>?_) hm
 subst e;cases r3;exact X7 ⟨H3,I3,q3⟩
def G2 (r r':R2) (ta tb tc:TE):TE:=fun σ H Q=>ta σ H fun x H1=>tb σ H1 fun y H2=>r x y H2 fun z H3=>∃ k,z=.bl k /\
 (if k=true then tc σ H3 fun w' H4=>r' y w' H4 Q else Q (.bl false) H3)
theorem jca {op:CmpOp}{r r':R2} (ho:OpR X (compareOp op) r) (ho':OpR X (compareOp op') r') (ha:PE X a ta) (hb:PE X b tb) (hc:PE X c tc)
  (hm:lastMarks [op,op'] [b,c]=false:=by with_unfolding_all rfl):PE X (.Compare a [op,op'] [b,c] pos) (G2 r r' ta tb tc):=by
 intro pins s σ H Q I h;refine Compare_chain (thn (ha pins s σ H _ I h) fun v s1 ⟨x,H1,I1,r1,q1⟩=>chain_link (thn (hb pins s1 σ H1 _ I1 q1) fun u s2 ⟨y,H2,I2,r2,q2⟩=>
  thn (ho pins s2 σ H2 x y v u _ I2 r1 r2 q2) fun d s3 ⟨z,H3,I3,r3,k,e,q3⟩=>?_)) hm
 subst e;cases r3;refine X7 ?_;cases k with
 | false=>exact ite_ff ⟨.bl false,H3,I3,rfl,q3⟩
 | true=>exact ite_tt (chain_last (thn (hc pins s3 σ H3 _ I3 q3) fun w' s4 ⟨z',H4,I4,r4,q4⟩=>ho' pins s4 σ H4 y z' u w' Q I4 r2 r4 q4))
theorem QS {op:CmpOp}{r r':R2} (ho:OpR X (compareOp op) r) (ho':OpR X (compareOp op') r') (ha:PE X a ta) (hb:PE X b tb) (hc:PE X c tc)
  (hm:lastMarks [op,op'] [b,c]=false:=by with_unfolding_all rfl):PT X (.Compare a [op,op'] [b,c] pos) (jb_ (G2 r r' ta tb tc)):=by
 intro pins s σ H Q I h;refine isTrue_chain (thn (ha pins s σ H _ I h) fun v s1 ⟨x,H1,I1,r1,q1⟩=>test_link (thn (hb pins s1 σ H1 _ I1 q1) fun u s2 ⟨y,H2,I2,r2,q2⟩=>
  thn (ho pins s2 σ H2 x y v u _ I2 r1 r2 q2) fun d s3 ⟨z,H3,I3,r3,k,e,q3⟩=>?_)) hm
 subst e;cases r3;refine X7 ?_;cases k with
 | false=>
  obtain⟨k',e',q'⟩:=q3;cases e';exact ite_ff ⟨H3,I3,q'⟩
 | true=>
  refine ite_tt (test_last (thn (hc pins s3 σ H3 _ I3 q3) fun w' s4 ⟨z',H4,I4,r4,q4⟩=>thn (ho' pins s4 σ H4 y z' u w' _ I4 r2 r4 q4) fun d' s5 ⟨z2,H5,I5,r5,k2,e2,q5⟩=>?_));subst e2;cases r5;exact X7 ⟨H5,I5,q5⟩
theorem ZV:(sizeLine:Nat)<2 ^ 63:=by rw[XH]; decide
theorem YC {x:V} (r:Vals [x] us):∃ u,us=[u]/\RelV x u:=by
 cases r with
 | cons r1 r2=>cases r2; exact ⟨_,rfl,r1⟩
theorem jia {x y:V} (r:Vals [x,y] us):∃ u w',us=[u,w']/\RelV x u/\RelV y w':=by
 cases r with
 | cons r1 r2=>
  cases r2 with
  | cons r3 r4=>cases r4; exact ⟨_,_,rfl,r1,r3⟩
theorem UP (hc:X.calm=true):zw X (.builtin "min") (fun xs H Q=>∃ i j,xs=[.int i,.int j]/\Q (.int (if j<i then j else i)) H):=by
 intro pins s σ H xs us Q I r h;obtain⟨i,j,rfl,q⟩:=h;obtain⟨u,w',rfl,⟨t,rfl⟩,⟨t',rfl⟩⟩:=jia r;refine min_two_ints (I.ok.hd hc) fun h' tk k=>⟨_,H,I.kept k,?_,q⟩;by_cases hj:j<i
 ·rw[if_pos hj,if_pos hj]; exact ⟨_,rfl⟩
 ·rw[if_neg hj,if_neg hj]; exact ⟨_,rfl⟩
end
structure ObjM (h:Heap) (x dx C:Addr) (mA:Str->Option Value):Prop where
 obj:h.get? x=some (W.instObj C dx)
 ns:h.Ns1 dx mA
 ne:dx≠x
theorem zR (n:h.Ns1 dx mA):∃ od,h.get? dx=some od/\∀ name,W.lookIn name od=some (mA name):=by
 obtain⟨o,es,ep,ho,hd,hk,_,hm⟩:=n;refine⟨o,ho,fun name=>?_⟩;have e:=hm name;unfold nsFind findBy at e;rw[<- Array.find?_toList] at e;unfold W.lookIn;rw[hd];dsimp only;split
 ·rename_i y q
  rw[q] at e;exact congrArg some e
 ·rename_i q
  rw[q] at e;have a:es.toList.any (·.refKey)=false:=by
   rw[List.any_eq_false];intro y hy;obtain⟨z,t,hkey⟩:=hk y (Array.mem_toList_iff.mp hy);simp[DictEntry.refKey,hkey]
  have a':¬ es.toList.any (·.refKey)=true:=by rw[a]; exact Xy
  rw[if_neg a'];exact congrArg some e
theorem ObjM.look {x:Addr} (I:ObjM h x dx C mA):∃ od,W.InstAt h x (W.instObj C dx) C (some od)/\∀ name,W.lookIn name od=some (mA name):=
 let ⟨od,ho,hl⟩:=zR I.ns
 ⟨od,⟨I.obj,rfl,rfl,ho⟩,hl⟩
section
variable {x f:Addr} 
theorem jeD (X:K.In s.heap) (I:ObjM s.heap x dx C mA) (hg:W.plainGet K C name=true) (hh:W.hasDictIn K C=true)
  (ha:W.findIn K (.ref C) name=some none) (hv:mA name=some v) (hv':W.handedIn v=true) (h:Q v { s with toks:=s.toks+1 }) :
  wpAny (model prog w) A (getAttr (.ref x) name expr) Q E s:=by
 obtain⟨od,J,hl⟩:=I.look;exact W.get_value X J (W.plainGet_of hg).1 (W.findObj_own hh ha rfl (by rw[hl,hv])) hv' h
theorem jcb {Q:Value×List Value->Shared->Prop} (X:K.In s.heap) (I:ObjM s.heap x dx C mA) (hg:W.plainGet K C name=true)
  (hf:W.findIn K (.ref C) name=some (some (.ref f))) (ht:W.isFn K (.ref f)=true) (hv:mA name=none) (h:Q (.ref f,[.ref x]) s) :
  wpAny (model prog w) A (getMethod (.ref x) name pl) Q E s:=by
 obtain⟨od,J,hl⟩:=I.look;exact W.method_fn X J (W.plainGet_of hg).1 (W.plainGet_of hg).2 hf (wD.mp ht) (by show (W.lookIn name od).map (·.isSome)=some false; rw[hl,hv]; rfl) h
theorem jeE {Q:Unit->Shared->Prop} (X:K.In s.heap) (I:ObjM s.heap x dx C mA)
  (hs:W.findIn K (.ref C) "__setattr__"=some (some (.builtin "object.__setattr__"))) (hp:W.plainOver K C=true) (ht:W.takerIn K C name=some none) (hh:W.hasDictIn K C=true)
  (hw:PySem.Within mA ns) (hsz:ns.length<=sizeLine)
  (h:∀ h',ObjM h' x dx C (fun y=>if y=name then some v else mA y)->Heap.SameBut dx s.heap h'->Q () { s with heap:=h',toks:=s.toks+2 }) :
  wpAny (model prog w) A (setAttr (.ref x) name v) Q E s:=by
 obtain⟨od,J,hl⟩:=I.look;refine W.set_plain X J hs (W.osa_open (s:={ s with toks:=s.toks+1 }) (r:=none) X J hp ht fun b=>?_)
 obtain⟨cd,hc,hd'⟩:=W.any_some hh;have hx:s.heap.get? x=some ⟨.ref C,some dx,.plain,#[]⟩:=I.obj;refine Xa (Xd (Xa (Xa (wpAny_loadPart hx (Xa (W.Looks.here (s:={ s with toks:=s.toks+1 }) (W.looks_clsIn X hc) ?_))))))
 rw[hd'];refine Xd (a:=some dx) (Xa (Xd (Xa ?_)));refine wpAny_nsSet1 (s:={ s with toks:=s.toks+1 }) I.ns fun h' hn2 hs2=>?_
 obtain⟨oD,esD,epD,hoD,hdD,hcD⟩:=hn2.count (PySem.Within.cons name v hw);refine Xa (wpAny_lookBehind hoD (by rw[hdD]; exact pastItsLine_dict (XI hcD (by rw[XQ]; omega))) ?_);exact Xd (h _ ⟨(hs2.2 _ (Ne.symm I.ne)).trans I.obj,hn2,I.ne⟩ hs2)
theorem jcc {R:Result->Shared->Prop}{vs:List Value} (X:K.In s.heap) (hm:W.makesIn K C=true)
  (hi:W.findIn K (.ref C) "__init__"=some (some (.ref f))) (hf:W.typeIn K (.ref f)=some (.type "function"))
  (h:codeAny (model prog w) (A.under (.builtin "type.__call__" ⟨.ref C::vs,kw⟩)) (.call (.ref f) ⟨.ref (s.heap.objs.size+1)::vs,kw⟩) (W.InitBack (s.heap.objs.size+1) R)
   { s with heap:=(s.heap.push W.emptyDict).push (W.instObj C s.heap.objs.size) }) :
  codeAny (model prog w) A (.call (.ref C) ⟨vs,kw⟩) R s:=by
 obtain⟨hh,g,d,t,os⟩:=s;exact W.make_core (W.makes_of X hm) (W.looks_findIn X hi) (fun self=>W.bind_fn X self hf) (.inl rfl) h
end
def GR (f:Str) (v:V):List (Str×V)->List (Str×V)
 | []=>[(f,v)]
 | (g,x)::r=>if g=f then (g,v)::r else (g,x)::GR f v r
theorem ku (f g:Str) (v:V):∀ fs:List (Str×V),(GR f v fs).lookup g=if g=f then some v else fs.lookup g
 | []=>by
  show List.lookup g [(f,v)]=_;by_cases h:g=f
  ·have hb:(g==f)=true:=wD.mpr h;simp only[List.lookup,hb,if_pos h]
  ·have hb:(g==f)=false:=beq_eq_false_iff_ne.mpr h;simp only[List.lookup,hb,if_neg h]
 | (k,x)::r=>by
  have ih:=ku f g v r;rw[show GR f v ((k,x)::r)=(if k=f then (k,v)::r else (k,x)::GR f v r) from rfl];by_cases hk:k=f
  ·rw[if_pos hk];by_cases h:g=k
   ·have hb:(g==k)=true:=wD.mpr h;simp only[List.lookup,hb,if_pos (h.trans hk)]
   ·have hb:(g==k)=false:=beq_eq_false_iff_ne.mpr h;simp only[List.lookup,hb,if_neg (fun e:g=f=>h (e.trans hk.symm))]
  ·rw[if_neg hk];by_cases h:g=k
   ·have hb:(g==k)=true:=wD.mpr h;simp only[List.lookup,hb,if_neg (fun e:g=f=>hk (h.symm.trans e))]
   ·have hb:(g==k)=false:=beq_eq_false_iff_ne.mpr h;simp only[List.lookup,hb];exact ih
theorem yM (f:Str) (v:V):∀ fs:List (Str×V),f∈(GR f v fs).map (·.1)/\∀ g,g∈fs.map (·.1)->g∈(GR f v fs).map (·.1)
 | []=>⟨by simp[GR],fun g h=>by simp at h⟩
 | (k,x)::r=>by
  obtain⟨i1,i2⟩:=yM f v r;rw[show GR f v ((k,x)::r)=(if k=f then (k,v)::r else (k,x)::GR f v r) from rfl];by_cases hk:k=f
  ·rw[if_pos hk];subst hk;exact⟨by simp,fun g h=>by simpa using h⟩
  ·rw[if_neg hk];refine⟨?_,fun g h=>?_⟩
   ·rw[Xl];exact Xj _ i1
   ·rw[Xl] at h ⊢;rcases XB.mp h with e | e
    ·exact XB.mpr (.inl e)
    ·exact Xj _ (i2 g e)
theorem zy (f:Str) (v:V):∀ fs:List (Str×V),(GR f v fs).length<=fs.length+1
 | []=>by simp[GR]
 | (k,x)::r=>by
  have ih:=zy f v r;rw[show GR f v ((k,x)::r)=(if k=f then (k,v)::r else (k,x)::GR f v r) from rfl];by_cases hk:k=f
  ·rw[if_pos hk,XQ,XQ]; omega
  ·rw[if_neg hk,XQ,XQ]; omega
theorem RelO.some_of {v:V}{o:Option Value} (r:RelO (some v) o):∃ u,o=some u/\RelV v u:=by
 cases o with
 | none=>exact (show False from r).elim
 | some u=>exact ⟨u,rfl,r⟩
theorem RelO.none_of {o:Option Value} (r:RelO none o):o=none:=by
 cases o with
 | none=>rfl
 | some u=>exact (show False from r).elim
theorem UQ {v:V} (r:RelV v u):W.handedIn u=true:=by
 cases v with
 | non=>cases (show u=Value.none from r); rfl
 | bl b=>cases (show u=Value.bool b from r); rfl
 | int i=>obtain⟨t,e⟩:=(show ∃ t,u=Value.int i t from r); cases e; rfl
 | str x=>obtain⟨t,e⟩:=(show ∃ t,u=Value.str x t from r); cases e; rfl
 | byt b=>obtain⟨t,e⟩:=(show ∃ t,u=Value.bytes b t from r); cases e; rfl
 | flt b=>obtain⟨t,e⟩:=(show ∃ t,u=Value.float b t from r); cases e; rfl
 | ref a=>cases (show u=Value.ref a from r); rfl
 | ty n=>cases (show u=Value.type n from r); rfl
section
variable {P:Program}{H H':Hp}{fs fs':List (Str×V)}
theorem QT (hok:HOk P w H h) (e:H a=some (.ins C dx fs)):∃ mA,ObjM h a dx C mA/\(∀ f,RelO (fs.lookup f) (mA f))/\PySem.Within mA (fs.map (·.1))/\fs.length<=1000/\H dx=some (.own a):=by
 obtain⟨d,z,ne,ob,mA,n,r,q⟩:=(show ObjOk P w H h a (.ins C dx fs) from hok a _ e);exact⟨mA,⟨ob,n,ne⟩,r,q,z,d⟩
end
structure Cls (K:W.Frag) (C:Addr):Prop where
 pg:W.plainGet K C Str.empty=true
 hd:W.hasDictIn K C=true
 po:W.plainOver K C=true
 sa:W.findIn K (.ref C) "__setattr__"=some (some (.builtin "object.__setattr__"))
theorem Cls.get (c:Cls K C) (f:Str):W.plainGet K C f=true:=c.pg
def NoAttr (K:W.Frag) (C:Addr) (f:Str):Prop:=W.findIn K (.ref C) f=some none
theorem NoAttr.taker {f:Str} (n:NoAttr K C f):W.takerIn K C f=some none:=by
 unfold W.takerIn;rw[show W.findIn K (.ref C) f=some none from n];rfl
structure Meth (K:W.Frag) (C:Addr) (m:Str) (f:Addr):Prop where
 at_:W.findIn K (.ref C) m=some (some (.ref f))
 fn:W.isFn K (.ref f)=true
 kp:W.keepIn K (.ref f)=true
section
variable {X:Cx}{σ:St}{H:Hp}{fs:List (Str×V)}{f:Str}{v:V} 
theorem YD {b:Bool} (I:Inv X pins σ H s) (e:H a=some (.ins C dx fs)) (c:Cls X.K C) (n:NoAttr X.K C f) (l:fs.lookup f=some v)
  (h:∀ u s',Inv X pins σ H s'->RelV v u->Q u s'):wpAny (model X.prog X.w) A (getAttr (.ref a) f b) Q E s:=by
 obtain⟨mA,O,r,_,_,_⟩:=QT I.hok e;obtain⟨u,hu,ru⟩:=RelO.some_of (v:=v) (o:=mA f) (by rw[<- l]; exact r f);exact jeD I.kIn O (c.get f) c.hd n hu (UQ ru) (h u _ (I.tok _) ru)
theorem YE {m:Str}{g:Addr}{Q:Value×List Value->Shared->Prop} (I:Inv X pins σ H s) (e:H a=some (.ins C dx fs)) (c:Cls X.K C) (k:Meth X.K C m g) (l:fs.lookup m=none)
  (h:Q (.ref g,[.ref a]) s):wpAny (model X.prog X.w) A (getMethod (.ref a) m pl) Q E s:=by
 obtain⟨mA,O,r,_,_,_⟩:=QT I.hok e;have hn:mA m=none:=RelO.none_of (by rw[<- l]; exact r m);exact jcb I.kIn O (c.get m) k.at_ k.fn hn h
theorem YF {y:V}{Q:Unit->Shared->Prop} (I:Inv X pins σ H s) (e:H a=some (.ins C dx fs)) (c:Cls X.K C) (n:NoAttr X.K C f) (hl:fs.length<1000) (ry:RelV y u)
  (h:∀ s',Inv X pins σ (upd H a (.ins C dx (GR f y fs))) s'->Q () s'):wpAny (model X.prog X.w) A (setAttr (.ref a) f u) Q E s:=by
 obtain⟨mA,O,r,wi,_,ho⟩:=QT I.hok e;have hz:(fs.map (·.1)).length<=sizeLine:=by rw[Xp,XH]; omega
 refine jeE I.kIn O c.sa c.po n.taker c.hd wi hz fun h' O' sb=>h _ ?_;have hd:∃ o,h'.get? dx=some o:=let ⟨o,_,_,e',_⟩:=O'.ns; ⟨o,e'⟩;refine I.write (x:=a) (e:=dx) (by rw[e]; exact True.intro) (.inr ho) (fun b q hb z=>(sb.2 b hb).trans z) hd ?_;refine⟨by rw[jz O.ne]; exact ho,?_,O.ne,O'.obj,_,O'.ns,fun g=>?_,fun g hg=>?_⟩
 ·have:=zy f y fs; omega
 ·show RelO ((GR f y fs).lookup g) (if g=f then some u else mA g);rw[ku];by_cases q:g=f
  ·rw[if_pos q,if_pos q]; exact ry
  ·rw[if_neg q,if_neg q]; exact r g
 ·by_cases q:g=f
  ·rw[q]; exact (yM f y fs).1
  ·refine(yM f y fs).2 g (wi g fun z=>hg ?_);show (if g=f then some u else mA g)=none;rw[if_neg q]; exact z
theorem Inv.made (I:Inv X pins σ H s):Inv X pins σ (upd (upd H s.heap.objs.size (.own (s.heap.objs.size+1))) (s.heap.objs.size+1) (.ins C s.heap.objs.size []))
  { s with heap:=(s.heap.push W.emptyDict).push (W.instObj C s.heap.objs.size) }:=by
 have e1:(s.heap.push W.emptyDict).get? s.heap.objs.size=some W.emptyDict:=Xo s.heap rfl;have e2:((s.heap.push W.emptyDict).push (W.instObj C s.heap.objs.size)).get? (s.heap.objs.size+1)=some (W.instObj C s.heap.objs.size):=by
  have:=Xo (s.heap.push W.emptyDict) (o:=W.instObj C s.heap.objs.size) rfl
  rwa [wK] at this
 have e3:(s.heap.push W.emptyDict).Ns s.heap.objs.size (fun _=>none):=⟨W.emptyDict,#[],_,e1,rfl,(fun e he=>absurd he (by simp)),fun _=>rfl⟩;have I1:=I.laid (a:=s.heap.objs.size) (o:=.own (s.heap.objs.size+1)) (h':=s.heap.push W.emptyDict) (t':=s.toks) (fun b u q=>Xb _ q) (Xh _) ⟨_,e1⟩;refine I1.laid (a:=s.heap.objs.size+1) (o:=.ins C s.heap.objs.size []) (t':=s.toks) (fun b u q=>Xb _ q) (Nat.le_of_eq (wK _ _)) ?_;have ne:s.heap.objs.size≠s.heap.objs.size+1:=XF (Nat.lt_succ_self _);refine⟨by rw[jz ne,jB],wC _,ne,e2,fun _=>none,(Heap.Ns1.of_empty e3).at fun o q=>Xb _ q,fun _=>True.intro,fun y hy=>absurd rfl hy⟩
theorem ZW {f:Str} (hb:attributeBase e f env (eval e env)=eval e env)
  (h:wpAny (model prog w) A (eval e env) (fun o s₁=>wpAny (model prog w) A (getAttr o f true) Q E s₁) E s):wpAny (model prog w) A (eval (.Attribute e f pos) env) Q E s:=
 Attribute_any_ h (by rw[arm_eval_Attribute,hb])
end
def jgl (K:W.Frag) (ta:TE) (f:Str):TE:=fun σ H Q=>ta σ H fun x H1=>∃ a C dx fs v,x=.ref a/\H1 a=some (.ins C dx fs)/\Cls K C/\NoAttr K C f/\fs.lookup f=some v/\Q v H1
def jib (K:W.Frag) (ta tv:TE) (f:Str):TS:=fun D σ H=>tv σ H fun y H1=>ta σ H1 fun x H2=>∃ a C dx fs,x=.ref a/\H2 a=some (.ins C dx fs)/\Cls K C/\NoAttr K C f/\fs.length<1000 /\
 D.nx σ (upd H2 a (.ins C dx (GR f y fs)))
section
variable {X:Cx}{o:Expr}{f:Str}{tpos:Pos}{ta tv:TE}
theorem UR (he:PE X e ta) (hb:attributeBase e f X.env (eval e X.env)=eval e X.env):PE X (.Attribute e f pos) (jgl X.K ta f):=by
 intro pins s σ H Q I h;refine ZW hb (thn (he pins s σ H _ I h) fun u s1 ⟨x,H1,I1,rx,a,C,dx,fs,v,ex,ea,c,n,l,q⟩=>?_);subst ex;obtain rfl:u=Value.ref a:=rx;exact YD I1 ea c n l fun u' s2 I2 ru=>⟨v,H1,I2,ru,q⟩
theorem ZX (ha:PE X o ta) (hv:PE X value tv) (hs:swapsWith value (some (.Attribute o f pos')) pos.line X.env=pure false):PS X (.Assign [.Attribute o f pos'] value pos) (jib X.K ta tv f):=by
 intro pins s σ H D I h;refine plainObj_wpAny_Assign_Attribute (thn (hv pins s σ H _ I h) fun u s1 ⟨y,H1,I1,ry,q⟩=>thn (ha pins s1 σ H1 _ I1 q) fun ov s2 ⟨x,H2,I2,rx,a,C,dx,fs,ex,ea,c,n,l,q2⟩=>?_) hs;subst ex;obtain rfl:ov=Value.ref a:=rx;exact YF I2 ea c n l ry fun s3 I3=>⟨σ,_,I3,q2⟩
end
section
variable {X:Cx}{σ:St}{H:Hp}{c:Value}{b:Bool}
inductive TyOf (K:W.Frag) (H:Hp):V->Value->Prop where
 | non:TyOf K H .non (.type "NoneType")
 | bl (x:Bool):TyOf K H (.bl x) (.type "bool")
 | int (i:Int):TyOf K H (.int i) (.type "int")
 | str (x:Str):TyOf K H (.str x) (.type "str")
 | flt (x:UInt64):TyOf K H (.flt x) (.type "float")
 | lst {a:Addr}{xs:List V} (e:H a=some (.lst xs)):TyOf K H (.ref a) (.type "list")
 | frz {a:Addr}{o:Obj}{xs:List V} (e:H a=some (.frz o (.lst xs))):TyOf K H (.ref a) (.type "list")
 | tup {a:Addr}{xs:List V} (e:H a=some (.tup xs)):TyOf K H (.ref a) (.type "tuple")
 | dK {a:Addr}{kvs:List (Key×V)} (e:H a=some (.dK kvs)):TyOf K H (.ref a) (.type "dict")
 | dT {a:Addr}{kvs:List (List Key×V)} (e:H a=some (.dT kvs)):TyOf K H (.ref a) (.type "dict")
 | ins {a C dx:Addr}{fs:List (Str×V)} (e:H a=some (.ins C dx fs)) (cl:Cls K C) (ha:W.findIn K (.ref C) "__class__"=some (some (.builtin "object.__class__")))
   (hn:W.specialIn K (.builtin "object.__class__") "__get__"=some (some (.builtin "getset_descriptor.__get__"))) (htk:W.takesIn K (.builtin "object.__class__")=some true)
   (hm:W.mroIn K C (.type "object")=some true):TyOf K H (.ref a) (.ref C)
theorem ZY {x:V}{t:Value} (I:Inv X pins σ H s) (rx:RelV x u) (ty:TyOf X.K H x t) (e:W.kitOne X.K t c=some b) (h:∀ tk,Q (.bool b) { s with toks:=tk }) :
  wpAny (model X.prog X.w) A (call (.builtin "isinstance") [u,c]) Q E s:=by
 cases ty with
 | non=>cases (show u=Value.none from rx); exact wo W.kitx_none I.kIn True.intro e (fun z=>nomatch z) h
 | bl y=>cases (show u=Value.bool y from rx); exact wo W.kitx_bool I.kIn True.intro e (fun z=>nomatch z) h
 | int i=>obtain⟨t,q⟩:=(show ∃ t,u=Value.int i t from rx); cases q; exact wo W.kitx_int I.kIn True.intro e (fun z=>nomatch z) h
 | str y=>obtain⟨t,q⟩:=(show ∃ t,u=Value.str y t from rx); cases q; exact wo W.kitx_str I.kIn True.intro e (fun z=>nomatch z) h
 | flt y=>obtain⟨t,q⟩:=(show ∃ t,u=Value.float y t from rx); cases q; exact wo W.kitx_float I.kIn True.intro e (fun z=>nomatch z) h
 | @lst a xs ea=>
  cases (show u=Value.ref a from rx);obtain⟨_,_,n,_,h1⟩:=(show ObjOk X.prog X.w H s.heap a (.lst xs) from I.hok a _ ea);exact wo W.kitx_list I.kIn ⟨_,h1,rfl⟩ e (fun z=>nomatch z) h
 | @frz a ob xs ea=>
  cases (show u=Value.ref a from rx);obtain⟨_,_,_,n,_,h1⟩:=(show ObjOk X.prog X.w H s.heap a (.frz ob (.lst xs)) from I.hok a _ ea);exact wo W.kitx_list I.kIn ⟨_,h1,rfl⟩ e (fun z=>nomatch z) h
 | @tup a xs ea=>
  cases (show u=Value.ref a from rx);obtain⟨_,_,_,p⟩:=(show ObjOk X.prog X.w H s.heap a (.tup xs) from I.hok a _ ea);obtain⟨o,h1,h2,_⟩:=p;exact wo W.kitx_tuple I.kIn ⟨o,h1,h2.1⟩ e (fun z=>nomatch z) h
 | @dK a kvs ea=>
  cases (show u=Value.ref a from rx);obtain⟨_,_,vs,_,p⟩:=(show ObjOk X.prog X.w H s.heap a (.dK kvs) from I.hok a _ ea);obtain⟨o,es,ep,h1,h2,_⟩:=p;exact wo W.kitx_dict I.kIn ⟨o,h1,h2.1⟩ e (fun z=>nomatch z) h
 | @dT a kvs ea=>
  cases (show u=Value.ref a from rx);obtain⟨_,_,xs,_,o,es,ep,h1,h2,_⟩:=(show ObjOk X.prog X.w H s.heap a (.dT kvs) from I.hok a _ ea);exact wo W.kitx_dict I.kIn ⟨o,h1,h2.1⟩ e (fun z=>nomatch z) h
 | @ins a C dx fs ea cl ha hn htk hm=>
  cases (show u=Value.ref a from rx);obtain⟨mA,O,_⟩:=QT I.hok ea;obtain⟨od,J,_⟩:=O.look;exact wo (W.kitx_own (cl.get _) cl.hd ha hn htk hm) I.kIn J e (fun z=>nomatch z) h
end
structure Room (k:Nat) (A:Around):Prop where
 hd:A.handled=none
 dp:A.depth+3 * k+5<recursionLimit
 un:A.units+16 * k+200<cLine
 gd:A.guards=some []
theorem Room.mono {k:Nat} (r:Room k A) (h:j<=k):Room j A:=⟨r.hd,by have:=r.dp; omega,by have:=r.un; omega,r.gd⟩
theorem Room.deeper {k:Nat} (r:Room (k+1) A) (env:Env):Room k (A.deeper env):=
 ⟨r.hd,by have:=r.dp; show A.depth+1+3 * k+5<_; omega,by have:=r.un; show A.units+3+16 * k+200<_; omega,r.gd⟩
theorem Room.in1 {k:Nat} (r:Room (k+1) A):Room k A.in1:=
 ⟨r.hd,by have:=r.dp; show A.depth+3 * k+5<_; omega,by have:=r.un; show A.units+1+16 * k+200<_; omega,r.gd⟩
theorem YG:(A.under (.builtin "type.__call__" ⟨.ref C::us,kw⟩)).depth=A.depth+1:=by
 first | rfl | simp[Around.under,Code.weight,Code.isCreation,Code.isGuard,Code.isCaller,Code.frames,Code.isFrame,guardIds]
theorem YH:(A.under (.builtin "type.__call__" ⟨.ref C::us,kw⟩)).units=A.units+1:=by
 first | rfl | simp[Around.under,Code.cUnits,Code.frames,Code.isFrame]
theorem VX:(A.under (.builtin "type.__call__" ⟨.ref C::us,kw⟩)).guards=A.guards:=by
 cases A with
 | mk a b c d e=>cases d <;> rfl
theorem Room.make {k:Nat} (r:Room (k+1) A) (C:Addr) (us:List Value) (kw:List (Str×Value)):Room k (A.under (.builtin "type.__call__" ⟨.ref C::us,kw⟩)):=
 ⟨r.hd,by have:=r.dp; rw[YG]; omega,by have:=r.un; rw[YH]; omega,(VX).trans r.gd⟩
theorem Room.depth {k:Nat} (r:Room k A):A.depth<recursionLimit:=by have:=r.dp; omega
theorem Room.units {k:Nat} (r:Room k A):A.units+64<cLine:=by have:=r.un; omega
def qD:TA:=fun _ H Q=>Q [] H
def jF (ta:TE) (tr:TA):TA:=fun σ H Q=>ta σ H fun x H1=>tr σ H1 fun xs H2=>Q (x::xs) H2
section
variable {X:Cx}{te:TE}{t:TA} 
theorem jh:PA X [] qD:=fun _ _ _ _ H Q I h=>Calls.spliced_nil ⟨[],H,I,.nil,h⟩
theorem ja (ha:PE X e te) (hr:PA X es t) (hs:starEach (e::es) X.env=(false,eval e X.env)::starEach es X.env:=by rfl):PA X (e::es) (jF te t):=by
 intro pos pins s σ H Q I h;rw[hs];show wpAny _ _ (spliced ((false,eval e X.env)::backTo pos (starEach es X.env))) _ _ s;refine Calls.spliced_cons (thn (ha pins s σ H _ I h) fun u s1 ⟨x,H1,I1,r1,q1⟩=>?_);exact thn (hr pos pins s1 σ H1 _ I1 q1) fun us s2 ⟨xs,H2,I2,r2,q2⟩=>⟨x::xs,H2,I2,.cons r1 r2,q2⟩
def jcd (t:TA):TE:=fun σ H Q=>t σ H fun xs H1=>xs.length<=sizeLine/\∀ p,H1 p=none->Q (.ref p) (upd H1 p (.tup xs))
def jiN (t:TA):TE:=fun σ H Q=>t σ H fun xs H1=>xs.length<=sizeLine/\∀ p,H1 p=none->Q (.ref p) (upd H1 p (.lst xs))
theorem kP {x1} (h:PA X es t):PE X (.Tuple es x1 pos) (jcd t):=by
 intro pins s σ H Q I hq;refine wpAny_Tuple_spliced (thn (h pos pins s σ H _ I hq) fun us s1 ⟨xs,H1,I1,r,z,q⟩=>⟨by rw[<- r.length]; exact z,?_⟩);have hf:H1 s1.heap.objs.size=none:=I1.hok.fresh (Xh _);refine⟨.ref s1.heap.objs.size,upd H1 s1.heap.objs.size (.tup xs),I1.laid (t':=s1.toks) (fun b u e=>Xb _ e) (Xh _) ?_,rfl,q _ hf⟩;exact⟨z,us,r,TupO.new _ _⟩
theorem qM (h:PA X es t):PE X (.List es pos) (jiN t):=by
 intro pins s σ H Q I hq;refine wpAny_List_spliced (thn (h pos pins s σ H _ I hq) fun us s1 ⟨xs,H1,I1,r,z,q⟩=>⟨by rw[<- r.length]; exact z,?_⟩);have hf:H1 s1.heap.objs.size=none:=I1.hok.fresh (Xh _);refine⟨.ref s1.heap.objs.size,upd H1 s1.heap.objs.size (.lst xs),I1.laid (t':=s1.toks) (fun b u e=>Xb _ e) (Xh _) ?_,rfl,q _ hf⟩;exact⟨z,us,0,r,Xo _ rfl⟩
end
abbrev Sp:=List V->Hp->VK->XK->Prop
abbrev CXT:=List Env->Hp->Shared->XK->Value->Shared->Prop
structure Env0 (P:Program) (w:World) (K:W.Frag) (mg:Str->Option Value) (base:Heap) (A:Around) (outer:List Env) (s:Shared) (H:Hp):Prop where
 frames:A.frames=some outer
 mod:Mod K mg base
 bs:∀ b o,base.get? b=some o->s.heap.get? b=some o/\H b=none
 bsz:base.objs.size<=s.heap.objs.size
 funs:s.heap.FunFrames base outer
 frf:∀ b∈frs outer,H b=none
 hok:HOk P w H s.heap
 bare:AllBare s.gens
def CE (outer:List Env) (P:Program) (w:World) (H:Hp) (s:Shared) (Q:VK) (u:Value) (s':Shared):Prop:=
 ∃ v H',s'.os=s.os/\AllBare s'.gens/\Un (frs outer) [] H H' s.heap s'.heap/\HOk P w H' s'.heap/\RelV v u/\Q v H'
def CR (CX:CXT) (outer:List Env) (P:Program) (w:World) (H:Hp) (s:Shared) (Q:VK) (E:XK) (r:Result) (s':Shared):Prop:=
 match r with
 | .ok (.ret u)=>CE outer P w H s Q u s'
 | .ok _=>False
 | .error e=>CX outer H s E e s'
structure FnOk (P:Program) (w:World) (K:W.Frag) (mg:Str->Option Value) (base:Heap) (CX:CXT) (k:Nat) (f:Addr) (fd:FuncData) (ps:List Str) (sp:Sp):Prop where
 len:∀ vs H Q E,sp vs H Q E->vs.length=ps.length
 run:∀ (A:Around) (outer:List Env) (s:Shared) (H:Hp) (args:Args) (us:List Value) (vs:List V) (Q:VK) (E:XK),Room k A->Env0 P w K mg base A outer s H->BindsTo s fd args (ps.zip us)->Vals vs us->sp vs H Q E ->
  codeAny (model P w) A (.call (.ref f) args) (CR CX outer P w H s Q E) s
theorem FnOk.mono {P:Program}{CX:CXT}{k:Nat}{f:Addr}{sp:Sp} (F:FnOk P w K mg base CX j f fd ps sp) (h:j<=k) :
  FnOk P w K mg base CX k f fd ps sp:=⟨F.len,fun A outer s H args us vs Q E hr=>F.run A outer s H args us vs Q E (hr.mono h)⟩
theorem Env0.make {P:Program}{H:Hp} (e:Env0 P w K mg base A outer s H) (C:Addr) (us:List Value) (kw:List (Str×Value)) :
  Env0 P w K mg base (A.under (.builtin "type.__call__" ⟨.ref C::us,kw⟩)) outer s H:=⟨by first | exact e.frames | (simpa [Around.under,Code.envs,Code.isFrame,pushEnvs] using e.frames),e.mod,e.bs,e.bsz,e.funs,e.frf,e.hok,e.bare⟩
theorem Env0.in1 {P:Program}{H:Hp} (e:Env0 P w K mg base A outer s H) :
  Env0 P w K mg base A.in1 outer s H:=⟨e.frames,e.mod,e.bs,e.bsz,e.funs,e.frf,e.hok,e.bare⟩
section
variable {X:Cx}{σ:St}{H:Hp} 
theorem Inv.env0 (I:Inv X pins σ H s):Env0 X.prog X.w X.K X.mg X.base X.A X.stack s H:=
 ⟨I.ok.frames,I.ok.mod,I.bs,XI I.ok.bsz I.sz,I.stack,I.stkFree,I.hok,I.bare⟩
theorem Inv.after {Q:VK} (I:Inv X pins σ H s) (h:CE X.stack X.prog X.w H s Q u s'):EP X pins σ Q u s':=by
 obtain⟨v,H',os,bare,un,hok,r,q⟩:=h;obtain⟨hh,g,d,t,os'⟩:=s';obtain rfl:os'=s.os:=os;exact⟨v,H',I.call (h':=hh) (g':=g) (d':=d) (t':=t) (ch:=[]) un hok bare (fun b z=>absurd z (by simp)),r,q⟩
end
def Gi (sp:Sp) (dvs:List V) (E:XK) (t:TA):TE:=fun σ H Q=>t σ H fun vs H1=>sp (vs++dvs) H1 Q E
def ZZ (C:Addr) (m:Str) (sp:Sp) (dvs:List V) (E:XK) (ta:TE) (t:TA):TE:=fun σ H Q=>ta σ H fun x H1=>∃ a dx fs,x=.ref a/\H1 a=some (.ins C dx fs)/\fs.lookup m=none /\
 t σ H1 fun vs H2=>sp (x::(vs++dvs)) H2 Q E
def jeF (C:Addr) (sp:Sp) (dvs:List V) (E:XK) (t:TA):TE:=fun σ H Q=>t σ H fun vs H1=>∀ x dx,H1 x=none->H1 dx=none->dx≠x ->
 sp (.ref x::(vs++dvs)) (upd (upd H1 dx (.own x)) x (.ins C dx [])) (fun v H2=>v=.non/\Q (.ref x) H2) E
def Binds (K:W.Frag) (fd:FuncData) (ps:List Str) (ds:List Value):Prop:=
 ∀ (s:Shared) (us:List Value),K.In s.heap->(us++ds).length=ps.length->BindsTo s fd ⟨us,[]⟩ (ps.zip (us++ds))
theorem Binds.all (h:∀ us:List Value,us.length=ps.length->bindArgs fd ⟨us,[]⟩=pure (ps.zip us)):Binds K fd ps []:=fun s us _ hl=>by
 rw[XU] at hl ⊢;exact .of_eq (h us hl)
def Qn (CX:CXT) (X:Cx) (E:XK):Prop:=∀ (pins:List (Addr×Obj)) (σ:St) (H:Hp) (s:Shared) (e:Value) (s':Shared),Inv X pins σ H s->CX X.stack H s E e s'->X.xe e s'
section
variable {X:Cx}{CX:CXT}{k:Nat}{f:Addr}{sp:Sp}{dvs:List V}{ds:List Value}{E:XK}{m:Str}{o:Expr}{ta:TE}{t:TA}
theorem jdP {σ:St}{H:Hp}{Q:VK}{vs:List V} (F:FnOk X.prog X.w X.K X.mg X.base CX k f fd ps sp) (hr:Room k X.A) (hb:Binds X.K fd ps ds) (hd:Vals dvs ds) (hx:Qn CX X E)
  (I:Inv X pins σ H s) (r:Vals vs us) (h:sp (vs++dvs) H Q E):wpAny (model X.prog X.w) X.A (call (.ref f) us) (EP X pins σ Q) X.xe s:=by
 have r2:Vals (vs++dvs) (us++ds):=r.append hd;have hl:(us++ds).length=ps.length:=by rw[<- r2.length]; exact F.len _ _ _ _ h
 refine wpAny_call (codeAny_mono (F.run X.A X.stack s H ⟨us,[]⟩ (us++ds) (vs++dvs) Q E hr I.env0 (hb s us I.kIn hl) r2 h) fun r s' hq=>?_);cases r with
 | error e=>exact hx pins σ H s e s' I hq
 | ok fl=>
  cases fl with
  | ret u=>exact I.after hq
  | next=>exact False.elim hq
  | brk=>exact False.elim hq
  | cont=>exact False.elim hq
theorem jeG (F:FnOk X.prog X.w X.K X.mg X.base CX k f fd ps sp) (hr:Room k X.A) (hg:Gl X x) (hm:X.mg x=some (.ref f)) (hk:W.keepIn X.K (.ref f)=true) (hb:Binds X.K fd ps ds) (hd:Vals dvs ds) (hx:Qn CX X E)
  (ha:PA X (e::es) t) (hdb:(x==("__debug__":Str))=false:=by decide) (he:starEach (e::es) X.env=(false,eval e X.env)::starEach es X.env:=by rfl) (hpl:(backTo pos (starEach es X.env)).any (·.1)=false:=by rfl) :
  PE X (.Call (.Name x p) (e::es) [] pos) (Gi sp dvs E t):=by
 intro pins s σ H Q I h;refine wpAny_Call_Name_kw (zv I hg hm ?_ hdb);refine W.callWith_K (h₀:=X.base) I.ok.mod.kin hk (thn (ha pos pins s σ H _ I h) fun us s1 ⟨vs,H1,I1,r,q⟩=>⟨I1.kIn,?_⟩) he hpl;exact jdP F hr hb hd hx I1 r q
theorem jce (he:PE X o ta) (c:Cls X.K C) (hm:Meth X.K C m f) (F:FnOk X.prog X.w X.K X.mg X.base CX k f fd ps sp) (hr:Room k X.A) (hb:Binds X.K fd ps ds) (hd:Vals dvs ds) (hx:Qn CX X E)
  (ht:eval (.Call (.Attribute o m apos) [] [] pos) X.env=(do
   let ov <- eval o X.env
   standAt apos.atName
   let (f,first) <- holding [ov] (getMethod ov m pl)
   callWith pos f first (backTo pos (starEach [] X.env)) (backToKw pos (keywordEach [] X.env))):=by rfl) :
  PE X (.Call (.Attribute o m apos) [] [] pos) (ZZ C m sp dvs E ta qD):=by
 intro pins s σ H Q I h;refine W.methodCall_KW (pl:=pl) (thn (he pins s σ H _ I h) fun u s1 ⟨x,H1,I1,rx,a,dx,fs,ex,ea,l,q⟩=>?_) ht;subst ex;obtain rfl:u=Value.ref a:=rx;refine YE I1 ea c hm l ?_;exact W.callWith_K0 (first:=[.ref a]) I1.kIn hm.kp (jdP (us:=[.ref a]) (vs:=[.ref a]) F hr hb hd hx I1 (.cons rfl .nil) q)
structure Mk (K:W.Frag) (C f:Addr):Prop where
 makes:W.makesIn K C=true
 init:W.findIn K (.ref C) "__init__"=some (some (.ref f))
 fn:W.isFn K (.ref f)=true
 kp:W.keepIn K (.ref C)=true
theorem jcf {σ:St}{H:Hp}{Q:VK}{vs:List V} (M:Mk X.K C f) (F:FnOk X.prog X.w X.K X.mg X.base CX k f fd ps sp) (hr:Room (k+1) X.A) (hb:Binds X.K fd ps ds) (hd:Vals dvs ds)
  (hx:Qn CX X E) (I:Inv X pins σ H s) (r:Vals vs us)
  (h:∀ x dx,H x=none->H dx=none->dx≠x->sp (.ref x::(vs++dvs)) (upd (upd H dx (.own x)) x (.ins C dx [])) (fun v H2=>v=.non/\Q (.ref x) H2) E) :
  wpAny (model X.prog X.w) X.A (call (.ref C) us) (EP X pins σ Q) X.xe s:=by
 have hq:=h (s.heap.objs.size+1) s.heap.objs.size (I.hok.fresh (Nat.le_succ _)) (I.hok.fresh (Xh _)) (XF (Nat.lt_succ_self _));have I2:=Inv.made (C:=C) I;have r2:Vals (V.ref (s.heap.objs.size+1)::(vs++dvs)) (Value.ref (s.heap.objs.size+1)::(us++ds)):=.cons rfl (r.append hd);have hl:(Value.ref (s.heap.objs.size+1)::us++ds).length=ps.length:=by
  have e:=r2.length;rw[F.len _ _ _ _ hq] at e;exact e.symm
 refine wpAny_call (jcc (f:=f) I.kIn M.makes M.init (wD.mp M.fn) (codeAny_mono (F.run _ X.stack _ _ ⟨Value.ref (s.heap.objs.size+1)::us,[]⟩ (Value.ref (s.heap.objs.size+1)::(us++ds)) _ _ E (hr.make C us [])
  (I2.env0.make C us []) (hb _ (Value.ref (s.heap.objs.size+1)::us) I2.kIn hl) r2 hq) fun r s' hq'=>?_))
 cases r with
 | error e=>exact hx pins σ _ _ e s' I2 hq'
 | ok fl=>
  cases fl with
  | ret u=>
   obtain⟨v,H',I3,rv,ev,q3⟩:=I2.after hq';subst ev;exact⟨rv,⟨V.ref (s.heap.objs.size+1),H',I3,rfl,q3⟩⟩
  | next=>exact False.elim hq'
  | brk=>exact False.elim hq'
  | cont=>exact False.elim hq'
theorem jeH (M:Mk X.K C f) (F:FnOk X.prog X.w X.K X.mg X.base CX k f fd ps sp) (hr:Room (k+1) X.A) (hg:Gl X x) (hm:X.mg x=some (.ref C)) (hb:Binds X.K fd ps ds) (hd:Vals dvs ds) (hx:Qn CX X E)
  (ha:PA X (e::es) t) (hdb:(x==("__debug__":Str))=false:=by decide) (he:starEach (e::es) X.env=(false,eval e X.env)::starEach es X.env:=by rfl) (hpl:(backTo pos (starEach es X.env)).any (·.1)=false:=by rfl) :
  PE X (.Call (.Name x p) (e::es) [] pos) (jeF C sp dvs E t):=by
 intro pins s σ H Q I h;refine wpAny_Call_Name_kw (zv I hg hm ?_ hdb);refine W.callWith_K (h₀:=X.base) I.ok.mod.kin M.kp (thn (ha pos pins s σ H _ I h) fun us s1 ⟨vs,H1,I1,r,q⟩=>⟨I1.kIn,?_⟩) he hpl;exact jcf M F hr hb hd hx I1 r q
end
structure FnScope (N P:List Str) (sc:Scope):Prop where
 kind:sc.kind=.function
 co:sc.isCoroutine=false
 gen:sc.isGenerator=false
 nd:N.Nodup
 pre:N.take P.length=P
 par:∀ x∈P,sc.names.lookup x=some .local \/ sc.names.lookup x=some .cell
 nofree:∀ y∈sc.names,y.2≠.free
theorem US:∀ {binds:List (Str×Value)}{m:Str->Option Value},(∀ v,(x,v)∉binds)->bindL kindOf binds m x=m x
 | [],_,_=>rfl
 | (n,v)::r,m,h=>by
  unfold bindL;rw[US fun w hw=>h w (Xj _ hw)];split
  ·have:x≠n:=by rintro rfl; exact h v Xn
   simp[this]
  ·rfl
theorem UT:∀ {binds:List (Str×Value)}{m:Str->Option Value},(∀ v,(x,v)∉binds)->bindC kindOf binds m x=m x
 | [],_,_=>rfl
 | (n,v)::r,m,h=>by
  unfold bindC;rw[UT fun w hw=>h w (Xj _ hw)];split
  ·rfl
  ·have:x≠n:=by rintro rfl; exact h v Xn
   simp[this]
theorem UU {kindOf:Str->Option NameKind}{x:Str}{v:Value}:∀ {P:List Str}{vs:List Value}{i:Nat}{m:Str->Option Value},P.Nodup->P[i]?=some x->vs[i]?=some v->kindOf x=some .local ->
  bindL kindOf (P.zip vs) m x=some v
 | [],_,_,_,_,h,_,_=>by simp at h
 | _::_,[],_,_,_,_,h,_=>by simp at h
 | p::P,w::vs,0,m,nd,h1,h2,hk=>by
  simp at h1 h2; subst h1; subst h2;show bindL kindOf ((p,w)::P.zip vs) m p=_;unfold bindL;rw[US fun v hv=>(XL.mp nd).1 (List.of_mem_zip hv).1,if_pos hk];simp
 | p::P,w::vs,i+1,m,nd,h1,h2,hk=>by
  show bindL kindOf ((p,w)::P.zip vs) m x=_;unfold bindL;exact UU (i:=i) (XL.mp nd).2 (by simpa using h1) (by simpa using h2) hk
theorem UV {kindOf:Str->Option NameKind}{x:Str}{v:Value}:∀ {P:List Str}{vs:List Value}{i:Nat}{m:Str->Option Value},P.Nodup->P[i]?=some x->vs[i]?=some v->kindOf x≠some .local ->
  bindC kindOf (P.zip vs) m x=some v
 | [],_,_,_,_,h,_,_=>by simp at h
 | _::_,[],_,_,_,_,h,_=>by simp at h
 | p::P,w::vs,0,m,nd,h1,h2,hk=>by
  simp at h1 h2; subst h1; subst h2;show bindC kindOf ((p,w)::P.zip vs) m p=_;unfold bindC;rw[UT fun v hv=>(XL.mp nd).1 (List.of_mem_zip hv).1,if_neg hk];simp
 | p::P,w::vs,i+1,m,nd,h1,h2,hk=>by
  show bindC kindOf ((p,w)::P.zip vs) m x=_;unfold bindC;exact UV (i:=i) (XL.mp nd).2 (by simpa using h1) (by simpa using h2) hk
def G3 (N:List Str) (vs:List V):St:=vs.map some++List.replicate (N.length-vs.length) none
def ZC (CX:CXT) (P:Program) (w:World) (K:W.Frag) (mg:Str->Option Value) (base:Heap) (N:List Str) (qual:Str) (scope:Scope) (f:Addr) (cd:Value) (A:Around) (outer:List Env) (s:Shared) (H:Hp) (E:XK):Cx where
 prog:=P
 w:=w
 K:=K
 mg:=mg
 base:=base
 A:=A.deeper (envOfC qual scope s.heap.objs.size f cd)
 N:=N
 s₀:=s
 H₀:=H
 env:=envOfC qual scope s.heap.objs.size f cd
 outer:=outer
 stack:=envOfC qual scope s.heap.objs.size f cd::outer
 ex:=[]
 calm:=true
 fn:=fun _=>true
 pn:=[]
 xe:=fun e s'=>wpAny (model P w) (A.deeper (envOfC qual scope s.heap.objs.size f cd)) (leaving (envOfC qual scope s.heap.objs.size f cd) e) (fun _ s''=>CX outer H s E e s'') (fun e' s''=>CX outer H s E e' s'') s'
theorem WT (h:sc.names.lookup x=some .cell):∃ c,(cellsFrom n sc.names []).lookup x=some c:=by
 have q:=W.cellsFrom_some sc.names n [] (.inl h);exact Option.isSome_iff_exists.mp q
theorem UW {CX:CXT}{P:Program}{f:Addr}{cd:Value}{s1:Shared}{H:Hp}{E:XK}{vs:List V}
  (S:FnScope N ps scope) (hd:A.handled=none) (e0:Env0 P w K mg base A outer s H) (hl:vs.length=ps.length) (r:Vals vs us)
  (x:InCallC s s.heap.objs.size (bindL (envOfC qual scope s.heap.objs.size f cd).kindOf (ps.zip us) fun _=>none) (cellsFrom (s.heap.objs.size+1) scope.names []) (bindC (envOfC qual scope s.heap.objs.size f cd).kindOf (ps.zip us) fun _=>none) s1) :
  Inv (ZC CX P w K mg base N qual scope f cd A outer s H E) [] (G3 N vs) H s1:=by
 have hpl:ps.length<=N.length:=by have:=congrArg List.length S.pre; rw[List.length_take] at this; omega
 obtain⟨h1,tk,rfl,hk⟩:=x.done;have noA:∀ b:Addr,b∉(ZC CX P w K mg base N qual scope f cd A outer s H E).ex:=fun b z=>absurd (show b∈([]:List Addr) from z) (by simp);refine⟨⟨e0.mod,S.kind,rfl,rfl,Xh _,fun y z c h1 h2=>?_,fun y hy=>?_,fun y c _ h=>?_,fun _=>hd,Around.frames_deeper e0.frames,.inr ⟨rfl,rfl⟩,fun b z=>absurd z (noA b),e0.bs,e0.bsz,fun b _ _=>noA b,fun b z=>absurd z (noA b),e0.funs,e0.frf⟩,
  rfl,e0.bare,Un.kept hk,⟨_,x.toInCall.ns,fun i y v h1 h2 h3=>?_⟩,fun y c h=>⟨_,x.cell y c h⟩,e0.hok.fresh (Xh _),fun y c h=>?_,fun p hp=>absurd (show p∈([]:List (Addr×Obj)) from hp) (by simp),e0.hok.kept hk,?_⟩
 ·exact name_of_addr x.apart (wu h1) (wu h2)
 ·have hy:scope.names.lookup y=some .cell \/ scope.names.lookup y=some .free:=hy;rcases hy with hy | hy
  ·exact WT hy
  ·exact absurd rfl (S.nofree _ (wu hy))
 ·exact Nat.le_of_lt (x.above y c (wu h))
 ·have hi:i<vs.length:=by
   unfold G3 at h2;by_cases hi:i<vs.length
   ·exact hi
   ·rw[List.getElem?_append_right (by simpa using hi)] at h2;rw[List.getElem?_replicate] at h2;split at h2 <;> cases h2
  have ha:vs[i]?=some v:=by
   unfold G3 at h2;rw[List.getElem?_append_left (by simpa using hi),Xt] at h2;cases e:vs[i]? with
   | none=>rw[e] at h2; cases h2
   | some a=>rw[e] at h2; cases h2; rfl
  obtain⟨u,hu,rv⟩:=r.get ha;have hp:ps[i]?=some y:=by
   rw[<- S.pre,List.getElem?_take_of_lt (by omega)]; exact h1
  have ndP:ps.Nodup:=by rw[<- S.pre]; exact S.nd.sublist (List.take_sublist _ _)
  refine⟨u,rv,?_⟩;rcases S.par y (XA hp) with k | k
  ·exact .inl ⟨k,UU ndP hp hu k⟩
  ·obtain⟨c,e⟩:=WT (n:=s.heap.objs.size+1) k;refine .inr ⟨.inl k,c,e,?_⟩;have q:=x.cell y c e;rw[UV ndP hp hu (by show scope.names.lookup y≠_; rw[k]; decide)] at q;exact q
 ·exact e0.hok.fresh (Nat.le_of_lt (x.above y c (wu h)))
 ·unfold G3;show _=N.length;rw[XR,Xp,List.length_replicate];omega
theorem jgm {CX:CXT}{P:Program}{k:Nat}{f:Addr}{params:Arguments}{dV kV doc pm ct oc:Value}{od:Option Addr}
  {sp:Sp} (lk:K.lookup f=some ⟨oc,od,.func (W.fnOf name qual params body scope dV kV doc pm an cdv ct),osl⟩) (hcd:W.codeIn K cdv qual=true) (S:FnScope N ps scope)
  (len:∀ vs H Q E,sp vs H Q E->vs.length=ps.length)
  (hbody:∀ (A:Around) (outer:List Env) (s:Shared) (H:Hp) (vs:List V) (Q:VK) (E:XK),Room k (A.deeper (envOfC qual scope s.heap.objs.size f cdv))->sp vs H Q E ->
   ∃ t,PSs (ZC CX P w K mg base N qual scope f cdv A outer s H E) body t/\t { nx:=fun _ H'=>Q .non H',rt:=Q } (G3 N vs) H) :
  FnOk P w K mg base CX (k+1) f (W.fnOf name qual params body scope dV kV doc pm an cdv ct) ps sp:=by
 refine⟨len,fun A outer s H args us vs Q E hr e0 hb r hsp=>?_⟩;have hl:=len _ _ _ _ hsp;have KX:K.In s.heap:=e0.mod.kin.keeps fun b o e=>(e0.bs b o e).1;have lim:s.heap.NoLimit:=e0.mod.nolimit.keeps fun b o e=>(e0.bs b o e).1;have hkind:∀ y∈ps.zip us,scope.names.lookup y.1=some .local \/ (scope.names.lookup y.1=some .cell/\((cellsFrom (s.heap.objs.size+1) scope.names []).lookup y.1).isSome=true):=fun⟨n,v⟩ hy=>by
  rcases S.par n (List.of_mem_zip hy).1 with q | q
  ·exact .inl q
  ·exact .inr ⟨q,W.cellsFrom_some _ _ _ (.inl q)⟩
 refine codeAny_call_function hr.depth (KX _ _ lk) rfl S.co S.gen rfl (W.codeRec_of KX hcd) (hb _ _ _ _ ?_);refine wpAny_newFunctionEnv_cells S.kind hkind fun env he s1 x=>?_;subst he;refine⟨lim.keeps x.toInCall.keep,codeAny_func ?_⟩;obtain⟨t,ht,hq⟩:=hbody A outer s H vs Q E (hr.deeper _) hsp;have I:Inv (ZC CX P w K mg base N qual scope f cdv A outer s H E) [] (G3 N vs) H s1:=UW S hr.hd e0 hl r x;refine XW (ht [] s1 (G3 N vs) H _ I hq) (fun fl s' hs=>?_) fun e s' hs=>hs;have fin:∀ {σ':St}{H':Hp}{v:V}{u:Value},Inv (ZC CX P w K mg base N qual scope f cdv A outer s H E) [] σ' H' s'->RelV v u->Q v H'->CE outer P w H s Q u s':=
  fun {σ' H' v u} J rv q=>⟨v,H',J.os,J.bare,J.base,J.hok,rv,q⟩
 cases fl with
 | ret u=>
  obtain⟨v,σ',H',J,rv,q⟩:=hs;exact fin J rv q
 | next=>
  obtain⟨σ',H',J,q⟩:=hs;exact fin (v:=V.non) (u:=Value.none) J rfl q
 | brk=>
  obtain⟨_,_,_,q⟩:=hs;exact False.elim q
 | cont=>
  obtain⟨_,_,_,q⟩:=hs;exact False.elim q
section
variable {X:Cx}{t:TA}{id T:String}{r:List V->Hp->VK->Prop}
def tCB (r:List V->Hp->VK->Prop) (t:TA):TE:=fun σ H Q=>t σ H fun vs H1=>r vs H1 Q
theorem jH (hc:zw X (.builtin id) r) (hg:Gl X x) (hm:X.mg x=none) (hv:bootBuiltins x=some (.builtin id)) (ha:PA X (e::es) t) (hn:x≠"__name__":=by decide) (hdb:(x==("__debug__":Str))=false:=by decide)
  (he:starEach (e::es) X.env=(false,eval e X.env)::starEach es X.env:=by rfl) (hpl:(backTo pos (starEach es X.env)).any (·.1)=false:=by rfl):PE X (.Call (.Name x p) (e::es) [] pos) (tCB r t):=by
 intro pins s σ H Q I h;refine wpAny_Call_Name_kw (zN I hg hm hv ?_ hn hdb);exact PyProof.Rows.callWith_builtin1 (thn (ha pos pins s σ H _ I h) fun us s1 ⟨vs,H1,I1,r1,q1⟩=>hc pins s1 σ H1 vs us Q I1 r1 q1) he hpl
theorem xr (hc:zw X (.type T) r) (hg:Gl X x) (hm:X.mg x=none) (hv:bootBuiltins x=some (.type T)) (ha:PA X (e::es) t) (hn:x≠"__name__":=by decide) (hdb:(x==("__debug__":Str))=false:=by decide)
  (he:starEach (e::es) X.env=(false,eval e X.env)::starEach es X.env:=by rfl) (hpl:(backTo pos (starEach es X.env)).any (·.1)=false:=by rfl):PE X (.Call (.Name x p) (e::es) [] pos) (tCB r t):=by
 intro pins s σ H Q I h;refine wpAny_Call_Name_kw (zN I hg hm hv ?_ hn hdb);exact wr (thn (ha pos pins s σ H _ I h) fun us s1 ⟨vs,H1,I1,r1,q1⟩=>hc pins s1 σ H1 vs us Q I1 r1 q1) he hpl
end
end L2
variable {σ:L2.St}{xs ys:List L2.V}{H H' H1 F1 Fe He F':L2.Hp}{X:L2.Cx}{ta te tc tv td t1 t2 t3 ty:L2.TE}{y:L2.V}{D:L2.Ends}{wi:L2.TI}{CX:L2.CXT}{sp sp':L2.Sp}{J:L2.It}{tr:L2.TA}{G:L2.Hp->L2.Hp->Prop}{u':L2.TS}{kvs:List (List L2.Key×L2.V)}
namespace HT
open PySem PyProof.Rows
section
theorem cat_tup {t b:Addr}{vs ws:List Value} (ht:IsTup s.heap t vs.toArray) (hb:IsTup s.heap b ws.toArray) (hv:vs≠[])
  (h1:ws=[]->Q (.ref t) s) (h2:ws≠[]->Q (.ref s.heap.objs.size) { s with heap:=s.heap.push { cls:=.type "tuple",data:=.seq (vs++ws).toArray } })
  (hsz:vs.length+ws.length<=sizeLine):wpAny (model prog w) A (binaryOp .Add (.ref t) (.ref b)) Q E s:=by
 obtain⟨⟨cls,dd,data,sl⟩,ho,hc,n,hd⟩:=id ht;obtain⟨⟨cls2,dd2,data2,sl2⟩,ho2,hc2,n2,hd2⟩:=id hb;simp only at hc hd hc2 hd2;subst hc hd hc2 hd2;have e:vs.toArray++ws.toArray=(vs++ws).toArray:=by simp
 by_cases hw:ws=[]
 ·exact concat_meets ⟨_,ho,rfl⟩ ⟨_,ho2,rfl⟩ noFill_tuple_add seq_tuple_add PySem.F.slot_tuple_add PySem.F.entry_tuple_add (PySem.F.args_tuple_add_2 _ _)
   (tuple_addW1 t b vs.toArray ws.toArray n n2 dd dd2 sl sl2 (by simpa using hv) (by simp[hw])) ⟨ho,ho2,h1 hw⟩
 ·refine concat_meets ⟨_,ho,rfl⟩ ⟨_,ho2,rfl⟩ noFill_tuple_add seq_tuple_add PySem.F.slot_tuple_add PySem.F.entry_tuple_add (PySem.F.args_tuple_add_2 _ _)
   (tuple_addW2 t b vs.toArray ws.toArray n n2 dd dd2 sl sl2 (by simpa using hv) (by simpa using hw) (by rw[List.size_toArray,List.size_toArray]; exact hsz)) ⟨ho,ho2,?_⟩
  rw[e];exact h2 hw
def sIx (n d:Nat):Option Int->Nat
 | none=>d
 | some v=>if v<0 then (v+(n:Int)).toNat else min v.toNat n
theorem sIx_none (n d:Nat):sIx n d none=d:=rfl
theorem sIx_nat (n d k:Nat):sIx n d (some (k:Int))=min k n:=by
 show (if (k:Int)<0 then ((k:Int)+(n:Int)).toNat else min (k:Int).toNat n)=min k n;rw[if_neg (by omega),Int.toNat_natCast]
theorem jgn (n d:Nat) (hd:d<=n) (o:Option Int):sIx n d o<=n:=by
 cases o with
 | none=>exact hd
 | some v=>
  show (if v<0 then (v+(n:Int)).toNat else min v.toNat n)<=n;by_cases hv:v<0
  ·rw[if_pos hv]; omega
  ·rw[if_neg hv]; exact Nat.min_le_right _ _
theorem Z0 (v:Int) (n d:Nat):(if v<0 then max (v+(n:Int)) 0 else min v (n:Int))=((sIx n d (some v):Nat):Int):=by
 show (if v<0 then max (v+(n:Int)) 0 else min v (n:Int))=(((if v<0 then (v+(n:Int)).toNat else min v.toNat n):Nat):Int);by_cases hv:v<0
 ·simp only[if_pos hv]; omega
 ·simp only[if_neg hv]; omega
theorem YI (lo hi:Option Int) (n:Nat):Builtin.Slice.sliceAdjust lo hi 1 (n:Int)=(((sIx n 0 lo:Nat):Int),((sIx n n hi:Nat):Int)):=by
 have h1:¬ ((1:Int)<0):=by omega
 unfold Builtin.Slice.sliceAdjust;simp only[h1,if_false];refine Prod.ext ?_ ?_
 ·cases lo with
  | none=>rfl
  | some v=>exact Z0 v n 0
 ·cases hi with
  | none=>rfl
  | some v=>exact Z0 v n n
theorem YJ (i j:Nat):Builtin.Slice.slicePlaces (i:Int) (j:Int) 1=j-i:=by
 unfold Builtin.Slice.slicePlaces;have h1:(1:Int) > 0:=by omega
 simp only[h1,if_true,Int.ediv_one];split <;> omega
theorem Qo {o:Option Int}{Q:Option Int->Shared->Prop} (p:IsPart v o) (h:Q o s):wpAny (model prog w) A (Builtin.Slice.slicePartIndex v) Q E s:=by
 cases p with
 | none=>exact slicePart_none h
 | int i t=>exact slicePart_int h
theorem yF {Q:Int×Int×Nat->Shared->Prop} (hs:s.heap.IsSliceOf sl vl vu .none) (pl:IsPart vl lo) (pu:IsPart vu hi)
  (h:Q (((sIx n 0 lo:Nat):Int),1,sIx n n hi-sIx n 0 lo) s):wpAny (model prog w) A (Builtin.Slice.sliceApplied (.ref sl) (pure (n:Int))) Q E s:=by
 obtain⟨os,hos,hcs,hds⟩:=id hs;unfold Builtin.Slice.sliceApplied Builtin.Slice.sliceFields;refine wpAny_bind (wpAny_bind (wpAny_field hos hds (x:=vl) rfl (wpAny_bind (wpAny_field hos hds (x:=vu) rfl (wpAny_bind (wpAny_field hos hds (x:=.none) rfl (wpAny_pure ?_)))))));refine wpAny_bind (slicePart_none ?_);show wpAny _ _ (if ((1:Int)==0)=true then _ else _) _ _ s;rw[if_neg (by decide)];refine wpAny_bind (Qo pl (wpAny_bind (Qo pu (wpAny_bind (wpAny_pure ?_)))));show wpAny _ _ (match Builtin.Slice.sliceAdjust lo hi 1 (n:Int) with | (lo,hi)=>pure (lo,(1:Int),Builtin.Slice.slicePlaces lo hi 1)) _ _ s
 rw[YI lo hi n];show wpAny _ _ (pure (((sIx n 0 lo:Nat):Int),(1:Int),Builtin.Slice.slicePlaces ((sIx n 0 lo:Nat):Int) ((sIx n n hi:Nat):Int) 1)) _ _ s;rw[YJ];exact wpAny_pure h
theorem jcg (xs:Array Value) (i k:Nat):((List.range k).filterMap fun (m:Nat)=>xs[((i:Int)+(m:Int) * 1).toNat]?).toArray=((xs.toList.drop i).take k).toArray:=by
 have e:(fun (m:Nat)=>xs[((i:Int)+(m:Int) * 1).toNat]?)=fun m=>xs[i+m]?:=by
  funext m
  have:((i:Int)+(m:Int) * 1).toNat=i+m:=by omega
  rw[this]
 rw[e];have:=pick_run xs i k;rw[List.filterMap_map] at this;have e2:((fun x=>xs[x]?) ∘ fun x=>i+x)=fun m=>xs[i+m]?:=rfl;rw[e2] at this;rw[this]
theorem getItem_tuple_cut {t:Addr} (ht:IsTup s.heap t items) (hs:s.heap.IsSliceOf sl vl vu .none) (pl:IsPart vl lo) (pu:IsPart vu hi)
  (hw:¬ (sIx items.size 0 lo=0/\sIx items.size items.size hi=items.size))
  (h:Q (.ref s.heap.objs.size) { s with heap:=s.heap.push { cls:=.type "tuple",data:=.seq ((items.toList.drop (sIx items.size 0 lo)).take (sIx items.size items.size hi-sIx items.size 0 lo)).toArray } })
  (hsz:items.size<=sizeLine):wpAny (model prog w) A (getItem (.ref t) (.ref sl)) Q E s:=by
 have htake:sizeOk (.seq ((items.toList.drop (sIx items.size 0 lo)).take (sIx items.size items.size hi-sIx items.size 0 lo)).toArray):=by
  show ((items.toList.drop (sIx items.size 0 lo)).take (sIx items.size items.size hi-sIx items.size 0 lo)).toArray.size<=sizeLine;rw[List.size_toArray,List.length_take,List.length_drop,Array.length_toList];omega
 have hj:sIx items.size items.size hi<=items.size:=jgn _ _ (Nat.le_refl _) hi;obtain⟨os,hos,hcs,hds⟩:=id hs;have hTs:s.TypeIs (.ref sl) "slice":=⟨os,hos,hcs⟩;unfold getItem
 try with_reducible refine wpAny_holding ?_
 first | refine wpAny_bind (wpAny_pure ?_) | skip
 refine wpAny_bind (wpAny_sequenceKey ht.typeIs (by decide) ?_);refine wpAny_bind (wpAny_callSpecial?_slot (name:=Str.ofString "__getitem__") ht.typeIs PyProof.Rows.slot_tuple_getitem
  (wpAny_call_entry PyProof.Rows.slot_tuple_getitem ht.typeIs entry_tuple_getitem ?_ (args_tuple_getitem _ _)))
 show wpAny _ _ (Builtin.Tuple.tupleItemsOf (.ref t) >>= _) _ _ s;refine wpAny_bind (tupleItemsOf_ ht ?_);refine wpAny_bind (wpAny_typeOf hTs ?_);rw[if_pos (by decide)];refine wpAny_bind (yF hs pl pu ?_);have hno:¬ ((((sIx items.size 0 lo:Nat):Int)==0&&(1:Int)==1&&(sIx items.size items.size hi-sIx items.size 0 lo)==items.size)=true):=by
  intro q;rw[Bool.and_eq_true,Bool.and_eq_true] at q;have q1:((sIx items.size 0 lo:Nat):Int)=0:=eq_of_beq q.1.1;have q2:sIx items.size items.size hi-sIx items.size 0 lo=items.size:=eq_of_beq q.2;exact hw ⟨by omega,by omega⟩
 show wpAny _ _ (if (((sIx items.size 0 lo:Nat):Int)==0&&(1:Int)==1&&(sIx items.size items.size hi-sIx items.size 0 lo)==items.size)=true then _ else _) _ _ s;rw[if_neg hno,jcg]
 first
  | exact wpAny_bind (m:=Builtin.Tuple.tupleExact _) (wpAny_newObj_type (wpAny_pure ⟨_,rfl,wpAny_pure h⟩) htake)
  | exact wpAny_bind (m:=Builtin.Tuple.tupleExact _) (wpAny_newObj_type (wpAny_bind (wpAny_pure (wpAny_pure ⟨_,rfl,wpAny_pure h⟩))) htake)
  | exact wpAny_bind (wpAny_bind (m:=Builtin.Tuple.tupleExact _) (wpAny_newObj_type (wpAny_pure (wpAny_pure ⟨_,rfl,wpAny_pure h⟩)) htake))
  | exact wpAny_bind (wpAny_bind (m:=Builtin.Tuple.tupleExact _) (wpAny_newObj_type (wpAny_pure ⟨_,rfl,wpAny_pure h⟩) htake))
end
end HT
namespace L2
open PySem PySem.Spec PyProof.Rows
abbrev TO:=St->Hp->(Option Int->Hp->Prop)->Prop
def PO (X:Cx) (e:Option Expr) (t:TO):Prop:=
 ∀ (pins:List (Addr×Obj)) (s:Shared) (σ:St) (H:Hp) (Q:Option Int->Hp->Prop),Inv X pins σ H s->t σ H Q ->
  wpAny (model X.prog X.w) X.A (evalPart e X.env) (fun u s'=>∃ o H',Inv X pins σ H' s'/\IsPart u o/\Q o H') X.xe s
def Z1:TO:=fun _ H Q=>Q none H
def jch (t:TE):TO:=fun σ H Q=>t σ H fun x H1=>∃ i,x=.int i/\Q (some i) H1
theorem Qp {ns:List Int}:∀ {us:List Value},Vals (ns.map V.int) us->IntsAre us ns:=by
 induction ns with
 | nil=>intro us r; rw[List.map_nil] at r; cases r; exact .nil
 | cons n ns ih=>
  intro us r;rw[Xl] at r;cases r with
  | cons r1 r2=>
   obtain⟨t,e⟩:=r1;subst e;exact .cons n t (ih r2)
section
variable {lo hi:Option Expr}{tl th:TO}{p2:Pos}
theorem x5:PO X none Z1:=by
 intro pins s σ H Q I h;rw[evalPart_none];exact Xd ⟨none,H,I,.none,h⟩
theorem x6 (h:PE X e te):PO X (some e) (jch te):=by
 intro pins s σ H Q I hw;rw[evalPart_some];refine thn (h pins s σ H _ I hw) fun u s1 ⟨x,H1,I1,r1,q1⟩=>?_;obtain⟨i,rfl,q⟩:=q1;obtain⟨t,rfl⟩:=r1;exact⟨some i,H1,I1,.int i t,q⟩
def SlR (X:Cx) (r:V->Option Int->Option Int->Hp->VK->Prop):Prop:=
 ∀ (pins:List (Addr×Obj)) (s:Shared) (σ:St) (H:Hp) (x:V) (v vl vu:Value) (lo hi:Option Int) (sl:Addr) (Q:VK),Inv X pins σ H s->RelV x v->s.heap.IsSliceOf sl vl vu .none->IsPart vl lo->IsPart vu hi->r x lo hi H Q ->
  ∃ T id,typeLookup (.type T) "__getitem__"=pure (some (.builtin id))/\s.TypeIs v T/\wpAny (model X.prog X.w) X.A (getItem v (.ref sl)) (EP X pins σ Q) X.xe s
def tSl (r:V->Option Int->Option Int->Hp->VK->Prop) (te:TE) (tl th:TO):TE:=fun σ H Q=>te σ H fun x H1=>tl σ H1 fun l H2=>th σ H2 fun u H3=>r x l u H3 Q
theorem xl {r:V->Option Int->Option Int->Hp->VK->Prop} (hr:SlR X r) (he:PE X e te) (hl:PO X lo tl) (hu:PO X hi th):PE X (.Subscript e (.Slice lo hi none p2) pos) (tSl r te tl th):=by
 intro pins s σ H Q I h;refine Subscript_ (thn (he pins s σ H _ I h) fun v s1 ⟨x,H1,I1,r1,q1⟩=>?_);refine wpAny_Slice (thn (hl pins s1 σ H1 _ I1 q1) fun vl s2 ⟨l,H2,I2,pl,q2⟩=>thn (hu pins s2 σ H2 _ I2 q2) fun vu s3 ⟨u,H3,I3,pu,q3⟩=>?_);rw[evalPart_none];refine Xd ?_;have I4:Inv X pins σ H3 { s3 with heap:=s3.heap.push { cls:=.type "slice",data:=.fields #[vl,vu,.none] } }:=I3.kept (t':=s3.toks) fun b ob q=>Xb _ q
 obtain⟨T,id,hT,ht,hg⟩:=hr pins { s3 with heap:=s3.heap.push { cls:=.type "slice",data:=.fields #[vl,vu,.none] } } σ H3 x v vl vu l u s3.heap.objs.size Q I4 r1 (Heap.IsSliceOf.new ..) pl pu q3
 show wpAny (model X.prog X.w) X.A (subscriptTail e (.Slice lo hi none p2) v (.ref s3.heap.objs.size)) (EP X pins σ Q) X.xe { s3 with heap:=s3.heap.push { cls:=.type "slice",data:=.fields #[vl,vu,.none] } }
 exact tail_any (ops:=[.ref s3.heap.objs.size,v]) ht hT hg (by with_unfolding_all rfl)
def jci (xs:List V) (lo hi:Option Int):List V:=(xs.drop (HT.sIx xs.length 0 lo)).take (HT.sIx xs.length xs.length hi-HT.sIx xs.length 0 lo)
theorem G4 (xs:List V) (lo hi:Option Int):(jci xs lo hi).length<=xs.length:=by
 unfold jci;rw[List.length_take,List.length_drop];omega
def ji1 (K:W.Frag):V->Option Int->Option Int->Hp->VK->Prop:=fun x lo hi H Q=>∃ a xs,x=.ref a/\SqT K H a xs /\
 ¬ (HT.sIx xs.length 0 lo=0/\HT.sIx xs.length xs.length hi=xs.length)/\∀ p,H p=none->Q (.ref p) (upd H p (.tup (jci xs lo hi)))
theorem jgo:SlR X (ji1 X.K):=by
 intro pins s σ H x v vl vu lo hi sl Q I rx hs pl pu h;obtain⟨a,xs,rfl,hx,hw,q⟩:=h;cases rx;obtain⟨its,r,ht,hz⟩:=I.tuple hx;have hlen:its.toArray.size=xs.length:=by rw[Xs]; exact r.length.symm
 refine⟨"tuple",_,PyProof.Rows.slot_tuple_getitem.lookup,ht.typeIs,?_⟩;refine HT.getItem_tuple_cut ht hs pl pu (by rw[hlen]; exact hw) ?_ (by rw[hlen]; exact hz);rw[hlen];refine⟨.ref s.heap.objs.size,_,I.laid (t':=s.toks) (o:=.tup (jci xs lo hi)) (fun b ob q=>Xb _ q) (Xh _) ?_,rfl,q _ (I.hok.fresh (Xh _))⟩;exact⟨XI (G4 xs lo hi) hz,_,(r.drop (HT.sIx xs.length 0 lo)).take (HT.sIx xs.length xs.length hi-HT.sIx xs.length 0 lo),TupO.new _ _⟩
def jic (K:W.Frag):R2:=fun x y H Q=>∃ a b xs ys,x=.ref a/\y=.ref b/\SqT K H a xs/\SqT K H b ys/\xs≠[]/\xs.length+ys.length<=sizeLine /\
 (ys=[]->Q (.ref a) H)/\(ys≠[]->∀ p,H p=none->Q (.ref p) (upd H p (.tup (xs++ys))))
theorem Vals.nil_iff (r:Vals xs us):us=[] ↔ xs=[]:=by
 cases r with
 | nil=>simp
 | cons _ _=>simp
theorem jeI:OpR X (binaryOp .Add) (jic X.K):=by
 intro pins s σ H x y v u Q I rx ry h;obtain⟨a,b,xs,ys,rfl,rfl,ha,hb,hx,hz,q1,q2⟩:=h;cases rx;cases ry;obtain⟨its,r1,p1,_⟩:=I.tuple ha;obtain⟨its2,r2,p2,_⟩:=I.tuple hb;refine HT.cat_tup p1 p2 (fun z=>hx (r1.nil_iff.mp z)) (fun z=>⟨.ref a,H,I,rfl,q1 (r2.nil_iff.mp z)⟩) (fun z=>?_) (by rw[<- r1.length,<- r2.length]; exact hz);refine⟨.ref s.heap.objs.size,_,I.laid (t':=s.toks) (o:=.tup (xs++ys)) (fun b ob q=>Xb _ q) (Xh _) ?_,rfl,q2 (fun w=>z (r2.nil_iff.mpr w)) _ (I.hok.fresh (Xh _))⟩;exact⟨by rw[XR]; exact hz,_,r1.append r2,TupO.new _ _⟩
end
def ixN (n:Nat) (i:Int):Option Nat:=if 0<=i then (if i<n then some i.toNat else none) else if -(n:Int)<=i then some (i+n).toNat else none
def atI (xs:List α) (i:Int):Option α:=(ixN xs.length i).bind fun j=>xs[j]?
theorem jeJ {i:Int} (h:ixN n i=some j):seqIndex? i n=some j/\j<n/\-(n:Int)<=i/\i<n:=by
 unfold ixN at h;by_cases h0:0<=i
 ·rw[if_pos h0] at h;by_cases h1:i<n
  ·rw[if_pos h1] at h;have e:i.toNat=j:=Option.some.inj h;exact⟨by rw[seqIndex_of h0 h1,e],by omega,by omega,h1⟩
  ·rw[if_neg h1] at h; cases h
 ·rw[if_neg h0] at h;by_cases h1:-(n:Int)<=i
  ·rw[if_pos h1] at h;have e:(i+n).toNat=j:=Option.some.inj h;exact⟨by rw[seqIndex_neg (by omega) h1,e],by omega,h1,by omega⟩
  ·rw[if_neg h1] at h; cases h
theorem Z2 {xs:List α}{i:Int}{v:α} (h:atI xs i=some v):∃ j,seqIndex? i xs.length=some j/\xs[j]?=some v/\j<xs.length/\-(xs.length:Int)<=i/\i<xs.length:=by
 unfold atI at h;cases e:ixN xs.length i with
 | none=>rw[e] at h; cases h
 | some j=>
  rw[e] at h;obtain⟨h1,h2,h3,h4⟩:=jeJ e;exact⟨j,h1,h,h2,h3,h4⟩
theorem jeK {xs:List α}{v:α} (h:xs[j]?=some v):atI xs (j:Int)=some v:=by
 have hj:j<xs.length:=(List.getElem?_eq_some_iff.mp h).1;have e:ixN xs.length (j:Int)=some j:=by
  unfold ixN;rw[if_pos (by omega),if_pos (by omega)]; simp
 unfold atI; rw[e]; exact h
def jeL (b:Expr):Prop:=∀ o i,subscripted b false o i=operate [o,i] (getItem o i)
def IxR (X:Cx) (r:R2):Prop:=
 ∀ (value slice:Expr) (pins:List (Addr×Obj)) (s:Shared) (σ:St) (H:Hp) (x y:V) (v u:Value) (Q:VK),Inv X pins σ H s->RelV x v->RelV y u->r x y H Q ->
  subscripted slice false v u=operate [v,u] (getItem v u)->wpAny (model X.prog X.w) X.A (subscriptTail value slice v u) (EP X pins σ Q) X.xe s
def MtR (X:Cx) (id:String) (r:V->List V->Hp->VK->Prop):Prop:=
 ∀ (pins:List (Addr×Obj)) (s:Shared) (σ:St) (H:Hp) (x:V) (xs:List V) (v:Value) (us:List Value) (Q:VK),Inv X pins σ H s->RelV x v->Vals xs us->r x xs H Q ->
  wpAny (model X.prog X.w) X.A (call (.builtin id) (v::us)) (EP X pins σ Q) X.xe s
section
variable {a b:Expr}{tb:TE} 
theorem xt {r:R2} (hr:IxR X r) (ha:PE X a ta) (hb:PE X b tb) (hs:jeL b):PE X (.Subscript a b pos) (tOp r ta tb):=by
 intro pins s σ H Q I h;exact Subscript_ (jh7 ha hb I h fun v u s2 x y H2 I2 rx ry q=>hr a b pins s2 σ H2 x y v u Q I2 rx ry q (hs _ _))
def jgp (K:W.Frag):R2:=fun x y H Q=>∃ p xs i v,x=.ref p/\y=.int i/\SqL K H p xs/\atI xs i=some v/\Q v H
def jiO (K:W.Frag):R2:=fun x y H Q=>∃ p xs i v,x=.ref p/\y=.int i/\SqT K H p xs/\atI xs i=some v/\Q v H
theorem qy:IxR X (jgp X.K):=by
 intro value slice pins s σ H x y v u Q I rx ry h hs;obtain⟨p,xs,i,z,rfl,rfl,hq,he,q⟩:=h;cases rx;obtain⟨t,rfl⟩:=ry;obtain⟨its,r,pl,hz⟩:=I.list hq;obtain⟨j,h1,h2,h3,h4,h5⟩:=Z2 he;obtain⟨w,ew,rw'⟩:=r.get h2;have hl:=r.length;have hn:=ZV;have fin:EP X pins σ Q w s:=⟨z,H,I,rw',q⟩;by_cases h0:0<=i
 ·have hj:i.toNat=j:=by
   rw[seqIndex_of h0 h5] at h1;exact Option.some.inj h1
  exact item_listR pl.isList h0 (by omega) (by rw[hj]; simpa using ew) fin hs
 ·have hj:(i+(its.toArray.size:Int)).toNat=j:=by
   rw[seqIndex_neg (by omega) h4] at h1;rw[Xs,<- hl];exact Option.some.inj h1
  exact subscriptTail_builtinR (x:=w) pl.isList.typeIs slot_list_getitem.lookup
   (wpAny_getItem_list_neg (Q:=fun r s'=>r=w/\EP X pins σ Q r s') pl.isList (by omega) (by rw[Xs] <;> omega) (by omega) (by rw[hj]; simpa using ew) ⟨rfl,fin⟩) hs
theorem GD:IxR X (jiO X.K):=by
 intro value slice pins s σ H x y v u Q I rx ry h hs;obtain⟨p,xs,i,z,rfl,rfl,hq,he,q⟩:=h;cases rx;obtain⟨t,rfl⟩:=ry;obtain⟨its,r,pl,hz⟩:=I.tuple hq;obtain⟨j,h1,h2,h3,h4,h5⟩:=Z2 he;obtain⟨w,ew,rw'⟩:=r.get h2;have hl:=r.length;have hn:=ZV;have fin:EP X pins σ Q w s:=⟨z,H,I,rw',q⟩;exact subscriptTail_builtinR (x:=w) pl.typeIs slot_tuple_getitem.lookup
  (getItem_tuple (j:=j) (Q:=fun r s'=>r=w/\EP X pins σ Q r s') pl (by omega) (by omega) (by rw[Xs,<- hl]; exact h1) (by simpa using ew) ⟨rfl,fin⟩) hs
theorem Inv.lst {p:Addr} (I:Inv X pins σ H s) (h:H p=some (.lst xs)) :
  ∃ (its:List Value) (n:Nat),Vals xs its/\s.heap.get? p=some { cls:=.type "list",data:=.seq its.toArray n }/\xs.length<=sizeLine:=by
 obtain⟨z,its,n,r,e⟩:=I.hok p _ h;exact⟨its,n,r,e,z⟩
theorem UX (lo hi:Option Int) (n:Nat):(sliceBounds lo hi none n).1=((HT.sIx n 0 lo:Nat):Int)/\(sliceBounds lo hi none n).2.1=((HT.sIx n n hi:Nat):Int)/\(sliceBounds lo hi none n).2.2=1:=by
 refine⟨?_,?_,rfl⟩
 ·cases lo with
  | none=>simp[sliceBounds,HT.sIx]
  | some i=>
   simp only[sliceBounds,HT.sIx,Option.getD_none,show (1:Int) > 0 by decide,if_true];by_cases h:i<0
   ·simp only[h,if_true] <;> omega
   ·simp only[h,if_false] <;> omega
 ·cases hi with
  | none=>simp[sliceBounds,HT.sIx]
  | some i=>
   simp only[sliceBounds,HT.sIx,Option.getD_none,show (1:Int) > 0 by decide,if_true];by_cases h:i<0
   ·simp only[h,if_true] <;> omega
   ·simp only[h,if_false] <;> omega
theorem QU (its:List Value) (lo hi:Option Int):slicePick its.toArray lo hi none=((its.drop (HT.sIx its.length 0 lo)).take (HT.sIx its.length its.length hi-HT.sIx its.length 0 lo)).toArray:=by
 obtain⟨h1,h2,h3⟩:=UX lo hi its.toArray.size;unfold slicePick;rw[h1,h2,h3];simp only[sliceRange_one,pick_run,Xs] <;> rfl
def jhV (K:W.Frag):V->Option Int->Option Int->Hp->VK->Prop:=fun x lo hi H Q=>∃ a xs,x=.ref a/\SqL K H a xs/\∀ p,H p=none->Q (.ref p) (upd H p (.lst (jci xs lo hi)))
theorem jeM:SlR X (jhV X.K):=by
 intro pins s σ H x v vl vu lo hi sl Q I rx hs pl pu h;obtain⟨a,xs,rfl,hx,q⟩:=h;cases rx;obtain⟨its,r,ht,hz⟩:=I.list hx;have hlen:=r.length;refine⟨"list",_,slot_list_getitem.lookup,ht.isList.typeIs,?_⟩;refine wpAny_getItem_list_slice ht.isList hs pl pu .none (by simp) ?_ (by rw[Xs] <;> omega);rw[QU,<- hlen];refine⟨.ref s.heap.objs.size,_,I.laid (t':=s.toks) (o:=.lst (jci xs lo hi)) (fun b ob q=>Xb _ q) (Xh _) ?_,rfl,q _ (I.hok.fresh (Xh _))⟩;exact⟨XI (G4 xs lo hi) hz,_,0,(r.drop (HT.sIx xs.length 0 lo)).take (HT.sIx xs.length xs.length hi-HT.sIx xs.length 0 lo),Xo _ rfl⟩
def UY:V->Bool
 | .non=>true
 | .bl _=>true
 | .int _=>true
 | .str _=>true
 | _=>false
def eqV:V->V->Bool
 | .non,.non=>true
 | .bl a,.bl b=>a==b
 | .bl a,.int b=>(if a then 1 else 0)==b
 | .int a,.bl b=>a==(if b then 1 else 0)
 | .int a,.int b=>a==b
 | .str a,.str b=>a==b
 | _,_=>false
theorem jgq {x:V} (ry:RelV y u) (rx:RelV x v) (fy:UY y=true) (fx:UY x=true):SeqAt.EqAt A s u v (eqV y x):=by
 cases y with
 | non=>
  cases ry;cases x with
  | non=>cases rx; exact SeqAt.EqAt.same _
  | bl b=>cases rx; exact SeqAt.EqAt.none_bool b
  | int b=>obtain⟨t,rfl⟩:=rx; exact SeqAt.EqAt.none_int b t
  | str b=>obtain⟨t,rfl⟩:=rx; exact SeqAt.EqAt.none_str b t
  | _=>exact absurd (show false=true from fx) Xy
 | bl a=>
  cases ry;cases x with
  | non=>cases rx; exact SeqAt.EqAt.bool_none a
  | bl b=>cases rx; exact SeqAt.EqAt.bool_bool a b
  | int b=>obtain⟨t,rfl⟩:=rx; exact SeqAt.EqAt.bool_int a b t
  | str b=>obtain⟨t,rfl⟩:=rx; exact SeqAt.EqAt.bool_str a b t
  | _=>exact absurd (show false=true from fx) Xy
 | int a=>
  obtain⟨t',rfl⟩:=ry;cases x with
  | non=>cases rx; exact SeqAt.EqAt.int_none a t'
  | bl b=>cases rx; exact SeqAt.EqAt.int_bool a t' b
  | int b=>obtain⟨t,rfl⟩:=rx; exact SeqAt.EqAt.int_int a t' b t
  | str b=>obtain⟨t,rfl⟩:=rx; exact SeqAt.EqAt.int_str a t' b t
  | _=>exact absurd (show false=true from fx) Xy
 | str a=>
  obtain⟨t',rfl⟩:=ry;cases x with
  | non=>cases rx; exact SeqAt.EqAt.str_none a t'
  | bl b=>cases rx; exact SeqAt.EqAt.str_bool a t' b
  | int b=>obtain⟨t,rfl⟩:=rx; exact SeqAt.EqAt.str_int a t' b t
  | str b=>obtain⟨t,rfl⟩:=rx; exact SeqAt.EqAt.str_str a t' b t
  | _=>exact absurd (show false=true from fx) Xy
 | _=>exact absurd (show false=true from fy) Xy
theorem jO:zw X (.builtin "len") (fun xs H Q=>∃ p ys,xs=[.ref p]/\(SqL X.K H p ys \/ SqT X.K H p ys)/\Q (.int ys.length) H):=by
 intro pins s σ H xs us Q I r h;obtain⟨p,ys,rfl,hq,q⟩:=h;obtain⟨u,rfl,rx⟩:=YC r;cases rx;have hn:=ZV;rcases hq with hq | hq
 ·obtain⟨its,r',pl,hz⟩:=I.list hq;have hlen:=r'.length;exact Calls.call_len_list pl.isList (by simp only[Xs] <;> omega) ⟨.int ys.length,H,I.tok _,⟨s.toks+1,by rw[Xs,hlen]⟩,q⟩
 ·obtain⟨its,r',pl,hz⟩:=I.tuple hq;have hlen:=r'.length;exact len_tuple pl (by simp only[Xs] <;> omega) ⟨.int ys.length,H,I.tok _,⟨s.toks+1,by rw[Xs,hlen]⟩,q⟩
theorem UZ:zw X (.type "list") (fun xs H Q=>∃ p ys,xs=[.ref p]/\(SqL X.K H p ys \/ SqT X.K H p ys)/\∀ l,H l=none->Q (.ref l) (upd H l (.lst ys))):=by
 intro pins s σ H xs us Q I r h;obtain⟨p,ys,rfl,hq,q⟩:=h;obtain⟨u,rfl,rx⟩:=YC r;cases rx;have fin:∀ (its:List Value),Vals ys its->ys.length<=sizeLine->∀ (h':Heap) (c':Nat),(∀ b o',s.heap.get? b=some o'->h'.get? b=some o') ->
   h'.get? s.heap.objs.size=some { cls:=.type "list",dict:=none,data:=.seq its.toArray c',slots:=#[] }->EP X pins σ Q (.ref s.heap.objs.size) { s with heap:=h' }:=fun its r' hz h' c' kp e=>
  ⟨.ref s.heap.objs.size,_,I.laid (t':=s.toks) kp (Xh _) (show ObjOk X.prog X.w _ h' _ (.lst ys) from ⟨hz,its,c',r',e⟩),rfl,q _ (I.hok.fresh (Xh _))⟩
 rcases hq with hq | hq
 ·obtain⟨its,r',pl,hz⟩:=I.list hq;have hlen:=r'.length;obtain⟨o,ho,hc,n,hd⟩:=pl.isList;exact call_list_seq p (.inl rfl) ho hc hd (fun h' c' kp e=>fin its r' hz h' c' kp e) (by simp only[Xs] <;> omega)
 ·obtain⟨its,r',pl,hz⟩:=I.tuple hq;have hlen:=r'.length;obtain⟨o,ho,hc,n,hd⟩:=pl;exact call_list_seq p (.inr rfl) ho hc hd (fun h' c' kp e=>fin its r' hz h' c' kp e) (by simp only[Xs] <;> omega)
theorem xD:zw X (.type "tuple") (fun xs H Q=>∃ p ys,xs=[.ref p]/\((SqL X.K H p ys/\∀ l,H l=none->Q (.ref l) (upd H l (.tup ys))) \/ (SqT X.K H p ys/\Q (.ref p) H))):=by
 intro pins s σ H xs us Q I r h;obtain⟨p,ys,rfl,h⟩:=h;obtain⟨u,rfl,rx⟩:=YC r;cases rx;rcases h with⟨hq,q⟩ | ⟨hq,q⟩
 ·obtain⟨its,r',pl,hz⟩:=I.list hq;have hlen:=r'.length;refine call_tuple_list pl.isList (fun h' kp=>?_) (by simp only[Xs] <;> omega);have I1:Inv X pins σ H { s with heap:=h' }:=I.kept (t':=s.toks) kp
  have I2:Inv X pins σ (upd H h'.objs.size (.tup ys)) { s with heap:=h'.push { cls:=.type "tuple",data:=.seq its.toArray } }:=
   I1.laid (t':=s.toks) (fun b o e=>Xb _ e) (Xh _) (show ObjOk X.prog X.w _ _ _ (.tup ys) from ⟨hz,its,r',TupO.new _ _⟩)
  exact⟨.ref h'.objs.size,_,I2,rfl,q _ (I1.hok.fresh (Xh _))⟩
 ·obtain⟨its,r',pl,hz⟩:=I.tuple hq;exact call_tuple_same pl ⟨.ref p,H,I,rfl,q⟩
def tyV (K:W.Frag) (T:String) (x:V) (H:Hp):Prop:=match x with
 | .str _=>T="str"
 | .int _=>T="int"
 | .ref p=>(T="list"/\∃ xs,SqL K H p xs) \/ (T="tuple"/\∃ o,K.lookup p=some o/\o.cls=.type "tuple"/\o.dict=none) \/
   (T="dict"/\((∃ kvs,H p=some (.dK kvs)) \/ ∃ kvs,H p=some (.dT kvs))) \/ (T="set"/\∃ S n,H p=some (.set S n))
 | _=>False
theorem jdQ {T:String}{x:V} (I:Inv X pins σ H s) (r:RelV x v) (ty:tyV X.K T x H) :
  s.TypeIs v T/\∀ a,v=.ref a->∃ ob,s.heap.get? a=some ob/\ob.dict=none:=by
 cases x with
 | str z=>
  obtain⟨t,rfl⟩:=r;cases (show T="str" from ty);exact⟨typeIs_str s z t,fun _ e=>nomatch e⟩
 | int i=>
  obtain⟨t,rfl⟩:=r;cases (show T="int" from ty);exact⟨typeIs_int s i t,fun _ e=>nomatch e⟩
 | ref p=>
  cases r;rcases ty with⟨rfl,xs,hq⟩ | ⟨rfl,o,hk,hc,hd⟩ | ⟨rfl,hk⟩ | ⟨rfl,S,n,hk⟩
  ·obtain⟨its,_,pl,_⟩:=I.list hq;refine⟨pl.isList.typeIs,fun a e=>?_⟩;cases e;obtain⟨o,n,e,c,hd,_⟩:=pl;exact⟨o,e,hd⟩
  ·refine⟨⟨o,I.kIn p o hk,hc⟩,fun a e=>?_⟩;cases e;exact⟨o,I.kIn _ o hk,hd⟩
  ·have z:∃ o,s.heap.get? p=some o/\o.ExactDict:=by
    rcases hk with⟨kvs,hk⟩ | ⟨kvs,hk⟩
    ·obtain⟨_,_,_,_,o,_,_,e,ex,_⟩:=I.hok p _ hk;exact⟨o,e,ex⟩
    ·obtain⟨_,_,_,_,o,_,_,e,ex,_⟩:=I.hok p _ hk;exact⟨o,e,ex⟩
   obtain⟨o,e,ex⟩:=z;refine⟨⟨o,e,ex.1⟩,fun a e2=>?_⟩;cases e2;exact⟨o,e,ex.2.1⟩
  ·obtain⟨o,_,_,_,e,ex,_⟩:=I.hok p _ hk;refine⟨⟨o,e,ex.1⟩,fun a e2=>?_⟩;cases e2;exact⟨o,e,ex.2.1⟩
 | _=>exact False.elim ty
def jhW (K:W.Frag) (T:String) (r:V->List V->Hp->VK->Prop) (to:TE):TE:=fun σ H Q=>to σ H fun x H1=>tyV K T x H1/\r x [] H1 Q
def tBM (K:W.Frag) (T:String) (r:V->List V->Hp->VK->Prop) (to:TE) (t:TA):TE:=fun σ H Q=>to σ H fun x H1=>tyV K T x H1/\t σ H1 fun xs H2=>r x xs H2 Q
variable {o:Expr}{to:TE}{t:TA}{T id:String}{r:V->List V->Hp->VK->Prop}
theorem jgr (pa:PlainAttrs T) (slot:Slot T name id) (hty:typeOf (.builtin id)=pure (.type "method_descriptor")) (hm:MtR X id r) (ho:PE X o to)
  (hbase:attributeBase o name X.env (eval o X.env)=eval o X.env:=by rfl) (hline:(apos.endLine==cpos.line)=true:=by rfl):PE X (.Call (.Attribute o name apos) [] [] cpos) (jhW X.K T r to):=by
 intro pins s σ H Q I h;refine wpAny_Call_method0_late hbase hline (thn (ho pins s σ H _ I h) fun v s1 ⟨x,H1,I1,r1,ty,q1⟩=>?_);obtain⟨h1,h2⟩:=jdQ I1 r1 ty;exact⟨T,id,pa,slot,hty,h1,h2,Calls.callWith_builtin rfl (PySem.evalArgs_none (hm pins s1 σ H1 x [] v [] Q I1 r1 .nil q1))⟩
theorem JX (pa:PlainAttrs T) (slot:Slot T name id) (hty:typeOf (.builtin id)=pure (.type "method_descriptor")) (hm:MtR X id r) (ho:PE X o to) (ha:PA X (e::es) t)
  (hbase:attributeBase o name X.env (eval o X.env)=eval o X.env:=by rfl)
  (hfew:((backTo cpos (starEach (e::es) X.env)).all (fun x=>!x.1)&&(backToKw cpos (keywordEach [] X.env)).all (fun x=>x.1.isSome)
  &&decide ((e::es).length+([]:List Keyword).length+(if ([]:List Keyword).isEmpty then 0 else 1)<30))=true:=by rfl)
  (hline:(apos.endLine==cpos.line)=true:=by rfl) (hs:starEach (e::es) X.env=(false,eval e X.env)::starEach es X.env:=by rfl) (hplain:(backTo cpos (starEach es X.env)).any (·.1)=false:=by rfl) :
  PE X (.Call (.Attribute o name apos) (e::es) [] cpos) (tBM X.K T r to t):=by
 intro pins s σ H Q I h;refine wpAny_Call_method_late hbase hfew hline rfl (thn (ho pins s σ H _ I h) fun v s1 ⟨x,H1,I1,r1,ty,q1⟩=>?_);obtain⟨h1,h2⟩:=jdQ I1 r1 ty;refine⟨T,id,pa,slot,hty,h1,h2,?_⟩;have hA:=ha cpos pins s1 σ H1 _ I1 q1;rw[hs] at hA ⊢;refine Calls.callWith_builtin (by show (false||(backTo cpos (starEach es X.env)).any (·.1))=false; rw[hplain] <;> rfl) (Calls.evalArgs_plain ?_)
 exact thn hA fun us s2 ⟨vs,H2,I2,r2,q2⟩=>hm pins s2 σ H2 x vs v us Q I2 r1 r2 q2
end
def MtM (X:Cx) (id:String) (r:V->List V->Hp->VK->Prop):Prop:=
 ∀ (pins:List (Addr×Obj)) (s:Shared) (σ:St) (H:Hp) (x:V) (xs:List V) (v:Value) (us:List Value) (Q:VK),Inv X pins σ H s->RelV x v->Vals xs us->r x xs H Q ->
  wpAny (model X.prog X.w) X.A (call (.builtin id) (v::us)) (EP X pins σ Q) X.xe s
theorem Vals.one:∀ {x:V}{us:List Value},Vals [x] us->∃ u,us=[u]/\RelV x u
 | _,_,.cons r .nil=>⟨_,rfl,r⟩
theorem Vals.two:∀ {x y:V}{us:List Value},Vals [x,y] us->∃ u v,us=[u,v]/\RelV x u/\RelV y v
 | _,_,_,.cons r (.cons q .nil)=>⟨_,_,rfl,r,q⟩
theorem Vals.zero:∀ {us:List Value},Vals [] us->us=[]
 | _,.nil=>rfl
theorem Vals.reverse (h:Vals xs us):Vals xs.reverse us.reverse:=by
 induction h with
 | nil=>exact .nil
 | cons r t ih=>rw[List.reverse_cons,List.reverse_cons]; exact Vals.append ih (.cons r .nil)
theorem Vals.rep (h:Vals xs us):∀ k:Nat,Vals (List.replicate k xs).flatten (List.replicate k us).flatten
 | 0=>.nil
 | k+1=>by
  rw[List.replicate_succ,List.replicate_succ,List.flatten_cons,List.flatten_cons];exact Vals.append h (Vals.rep h k)
section
variable {l b:Addr}{zs:List V}
theorem Inv.lset {its':List Value}{f:Array Value->Array Value} (I:Inv X pins σ H s) (hH:H l=some (.lst xs))
  (e:s.heap.get? l=some { cls:=.type "list",data:=.seq its.toArray n }) (hf:f its.toArray=its'.toArray) (hv:Vals ys its') (hz:ys.length<=sizeLine) :
  Inv X pins σ (upd H l (.lst ys)) { s with heap:=s.heap.update l (Obj.mapSeq f),toks:=t' }:=by
 have q:=PySem.IsL.update e f;rw[hf] at q;refine I.write (x:=l) (e:=l) (by rw[hH]; exact trivial) (.inl rfl) (fun b' u hb hu=>(wc s.heap (Obj.mapSeq f) (Ne.symm hb)).trans hu) ⟨_,q⟩ ?_;exact⟨hz,its',_,hv,q⟩
theorem Inv.lnew (I:Inv X pins σ H s) (hv:Vals ys its) (hz:ys.length<=sizeLine) :
  Inv X pins σ (upd H s.heap.objs.size (.lst ys)) { s with heap:=s.heap.push { cls:=.type "list",data:=.seq its.toArray },toks:=t' }:=
 I.laid (fun _ _ q=>Xb _ q) (Xh _) ⟨hz,its,0,hv,Xo _ rfl⟩
theorem Inv.fresh (I:Inv X pins σ H s):H s.heap.objs.size=none:=I.hok.fresh (Xh _)
theorem Inv.lstM (I:Inv X pins σ H s) (hH:H l=some (.lst xs)):xs.length<=sizeLine/\∃ (its:List Value) (n:Nat),Vals xs its/\xs.length=its.length/\s.heap.get? l=some { cls:=.type "list",data:=.seq its.toArray n }:=by
 obtain⟨z,its,n,r,e⟩:=I.hok l _ hH;exact⟨z,its,n,r,r.length,e⟩
theorem jcj (h:n<=sizeLine):Builtin.List.listTooLong n=false:=by
 unfold Builtin.List.listTooLong;exact Xi (by omega)
end
section
def G5:V->List V->Hp->VK->Prop:=fun x vs H Q=>∃ l xs y,x=.ref l/\vs=[y]/\H l=some (.lst xs)/\xs.length<sizeLine/\Q .non (upd H l (.lst (xs++[y])))
theorem qO:MtM X "list.append" G5:=by
 intro pins s σ H x vs v us Q I rx rv h;obtain⟨l,xs,y,rfl,rfl,hH,hz,q⟩:=h;cases rx;obtain⟨u,rfl,ru⟩:=rv.one;obtain⟨z,its,n,r,hl,e⟩:=I.lstM hH;refine call_meets F.slot_list_append ⟨_,e,rfl⟩ F.entry_list_append (F.args_list_append_2 _ _) (PySem.list_append l its.toArray n u (by rw[Xs]; omega)) ⟨e,?_⟩;refine⟨.non,_,I.lset (its':=its++[u]) hH e (by simp) (r.append (.cons ru .nil)) ?_,rfl,q⟩;rw[XR,List.length_singleton];omega
def Z3:V->List V->Hp->VK->Prop:=fun x vs H Q=>∃ l b xs zs,x=.ref l/\vs=[.ref b]/\H l=some (.lst xs)/\H b=some (.lst zs)/\xs.length+zs.length<=sizeLine/\Q .non (upd H l (.lst (xs++zs)))
theorem Z4:MtM X "list.extend" Z3:=by
 intro pins s σ H x vs v us Q I rx rv h;obtain⟨l,b,xs,zs,rfl,rfl,hH,hB,hz,q⟩:=h;cases rx;obtain⟨u,rfl,ru⟩:=rv.one;cases ru;obtain⟨z,its,n,r,hl,e⟩:=I.lstM hH;obtain⟨z2,its2,n2,r2,hl2,e2⟩:=I.lstM hB;have hsz:its.toArray.size+its2.toArray.size<=sizeLine:=by rw[Xs,Xs]; omega
 have hlong:¬ (!its.toArray.isEmpty&&Builtin.List.listTooLong (its.toArray.size+its2.toArray.size))=true:=by
  rw[jcj hsz,Bool.and_false];exact Xy
 refine call_meets F.slot_list_extend ⟨_,e,rfl⟩ F.entry_list_extend (F.args_list_extend_2 _ _)
  (AutoSeq1.list_extend_list_list_0 l its.toArray n b its2.toArray n2 hlong (by rw[Xs]; omega) (by omega)) ⟨e,e2,?_⟩
 refine⟨.non,_,I.lset (its':=its++its2) hH e (by simp) (r.append r2) ?_,rfl,q⟩;rw[XR];omega
def jiP:R2:=fun x y H Q=>∃ l b xs zs,x=.ref l/\y=.ref b/\H l=some (.lst xs)/\H b=some (.lst zs)/\xs.length+zs.length<=sizeLine/\∀ p,H p=none->Q (.ref p) (upd H p (.lst (xs++zs)))
theorem jgs:OpR X (binaryOp .Add) jiP:=by
 intro pins s σ H x y v u Q I rx ry h;obtain⟨l,b,xs,zs,rfl,rfl,hH,hB,hz,q⟩:=h;cases rx;cases ry;obtain⟨z,its,n,r,hl,e⟩:=I.lstM hH;obtain⟨z2,its2,n2,r2,hl2,e2⟩:=I.lstM hB;refine PySem.P.add_list e e2 ?_ (by rw[Xs,Xs]; omega);have ea:its.toArray++its2.toArray=(its++its2).toArray:=by simp
 rw[ea];exact⟨.ref _,_,I.lnew (t':=s.toks) (r.append r2) (by rw[XR]; omega),rfl,q _ I.fresh⟩
end
end L2
variable {tl th:L2.TO}
namespace Att
open PySem PySem.W PySem.Calls PyProof.Rows
theorem G6 {P:Params} :∀ (ns:List Int) (vs:List Value),WellAll P h vs (ns.map WData.int)->IntsAre vs ns:=by
 intro ns
 induction ns with
 | nil=>
  intro vs w;rw[List.map_nil] at w;cases w;exact .nil
 | cons n ns ih=>
  intro vs w;rw[List.map_cons] at w;cases w with
  | cons a b=>
   cases a;exact .cons _ _ (ih _ b)
theorem Z5 {l:OpenLaw} (hn:l.most=some n) {P:Params}{args:List WData}{vals:List Value}
  (hpre:l.row.toRowW.claim.pre args=true) (hwl:WellAll P h vals args) :
  ∃ a vs ns,vals=[Value.ref a]/\args=[WData.list (ns.map WData.int)]/\h.get? a=some { cls:=.type "list",data:=.seq vs.toArray }/\IntsAre vs ns/\ns.length<=n:=by
 have hsh:WShape.hasAll [] args [.list .int]=true:=(pre_splitW hpre).1;have hc:l.pre.holds [] { args:=args }=true:=(pre_splitW hpre).2;obtain⟨d,r,rfl,h1,h2⟩:=hasAllW_cons hsh;obtain rfl:=hasAllW_nil h2;obtain⟨xs,rfl,h3⟩:=hasW_list h1;obtain⟨ns,rfl⟩:=items_int h3;have hlen:ns.length<=n:=by
  unfold OpenLaw.pre at hc;have h4:(WTm.not (.lt (.lit (.int (n:Int))) (.len (.arg 0)))).holds [] { args:=[.list (ns.map .int)] }=true:=by
   have h4:=(holds_andW hc).1;rw[hn] at h4;exact h4
  have h5:=condW_of h4 (w_not (w_lt w_lit (w_len_list (w_arg rfl))));rw[List.length_map] at h5;refine Nat.le_of_not_lt fun q=>?_;have q':(n:Int)<((ns.length:Nat):Int):=by omega
  first
   | (rw[decide_eq_true q'] at h5; exact absurd h5 (by decide))
   | (simp at h5; omega)
 cases hwl with
 | cons w1 w2=>
  cases w2;cases w1 with
  | list ho hall=>exact ⟨_,_,ns,rfl,rfl,ho,G6 ns _ hall,hlen⟩
theorem Z6 (l:OpenLaw) (args:List WData):l.row.toRowW.claim.post args (.bool true) args=true:=
 postW_of (r:=l.row.toRowW) (X:=(true==true))
  (show WShape.has [] (.bool true) .bool=true by first | rfl | decide | simp[WShape.has,WShape.arms,WShape.armsAll])
  (show (WTm.eq .res (.lit (.bool true))).value [] { args:=args,res:=some (.bool true),after:=args }=some (.bool (true==true)) from w_eq_bool (w_res rfl) w_lit) rfl
theorem attach_call {l:OpenLaw}{q:Program}{d:DefRec}
  (hn:l.most=some n) (hdf:d.params.defaults=[])
  (call:∀ (w:World) (s₀ s₁:Shared) (mg mb:Str->Option Value) (fa:Addr) (o:Obj) (pm cd doc:Value) (a:Addr) (vs:List Value) (ns:List Int),
   Ground q loose [] XP w s₀ mg mb s₁.heap->YP w s₁.heap ->
   s₁.heap.get? fa=some o->o.data=.func (docDef d.name d.params d.body d.scope pm cd doc)->s₁.heap.CodeRec cd d.name->mg d.name=some (.ref fa) ->
   s₁.heap.get? a=some { cls:=.type "list",data:=.seq vs.toArray }->IntsAre vs ns->ns.length<=n->s₁.gens=#[] ->
   codeAny (model l.prog w) callerA (.call (.ref fa) ⟨[.ref a],[]⟩) (fun r s'=>r=.ok (.ret (.bool true))/\OldK s₁.heap s'.heap/\s'.os=s₁.os/\AllBare s'.gens) s₁) :
  WalkO q loose XP YP l.row.toRowW d [] (fun f vs=>PySem.call f vs):=by
 intro w s₀ s₁ mg mb G Y fa o pm cd doc dV kV ho hd hcd hD hmg hg args vals as hpre hlay hrd hwl hlo;obtain rfl:dV=.none:=Dflts.none hD hdf;obtain rfl:kV=.none:=Dflts.noKw hD;obtain⟨a,vs,ns,rfl,rfl,hobj,hints,hlen⟩:=Z5 hn hpre hwl;refine enter_call (codeAny_mono (call w s₀ s₁ mg mb fa o pm cd doc a vs ns G Y ho (fd_plain hd) hcd hmg hobj hints hlen hg) fun r s' hq=>?_);obtain⟨rfl,h2,h3,h4⟩:=hq;exact⟨.inl ⟨.bool true,.bool true,[],rfl,fun _=>rfl,.bool true,Z6 l _,fun _=>⟨List.Pairwise.nil,fun _ hm=>(nomatch hm)⟩⟩,h2,h3,h4⟩
end Att
namespace L2
open PySem PySem.Spec PyProof.Rows
theorem U0:∀ {vs:List Value}{ns:List Int},IntsAre vs ns->Vals (ns.map V.int) vs
 | _,_,.nil=>.nil
 | _,_,.cons n t h=>.cons ⟨t,rfl⟩ (U0 h)
def jid (H:Hp):Prop:=∀ b,H b=none \/ ∃ o xs,H b=some (.frz o (.lst xs))
theorem jck {P:Program}{mb:Str->Option Value}{k:Nat}{fa:Addr}{s₁:Shared}{vs:List Value}{ns:List Int}
  (KX:K.In s₁.heap) (hns:s₁.heap.Ns mainGlobals mg) (hb:s₁.heap.Ns builtinsNs mb) (hbb:∀ x:Str,x≠"__name__"->mb x=bootBuiltins x) (hlim:s₁.heap.NoLimit) (hg:s₁.gens=#[])
  (ha:s₁.heap.get? a=some { cls:=.type "list",data:=.seq vs.toArray }) (hi:IntsAre vs ns) (hl:ns.length<=sizeLine) (hr:Room k callerA)
  (F:∀ base:Heap,K.In base->base.Ns mainGlobals mg->FnOk P w K mg base CX k fa fd [x] sp) (hbind:∀ (s:Shared) (u:Value),BindsTo s fd ⟨[u],[]⟩ [(x,u)])
  (hsp:∀ H:Hp,jid H->SqL K H a (ns.map V.int)->sp [.ref a] H (fun v _=>v=.bl true) fun _ _ _=>False)
  (hCX:∀ H e s',CX [] H s₁ (fun _ _ _=>False) e s'->False) :
  codeAny (model P w) callerA (.call (.ref fa) ⟨[.ref a],[]⟩) (fun r s'=>r=.ok (.ret (.bool true))/\OldK s₁.heap s'.heap/\s'.os=s₁.os/\AllBare s'.gens) s₁:=by
 have rv:=U0 hi;have lenV:=hi.length;have core:∀ H:Hp,jid H->SqL K H a (ns.map V.int)->HOk P w H s₁.heap->(∀ b,H b≠none->b=a)->(H a≠none->K.lookup a=none) ->
   codeAny (model P w) callerA (.call (.ref fa) ⟨[.ref a],[]⟩) (fun r s'=>r=.ok (.ret (.bool true))/\OldK s₁.heap s'.heap/\s'.os=s₁.os/\AllBare s'.gens) s₁:=by
  intro H hO hS hok hA hK;have base_of:∀ {b:Addr}{o:Obj},s₁.heap.get? b=some o->H b=none->(jb7 s₁.heap H).get? b=some o:=fun e n=>jb8 e n;have noA:∀ {b:Addr}{o:Obj}{es:Array DictEntry}{ep:Nat},s₁.heap.get? b=some o->o.data=.dict es ep->H b=none:=fun {b o es ep} e d=>by
   cases q:H b with
   | none=>rfl
   | some u=>
    have e':b=a:=hA b (by rw[q]; simp);subst e';rw[ha] at e; cases e;have d':Data.seq vs.toArray _=Data.dict es ep:=d;cases d'
  have nsK:∀ {b:Addr}{m:Str->Option Value},s₁.heap.Ns b m->(jb7 s₁.heap H).Ns b m:=fun {b m} ⟨o,es,ep,e,d,r⟩=>⟨o,es,ep,base_of e (noA e d),d,r⟩;have hKb:K.In (jb7 s₁.heap H):=fun b o e=>base_of (KX b o e) (by
   cases q:H b with
   | none=>rfl
   | some u=>
    have e':b=a:=hA b (by rw[q]; simp);subst e';rw[hK (by rw[q]; simp)] at e; cases e)
  have hM:Mod K mg (jb7 s₁.heap H):=⟨hKb,nsK hns,⟨mb,nsK hb,hbb⟩,let ⟨mc,h1,h2⟩:=hlim; ⟨mc,nsK h1,h2⟩⟩;have e0:Env0 P w K mg (jb7 s₁.heap H) callerA [] s₁ H:=⟨rfl,hM,fun b o e=>jez e,Nat.le_of_eq (ZI _ _),trivial,fun b hb=>absurd (show b∈([]:List Addr) from hb) (by simp),hok,.of_eq hg⟩;refine codeAny_mono ((F _ hKb (nsK hns)).run callerA [] s₁ H ⟨[.ref a],[]⟩ [.ref a] [.ref a] _ _ hr e0 (hbind s₁ (.ref a)) (.cons rfl .nil) (hsp H hO hS)) fun r s' h=>?_;cases r with
  | error e=>exact (hCX H e s' h).elim
  | ok fl=>
   cases fl with
   | next=>exact False.elim h
   | brk=>exact False.elim h
   | cont=>exact False.elim h
   | ret u=>
    obtain⟨v,H',os,bare,un,hok',r',q⟩:=h;have q':v=.bl true:=q;subst q';obtain rfl:u=Value.bool true:=r';refine⟨rfl,OldK.of_keep fun b o e=>?_,os,bare⟩;cases q:H b with
    | none=>exact un.keep b o e q (by intro z; exact absurd (show b∈([]:List Addr) from z) (by simp)) (by simp)
    | some u=>
     rcases hO b with z | ⟨ob,xs,z⟩
     ·rw[q] at z; cases z
     ·have z2:=un.frzs b ob _ z;obtain⟨e1,_⟩:=hok b _ z;obtain⟨e2,_⟩:=hok' b _ z2;rw[e] at e1; cases e1;exact e2
 cases hk:K.lookup a with
 | some o=>
  have e:=KX a o hk;rw[ha] at e;cases e;refine core (fun _=>none) (fun _=>.inl rfl) (.inr ⟨_,vs.toArray,_,hk,rfl,rfl,rfl,by rw[Xs,lenV]; exact hl,by simpa using rv⟩) (fun b u z=>by have z':(none:Option HO)=some u:=z; cases z') (fun b z=>absurd rfl z) fun z=>absurd rfl z
 | none=>
  refine core (fun b=>if b=a then some (.frz { cls:=.type "list",data:=.seq vs.toArray } (.lst (ns.map V.int))) else none) (fun b=>?_) (.inl (.inr ⟨{ cls:=.type "list",data:=.seq vs.toArray },if_pos rfl⟩)) (fun b u z=>?_) (fun b z=>?_) fun _=>hk
  ·by_cases hb:b=a
   ·exact .inr ⟨_,_,if_pos hb⟩
   ·exact .inl (if_neg hb)
  ·by_cases hb:b=a
   ·have z':=(if_pos hb).symm.trans z;cases z';subst hb;exact⟨ha,by rw[Xp]; exact hl,vs,_,rv,ha⟩
   ·have z':=(if_neg hb).symm.trans z;cases z'
  ·by_cases hb:b=a
   ·exact hb
   ·exact absurd (if_neg hb) z
abbrev KOf (_:K.In h):W.Frag:=K
theorem walk_of {l:W.OpenLaw}{k:Nat}{q:Program}{d:DefRec}{K:Params->W.Frag}{CX:World->CXT}{sp:World->Sp} 
  (hn:l.most=some n) (hn2:n<=sizeLine) (hdf:d.params.defaults=[]) (hr:Room k callerA)
  (hY:∀ (w:World) (h:Heap),YP w h->(K w.params).In h)
  (F:∀ (w:World) (mg:Str->Option Value) (fa:Addr) (h:Heap),(K w.params).In h->h.Ns mainGlobals mg->mg d.name=some (.ref fa) ->
   ∃ fd:FuncData,(∀ (s:Shared) (u:Value),BindsTo s fd ⟨[u],[]⟩ [(x,u)]) /\
    ∀ base:Heap,(K w.params).In base->base.Ns mainGlobals mg->FnOk l.prog w (K w.params) mg base (CX w) k fa fd [x] (sp w))
  (hsp:∀ (w:World) (H:Hp) (a:Addr) (ns:List Int),ns.length<=n->jid H->SqL (K w.params) H a (ns.map V.int)->sp w [.ref a] H (fun v _=>v=.bl true) fun _ _ _=>False)
  (hCX:∀ (w:World) (H:Hp) (s:Shared) (e:Value) (s':Shared),CX w [] H s (fun _ _ _=>False) e s'->False) :
  W.WalkO q loose XP YP l.row.toRowW d [] (fun f vs=>PySem.call f vs):=by
 refine Att.attach_call hn hdf fun w s₀ s₁ mg mb fa o pm cd doc a vs ns G Y ho hd hcd hmg hobj hints hlen hg=>?_;have KX:=hY w _ Y;obtain⟨fd,hb,hF⟩:=F w mg fa _ KX G.T.g hmg;exact jck KX G.T.g G.T.b G.T.builtins G.T.nolimit hg hobj hints (XI hlen hn2) hr hF hb (fun H hO hS=>hsp w H a ns hlen hO hS) fun H e s'=>hCX w H s₁ e s'
end L2
/- THE LAST THEOREM (shape; LID,My.* are yours):
   My.Adr: a structure of the addresses that your layer names (classes,functions); My.Txt K t: a structure (Prop) of the equations over K;
   My.txt_mk:{K}{implicit addresses ..} (e1:nsIn K mainGlobals "law"=some (some (.ref f))) (e2:K.lookup f=some ⟨oc,od,.func (fnOf "law" "law" params body scope dV kV doc pm an cdv ct),sl⟩) (e3:codeIn K cdv "law"=true) ..:∃ t,My.Txt K t
set_option maxRecDepth 100000 in
set_option maxHeartbeats 0 in
theorem PySem.Challenge.cw_LID_holds:PySem.Challenge.rw_LID.Holds:=by
 w_on; o_law; k_head; (case hw=>w_witness2)
 k_fill
 refine L2.walk_of (l:=PySem.Challenge.rw_LID) (n:=63) (k:=40) (x:="script") (CX:=fun w=>..) (sp:=fun _=>My.sp_law) rfl (by decide) rfl ⟨rfl,by decide,by decide⟩ (fun w h Y=>W.kIn_of Y) ?F ?S ?C
 case F=>
  intro w mg fa h KX G hmg;have T:∃ t,My.Txt (L2.KOf KX) t:=by
   dsimp only[L2.KOf]                          -- K must stand as «<heap const> w.params» for k_is;refine' My.txt_mk ?e1 ?e2 ?e3 ..
   (case e1=>W.k_is)                    -- in the order: a name->its address->its object->its parts
   (case e2=>W.k_is)
   ..
  obtain⟨t,T⟩:=T;have e0:=hmg.symm.trans (W.mg_of KX G T.law);cases e0                                       -- fa is the law's own address;exact⟨_,fun s u=>.of_eq rfl,fun base kb nb=>My.law_fn T kb nb⟩     -- if «.of_eq rfl» comes too early: refine' ⟨_,?b,fun base kb nb=>My.law_fn T kb nb⟩; exact fun s u=>.of_eq rfl
 case S=>exact fun w H a ns hl hO hS=>..
 case C=>exact ..
(the tactic k_is has no namespace: write k_is) -/
namespace L2
open PySem PySem.Spec PyProof.Rows
def qz (s:Stmt) (j:Nat):Stmt:=match s with
 | .ClassDef _ _ _ body _ _ _ _ _ _ _=>body.getD j (.Pass ⟨0,0,0,0⟩)
 | _=>.Pass ⟨0,0,0,0⟩
def j0 (s:Stmt):Arguments:=match s with
 | .FunctionDef _ a _ _ _ _ _ _ _ _=>a
 | _=>{ posonlyargs:=[],args:=[],vararg:=none,kwonlyargs:=[],kw_defaults:=[],kwarg:=none,defaults:=[] }
def jT (s:Stmt):List Stmt:=match s with
 | .FunctionDef _ _ b _ _ _ _ _ _ _=>b
 | _=>[]
def jo (s:Stmt):Scope:=match s with
 | .FunctionDef _ _ _ _ _ _ sc _ _ _=>sc
 | _=>{ kind:=.function,names:=[],isGenerator:=false,isCoroutine:=false }
abbrev CX0:CXT:=fun _ _ _ _ _ _=>False
abbrev E0:XK:=fun _ _ _=>False
theorem jeN:Qn CX0 X E0:=fun _ _ _ _ _ _ _ h=>h.elim
structure Fun (K:W.Frag) (x qual:Str) (st:Stmt) (f:Addr) (fd:FuncData):Prop where
 ex:∃ (oc:Value) (od:Option Addr) (kV doc pm:Value) (an:Option Addr) (cdv ct:Value) (osl:Array (Option Value)),
  fd=W.fnOf x qual (j0 st) (jT st) (jo st) .none kV doc pm an cdv ct/\K.lookup f=some ⟨oc,od,.func fd,osl⟩/\W.codeIn K cdv qual=true
 kp:W.keepIn K (.ref f)=true
section
variable {P:Program} 
theorem Fun.ok {f:Addr}{k:Nat} (F:Fun K x qual st f fd) (S:FnScope N ps (jo st)) (len:∀ vs H Q E,sp vs H Q E->vs.length=ps.length)
  (hbody:∀ (cdv:Value) (A:Around) (outer:List Env) (s:Shared) (H:Hp) (vs:List V) (Q:VK) (E:XK),Room k (A.deeper (envOfC qual (jo st) s.heap.objs.size f cdv))->sp vs H Q E ->
   ∃ t,PSs (ZC CX0 P w K mg base N qual (jo st) f cdv A outer s H E).nox (jT st) t/\t { nx:=fun _ H'=>Q .non H',rt:=Q } (G3 N vs) H):FnOk P w K mg base CX0 (k+1) f fd ps sp:=by
 obtain⟨oc,od,kV,doc,pm,an,cdv,ct,osl,rfl,lk,hcd⟩:=F.ex;refine jgm lk hcd S len fun A outer s H vs Q E hr hsp=>?_;obtain⟨t,h,q⟩:=hbody cdv A outer s H vs Q E hr hsp;exact⟨t,h.nox,q⟩
theorem Fun.binds {f:Addr} (F:Fun K x qual st f fd)
  (h:∀ (kV doc pm:Value) (an:Option Addr) (cdv ct:Value) (us:List Value),us.length=ps.length->bindArgs (W.fnOf x qual (j0 st) (jT st) (jo st) .none kV doc pm an cdv ct) ⟨us,[]⟩=pure (ps.zip us)):Binds K fd ps []:=by
 obtain⟨oc,od,kV,doc,pm,an,cdv,ct,osl,rfl,lk,hcd⟩:=F.ex;exact .all (h kV doc pm an cdv ct)
theorem ky {f:Addr}{oc:Value}{od:Option Addr}{kV doc pm ct:Value} (l:K.lookup f=some ⟨oc,od,.func (W.fnOf x qual (j0 st) (jT st) (jo st) .none kV doc pm an cdv ct),osl⟩)
  (c:W.codeIn K cdv qual=true) (k:W.keepIn K (.ref f)=true):Fun K x qual st f (W.fnOf x qual (j0 st) (jT st) (jo st) .none kV doc pm an cdv ct):=⟨⟨oc,od,kV,doc,pm,an,cdv,ct,osl,rfl,l,c⟩,k⟩
end
section
theorem pv (i:Nat) (hN:X.N[i]?=some x:=by rfl) (hv:Vis X.env.scope x:=by first | exact Or.inl rfl | exact Or.inr (Or.inl rfl) | exact Or.inr (Or.inr rfl)) (hd:(x==("__debug__":Str))=false:=by decide)
  (hcd:(x==("__classdict__":Str))=false:=by decide):PE X (.Name x pos) (GM i):=jge hN hv hd hcd
end
theorem VY {A B:Prop} (h:B):if false=true then A else B:=by
 rw[if_neg Xy];exact h
theorem VZ {A B:Prop} (h:A):if true=true then A else B:=by
 rw[if_pos rfl];exact h
def Same (H H':Hp):Prop:=∀ b o,H b=some o->H' b=some o
theorem Same.refl (H:Hp):Same H H:=fun _ _ h=>h
theorem Same.trans {H2:Hp} (a:Same H H1) (b:Same H1 H2):Same H H2:=fun c o h=>b c o (a c o h)
theorem Same.free (e:Same H H') {l:Addr} (h:H' l=Option.none):H l=Option.none:=by
 cases q:H l with
 | none=>rfl
 | some o=>
  rw[e l o q] at h;cases h
theorem Same.seq (e:Same H H') (h:SqL K H a xs):SqL K H' a xs:=by
 rcases h with (h | ⟨o,h⟩) | h
 ·exact .inl (.inl (e _ _ h))
 ·exact .inl (.inr ⟨o,e _ _ h⟩)
 ·exact .inr h
end L2
namespace MB
open PySem
theorem YK (x:Int):Builtin.bitNot (Builtin.bitNot x)=x:=by unfold Builtin.bitNot; omega
theorem and_nat (a b:Nat):Builtin.bitAnd (a:Int) (b:Int)=((a &&& b:Nat):Int):=by
 unfold Builtin.bitAnd;have h1:decide (0<=(a:Int))=true:=by simp
 have h2:decide (0<=(b:Int))=true:=by simp
 rw[h1,h2];simp
theorem or_nat (a b:Nat):Builtin.bitOr (a:Int) (b:Int)=((a ||| b:Nat):Int):=by
 unfold Builtin.bitOr Builtin.bitAnd;have h1:decide (0<=Builtin.bitNot (a:Int))=false:=by unfold Builtin.bitNot; simp; omega
 have h2:decide (0<=Builtin.bitNot (b:Int))=false:=by unfold Builtin.bitNot; simp; omega
 rw[h1,h2];simp only[YK];simp
def setN (l:List Nat):Nat:=l.foldl (fun a t=>a ||| 2 ^ t) 0
theorem Z7 (l:List Nat) (a i:Nat):(l.foldl (fun a t=>a ||| 2 ^ t) a).testBit i=(a.testBit i||decide (i∈l)):=by
 induction l generalizing a with
 | nil=>simp
 | cons t r ih=>
  rw[List.foldl_cons,ih,Nat.testBit_or,Nat.testBit_two_pow];by_cases h:t=i
  ·subst h; simp
  ·have h':¬ i=t:=fun e=>h e.symm;simp[h,h']
theorem setN_bit (l:List Nat) (i:Nat):(setN l).testBit i=decide (i∈l):=by
 unfold setN;rw[Z7];simp
theorem YL {b m:Nat} (hm:b<2 ^ m) (hmn:m<=n):(List.range m).filter (fun t=>b.testBit t)=(List.range n).filter (fun t=>b.testBit t):=by
 obtain⟨k,rfl⟩:=Nat.exists_eq_add_of_le hmn
 induction k with
 | zero=>rfl
 | succ k ih=>
  rw[show m+(k+1)=(m+k)+1 from rfl,List.range_succ,List.filter_append,<- ih (by omega)];have:b.testBit (m+k)=false:=Nat.testBit_lt_two_pow (Nat.lt_of_lt_of_le hm (Nat.pow_le_pow_right (by decide) (by omega)));simp[this]
theorem jeO (b:Nat):b<2 ^ Builtin.Int.intBits (b:Int):=by
 have:=(PySem.intBits_le_iff (m:=Builtin.Int.intBits (b:Int)) (x:=(b:Int))).mp (Nat.le_refl _);simpa using this
theorem bits_le {b m:Nat} (h:b<2 ^ m):Builtin.Int.intBits (b:Int)<=m:=PySem.intBits_le_iff.mpr (by simpa using h)
theorem things_eq {b:Nat} (h:b<2 ^ n):(List.range (Builtin.Int.intBits (b:Int))).filter (fun t=>b.testBit t)=(List.range n).filter (fun t=>b.testBit t):=YL (jeO b) (bits_le h)
end MB
namespace L2
open PySem PySem.Spec PyProof.Rows
theorem ane {a b:Nat} (h:a<b \/ b<a):@Ne Addr a b:=fun e=>by
 have e':(a:Nat)=b:=e;omega
def clo (env:Env):List (Str×NameKind)->List (Str×Addr)->List (Str×Addr)
 | [],acc=>acc
 | (n,k)::r,acc=>if k==.free then clo env r ((n,(env.cells.lookup n).getD 0)::acc) else clo env r acc
theorem zS (h:∀ x∈scope.names,x.2=.free->∃ c,env.cells.lookup x.1=some c):closureFor scope env=pure (clo env scope.names []):=by
 unfold closureFor;have key:∀ (l:List (Str×NameKind)) (acc:List (Str×Addr)),(∀ x∈l,x.2=.free->∃ c,env.cells.lookup x.1=some c) ->
   ∀ (f:Str×NameKind->List (Str×Addr)->Sem (ForInStep (List (Str×Addr)))),(∀ n k cs,f (n,k) cs=if (k==NameKind.free)=true then (do let a <- cellOf env n; pure (ForInStep.yield ((n,a)::cs))) else pure (ForInStep.yield cs)) ->
   forIn l acc f=(pure (clo env l acc):Sem (List (Str×Addr))):=by
  intro l
  induction l with
  | nil=>intro acc _ f _; rfl
  | cons x r ih=>
   intro acc hl f hf;obtain⟨n,k⟩:=x;rw[List.forIn_cons,hf];have ih':=fun acc'=>ih acc' (fun y hy=>hl y (Xj _ hy)) f hf;show _=pure (if (k==NameKind.free)=true then _ else _);by_cases hk:(k==NameKind.free)=true
   ·obtain⟨c,hc⟩:=hl (n,k) Xn (by simpa using hk);have e:cellOf env n=pure c:=by unfold cellOf; rw[hc]
    rw[if_pos hk,if_pos hk,e,pure_bind,pure_bind,hc];exact ih' _
   ·rw[if_neg hk,if_neg hk,pure_bind];exact ih' _
 refine Eq.trans (congrArg (fun z=>z >>= fun cs=>pure cs) (key scope.names [] h _ fun n k cs=>?_)) (pure_bind _ _);by_cases hk:(k==NameKind.free)=true
 ·simp[hk]
 ·simp[hk]
theorem QV:∀ (l:List (Str×NameKind)) (acc:List (Str×Addr)),(∀ x∈l,x.2=.free->∃ c,env.cells.lookup x.1=some c)->(∀ y d,acc.lookup y=some d->env.cells.lookup y=some d) ->
  ∀ y d,(clo env l acc).lookup y=some d->env.cells.lookup y=some d
 | [],_,_,h,y,d,e=>h y d e
 | (n,k)::r,acc,hl,h,y,d,e=>by
  unfold clo at e;have hr:∀ x∈r,x.2=.free->∃ c,env.cells.lookup x.1=some c:=fun x hx=>hl x (Xj _ hx);by_cases hk:(k==NameKind.free)=true
  ·rw[if_pos hk] at e;obtain⟨c,hc⟩:=hl (n,k) Xn (by simpa using hk);refine QV r _ hr (fun z b hz=>?_) y d e;rw[wy] at hz;cases hb:z==n with
   | true=>rw[hb] at hz; rw[wD.mp hb,hc] ; rw[hc] at hz; exact hz
   | false=>rw[hb] at hz; exact h z b hz
  ·rw[if_neg hk] at e;exact QV r acc hr h y d e
theorem QW:∀ (l:List (Str×NameKind)) (acc:List (Str×Addr)),(l.lookup x=some .free \/ ∃ c,acc.lookup x=some c)->∃ c,(clo env l acc).lookup x=some c
 | [],_,h=>h.elim (fun e=>by cases e) id
 | (n,k)::r,acc,h=>by
  unfold clo;by_cases hk:(k==NameKind.free)=true
  ·rw[if_pos hk];refine QW r _ ?_;cases hb:x==n with
   | true=>exact .inr ⟨_,by rw[wy,hb]⟩
   | false=>
    rcases h with h | ⟨c,h⟩
    ·rw[wy,hb] at h; exact .inl h
    ·exact .inr ⟨c,by rw[wy,hb]; exact h⟩
  ·rw[if_neg hk];refine QW r _ ?_;rcases h with h | h
   ·cases hb:x==n with
    | true=>
     rw[wy,hb] at h;cases h;exact absurd rfl hk
    | false=>rw[wy,hb] at h; exact .inl h
   ·exact .inr h
theorem qG:∀ (l:List (Str×NameKind)) (n:Nat) (acc:List (Str×Addr)),cellsFrom n l acc=cellsFrom n l []++acc
 | [],_,_=>rfl
 | (x,k)::r,n,acc=>by
  unfold cellsFrom;by_cases hk:(k==NameKind.cell)=true
  ·rw[if_pos hk,if_pos hk,qG r (n+1) ((x,n)::acc),qG r (n+1) [(x,n)],List.append_assoc];rfl
  ·rw[if_neg hk,if_neg hk,qG r n acc]
theorem yp {c:Addr}:∀ {l:List (Str×NameKind)}{n:Nat}{acc:List (Str×Addr)},(x,c)∈cellsFrom n l acc->(x,NameKind.cell)∈l \/ (x,c)∈acc
 | [],_,_,h=>.inr h
 | (y,k)::r,n,acc,h=>by
  unfold cellsFrom at h;by_cases hk:(k==NameKind.cell)=true
  ·rw[if_pos hk] at h;have hk':k=.cell:=by simpa using hk
   rcases yp h with z | z
   ·exact .inl (Xj _ z)
   ·rcases XB.mp z with e | z
    ·cases e;subst hk';exact .inl Xn
    ·exact .inr z
  ·rw[if_neg hk] at h;rcases yp h with z | z
   ·exact .inl (Xj _ z)
   ·exact .inr z
theorem Z8 {globals:Addr}{cl:List (Str×Addr)}{outer:Env}{Q:Env->Shared->Prop}
  (hQ:Q (newEnv scope s.heap.objs.size globals (cellsFrom (s.heap.objs.size+1) scope.names cl) qual none .none (some outer) builtinsNs)
   { s with heap:=pushCells (s.heap.push { cls:=.type "dict",data:=.dict #[] }) scope.names }) :
  wpAny M A (newFunctionEnv scope globals cl [] qual none .none (some outer)) Q E s:=by
 simp only[newFunctionEnv,Option.isSome_some,if_true];refine Xa (wpAny_alloc ?_);refine Xa (wpAny_layCells _ (fun name kind cells=>by cases hkc:kind==NameKind.cell <;> simp[hkc]) _ _ _ _ ?_);rw[show ({ s with heap:=s.heap.push { cls:=.type "dict",data:=.dict #[] } }:Shared).heap.objs.size=s.heap.objs.size+1 from wK ..]
 exact Xa (Xd (Xd hQ))
theorem xm {env:Env}{x:Str}:∀ {names:List (Str×NameKind)}{q:NameKind},
  (names.map fun (n,k)=>if (k==NameKind.free&&env.scope.kind==.function&&env.kindOf n==some .cell) then (n,NameKind.cell) else (n,k)).lookup x=some q ->
  names.lookup x=some q \/ (names.lookup x=some .free/\q=.cell)
 | [],_,h=>by cases h
 | (n,k)::r,q,h=>by
  have ih:=@xm env x r q;have h':((if (k==NameKind.free&&env.scope.kind==.function&&env.kindOf n==some .cell)=true then (n,NameKind.cell) else (n,k))::(r.map fun (n,k)=>if (k==NameKind.free&&env.scope.kind==.function&&env.kindOf n==some .cell) then (n,NameKind.cell) else (n,k))).lookup x=some q:=h;rw[wy];by_cases hc:(k==NameKind.free&&env.scope.kind==.function&&env.kindOf n==some .cell)=true
  ·rw[if_pos hc,wy] at h';have hkf:k=.free:=by
    cases k <;> first | rfl | (simp at hc)
   subst hkf;cases hb:x==n with
   | true=>
    rw[hb] at h';cases h';exact .inr ⟨rfl,rfl⟩
   | false=>
    rw[hb] at h';exact ih h'
  ·rw[if_neg hc,wy] at h';cases hb:x==n with
   | true=>
    rw[hb] at h';exact .inl h'
   | false=>
    rw[hb] at h';exact ih h'
theorem U1 {R:Result->Shared->Prop}{elt target:Expr}{ifs:List Expr}{it acc:Value} (I:Nat->Shared->Prop)
  (turn:∀ n s,I n s->wpAny (model prog w) A (pyNext it) (fun r s₁=>match r with
   | none=>R (.ok .next) s₁
   | some v=>wpAny (model prog w) A (letOwnedTupleGo target it v) (fun _ s₁'=>wpAny (model prog w) A (assign target env v) (fun _ s₂=>
     wpAny (model prog w) A (forIn ifs true fun c r=>if r=true then do let ok <- isTrue c env (eval c env); pure (ForInStep.yield ok) else pure (ForInStep.yield r)) (fun ok s₃=>
      if ok=true then wpAny (model prog w) A (eval elt env) (fun x s₄=>
       wpAny (model prog w) A (call (.builtin "list.append") [acc,x]) (fun _ s₅=>∃ m,m<n/\I m s₅) (fun _ _=>False) s₄) (fun _ _=>False) s₃
      else ∃ m,m<n/\I m s₃) (fun _ _=>False) s₂) (fun _ _=>False) s₁') (fun _ _=>False) s₁) (fun _ _=>False) s)
  (n:Nat) (h:I n s) :
  codeAny (model prog w) A (.compLoop (.ListComp elt [⟨target,iter,ifs,0⟩] scope pos) 0 it acc env) R s:=by
 refine codeAny_loop rfl I (fun n s hI=>?_) n h;show wpAny _ A ((compTurn (.ListComp elt [⟨target,iter,ifs,0⟩] scope pos) 0 it acc env).onRaise (fun x=>do noteFrame x env; theTreesLotGoes x)) _ _ s;refine wpAny_noted ?_;rw[compTurn_list];refine Xa (wpAny_standAt (Xa (XW (turn n s hI) (fun r s₁ h₁=>?_) fun _ _ h'=>h'.elim)));cases r with
 | none=>exact Xd h₁
 | some v=>
  refine Xa (XW h₁ (fun _ s₁' h₁'=>?_) fun _ _ h'=>h'.elim);refine Xa (XW h₁' (fun _ s₂ h₂=>Xa (XW h₂ (fun ok s₃ h₃=>?_) fun _ _ h'=>h'.elim)) fun _ _ h'=>h'.elim);cases ok with
  | false=>exact Xd ⟨rfl,h₃⟩
  | true=>
   exact Xa (Xa (XW h₃ (fun x s₄ h₄=>Xa (XW h₄ (fun _ s₅ h₅=>Xd (Xd ⟨rfl,h₅⟩)) fun _ _ h'=>h'.elim)) fun _ _ h'=>h'.elim))
structure Blk where
 C:Addr
 s:Shared
 H:Hp
 ex:List Addr
def blk (X:Cx) (sc:Scope) (N:List Str) (b:Blk):Cx:=
 { X with N:=N,s₀:=b.s,H₀:=b.H,env:=compEnvC sc (cellsFrom (b.C+1) sc.names (clo X.env sc.names [])) b.C X.env,outer:=X.stack,stack:=X.stack,ex:=b.ex,fn:=fun x=>sc.names.lookup x==some .cell,pn:=[],xe:=fun _ _=>False }
def QX (own:Nat) (ix:List Nat) (σ:St):St:=List.replicate own none++ix.map fun i=>(σ[i]?).join
structure BlkOk (X:Cx) (sc:Scope) (own:List Str) (ix:List Nat) (N:List Str):Prop where
 kind:sc.kind=.function
 nm:∀ x∈sc.names,sc.names.lookup x.1=some x.2
 fr:∀ x∈sc.names,x.2=.free->X.env.kindOf x.1=some .cell \/ X.env.kindOf x.1=some .free
 eq:N=own++ix.map fun i=>(X.N[i]?).getD Str.empty
 lt:∀ i∈ix,i<X.N.length
 isf:∀ i∈ix,sc.names.lookup ((X.N[i]?).getD Str.empty)=some .free
theorem jgt (B:BlkOk X sc own ix N) (I:Inv X pins σ H s) (hf:∀ b∈fp,ZP X pins H b)
  (hlt:∀ b:Nat,b∈fp->b<s.heap.objs.size) :
  Inv (blk X sc N ⟨s.heap.objs.size+1,s,H,fp⟩) [] (QX own.length ix σ) (upd H s.heap.objs.size (.lst []))
   { s with heap:=pushCells ((s.heap.push { cls:=.type "list",data:=.seq ([]:List Value).toArray }).push { cls:=.type "dict",data:=.dict #[] }) sc.names }:=by
 have hfr:∀ x∈sc.names,x.2=.free->∃ c,X.env.cells.lookup x.1=some c:=fun x hx e=>I.ok.has x.1 (B.fr x hx e);have h0:H s.heap.objs.size=none:=I.fresh;have k1:∀ b o,s.heap.get? b=some o->(pushCells ((s.heap.push { cls:=.type "list",data:=.seq ([]:List Value).toArray }).push { cls:=.type "dict",data:=.dict #[] }) sc.names).get? b=some o:=
  fun b o e=>pushCells_keeps _ _ b o (Xb _ (Xb _ e))
 have sz1:(s.heap.push { cls:=.type "list",data:=.seq ([]:List Value).toArray }).objs.size=s.heap.objs.size+1:=wK ..;have sz2:((s.heap.push { cls:=.type "list",data:=.seq ([]:List Value).toArray }).push { cls:=.type "dict",data:=.dict #[] }).objs.size=s.heap.objs.size+2:=by rw[wK,sz1]
 have hD:(pushCells ((s.heap.push { cls:=.type "list",data:=.seq ([]:List Value).toArray }).push { cls:=.type "dict",data:=.dict #[] }) sc.names).get? s.heap.objs.size=some { cls:=.type "list",data:=.seq ([]:List Value).toArray }:=
  pushCells_keeps _ _ _ _ (Xb _ (Xo _ rfl))
 have okc:=cellsFrom_ok sc.names ((s.heap.push { cls:=.type "list",data:=.seq ([]:List Value).toArray }).push { cls:=.type "dict",data:=.dict #[] }) (s.heap.objs.size+2) [] ⟨fun _ _ hm=>(nomatch hm),List.Pairwise.nil⟩ (by rw[sz2]; exact Xh _);rw[sz2] at okc;have nsC:(pushCells ((s.heap.push { cls:=.type "list",data:=.seq ([]:List Value).toArray }).push { cls:=.type "dict",data:=.dict #[] }) sc.names).Ns (s.heap.objs.size+1) (fun _=>none):=by
  have q:=(Heap.Ns.new (s.heap.push { cls:=.type "list",data:=.seq ([]:List Value).toArray }) (.type "dict")).keeps (pushCells_keeps sc.names _);rw[sz1] at q;exact q
 have cells:∀ x c,(cellsFrom (s.heap.objs.size+1+1) sc.names (clo X.env sc.names [])).lookup x=some c ->
   ((x,c)∈cellsFrom (s.heap.objs.size+2) sc.names []) \/ X.env.cells.lookup x=some c:=fun x c e=>by
  rw[qG,List.lookup_append] at e;cases q:(cellsFrom (s.heap.objs.size+1+1) sc.names []).lookup x with
  | some d=>
   rw[q] at e;have e':d=c:=Option.some.inj e;subst e';exact .inl (wu q)
  | none=>
   rw[q] at e;exact .inr (QV sc.names [] hfr (fun _ _ z=>nomatch z) x c e)
 have oldc:∀ (x:Str) (c:Nat),X.env.cells.lookup x=some c->c<s.heap.objs.size:=fun x c e=>(I.cell x c e).choose_spec.lt;have newc:∀ (x:Str) (c:Nat),(x,c)∈cellsFrom (s.heap.objs.size+2) sc.names []->s.heap.objs.size+2<=c:=fun x c e=>(okc.empty x c e).2;have ok:(blk X sc N ⟨s.heap.objs.size+1,s,H,fp⟩).Ok:=by
  refine⟨I.ok.mod,B.kind,I.ok.glob,I.ok.blt,Nat.le_succ _,fun x y c e1 e2=>?_,fun x hx=>?_,fun x c h1 e=>?_,I.ok.hd,I.ok.frames,.inl rfl,fun b hb=>⟨?_,fun x c e=>?_⟩,I.bs,XI I.ok.bsz I.sz,fun b o e hb=>?_,fun b hb z=>?_,I.stack,I.stkFree⟩
  ·rcases cells x c e1 with a1 | a1
   ·rcases cells y c e2 with a2 | a2
    ·exact name_of_addr okc.apart a1 a2
    ·have:=newc x c a1; have:=oldc y c a2; omega
   ·rcases cells y c e2 with a2 | a2
    ·have:=newc y c a2; have:=oldc x c a1; omega
    ·exact I.ok.inj x y c a1 a2
  ·show ∃ c,(cellsFrom (s.heap.objs.size+1+1) sc.names (clo X.env sc.names [])).lookup x=some c;have hx':(relabel sc X.env).names.lookup x=some .cell \/ (relabel sc X.env).names.lookup x=some .free:=hx;have hk:sc.names.lookup x=some .cell \/ sc.names.lookup x=some .free:=by
    rcases hx' with z | z
    ·rcases xm z with q | q
     ·exact .inl q
     ·exact .inr q.1
    ·rcases xm z with q | q
     ·exact .inr q
     ·cases q.2
   refine Option.isSome_iff_exists.mp (W.cellsFrom_some sc.names _ _ ?_);rcases hk with z | z
   ·exact .inl z
   ·obtain⟨c,q⟩:=QW (env:=X.env) sc.names [] (.inl z);exact .inr (by rw[q]; rfl)
  ·have h1':sc.names.lookup x=some .cell:=by
    have:(sc.names.lookup x==some NameKind.cell)=true:=h1;simpa using this
   have e':(cellsFrom (s.heap.objs.size+1+1) sc.names (clo X.env sc.names [])).lookup x=some c:=e;rw[qG,List.lookup_append] at e';obtain⟨d,q⟩:=Option.isSome_iff_exists.mp (W.cellsFrom_some sc.names (s.heap.objs.size+1+1) [] (.inl h1'));rw[q] at e';have e2:d=c:=Option.some.inj e';subst e2;have:=newc x d (wu q);exact XI (Nat.le_add_right _ 2) this
  ·exact ane (.inl (Nat.lt_succ_of_lt (hlt b hb)))
  ·rcases cells x c e with a | a
   ·exact ane (.inr (Xx (hlt b hb) (XI (Nat.le_add_right _ 2) (newc x c a))))
   ·exact(hf b hb).2.2.2.2.1 x c a
  ·have z:=(hf b hb).2.2.2.1;rcases z with z | z
   ·exact I.ok.noex b o e z
   ·exact absurd (Xx (Xx (Xu e) I.ok.bsz) z) (wJ _)
  ·have z':b∈frs X.stack:=z;rcases XB.mp (I.stkSub b z') with q | q
   ·exact(hf b hb).2.1 q
   ·exact(hf b hb).2.2.1 q
 have un1:Un (frs X.stack) fp H (upd H s.heap.objs.size (.lst [])) s.heap (pushCells ((s.heap.push { cls:=.type "list",data:=.seq ([]:List Value).toArray }).push { cls:=.type "dict",data:=.dict #[] }) sc.names):=Un.laid k1 (Xh _) h0;refine⟨ok,rfl,I.bare,un1,⟨_,nsC,fun i x v e1 e2 e3=>?_⟩,fun x c e=>?_,?_,fun x c e=>?_,fun p hp=>absurd (show p∈([]:List (Addr×Obj)) from hp) (by simp),?_,?_⟩
 ·-- the names
  have e1':N[i]?=some x:=e1;have e2':(QX own.length ix σ)[i]?=some (some v):=e2;unfold QX at e2';by_cases hi:i<own.length
  ·rw[List.getElem?_append_left (by simpa using hi),List.getElem?_replicate] at e2';split at e2' <;> cases e2'
  ·rw[List.getElem?_append_right (by simpa using hi),List.length_replicate,Xt] at e2';rw[B.eq,List.getElem?_append_right (by omega),Xt] at e1';cases q:ix[i-own.length]? with
   | none=>rw[q] at e2'; cases e2'
   | some j=>
    rw[q] at e1' e2';have hj:j∈ix:=XA q;have hjl:=B.lt j hj;have e1'':(X.N[j]?).getD Str.empty=x:=Option.some.inj e1';have ej:X.N[j]?=some x:=by
     cases q2:X.N[j]? with
     | none=>exact absurd (List.getElem?_eq_none_iff.mp q2) (by omega)
     | some y=>rw[q2] at e1''; rw[<- e1'']; rfl
    have hfree:sc.names.lookup x=some .free:=by rw[<- e1'']; exact B.isf j hj
    have e2'':(σ[j]?).join=some v:=Option.some.inj e2';have es:σ[j]?=some (some v):=by
     cases q3:σ[j]? with
     | none=>rw[q3] at e2''; cases e2''
     | some o=>rw[q3] at e2''; exact congrArg some e2''
    have hk:=B.fr (x,.free) (wu hfree) rfl;obtain⟨m,hn,hl⟩:=I.loc;have vis:Vis X.env.scope x:=by
     rcases hk with z | z
     ·exact .inr (.inl z)
     ·exact .inr (.inr z)
    obtain⟨u,r,l⟩:=hl j x v ej es vis;refine⟨u,r,?_⟩;have lc:∃ c,X.env.cells.lookup x=some c/\s.heap.IsCell c (some u):=by
     rcases l with⟨z,_⟩ | ⟨_,c,e,z⟩
     ·have z':X.env.kindOf x=some .local:=z;rcases hk with y | y <;> (rw[z'] at y; cases y)
     ·exact⟨c,e,z⟩
    obtain⟨c,ec,hc⟩:=lc;obtain⟨d,ed⟩:=QW (env:=X.env) sc.names [] (.inl hfree);have edc:d=c:=by
     have:=QV sc.names [] hfr (fun _ _ z=>nomatch z) x d ed;rw[ec] at this;exact(Option.some.inj this).symm
    subst edc;have lk:(cellsFrom (s.heap.objs.size+1+1) sc.names (clo X.env sc.names [])).lookup x=some d:=by
     rw[qG,List.lookup_append];cases q4:(cellsFrom (s.heap.objs.size+1+1) sc.names []).lookup x with
     | none=>exact ed
     | some d'=>
      rcases yp (wu q4) with z | z
      ·have:=B.nm _ z;rw[hfree] at this;cases this
      ·cases z
    refine .inr ⟨?_,d,lk,hc.keeps k1⟩;have vis2:Vis (relabel sc X.env) x:=e3;rcases vis2 with z | z | z
    ·have z':(relabel sc X.env).names.lookup x=some .local:=z;rcases xm z' with q5 | q5
     ·rw[hfree] at q5; cases q5
     ·cases q5.2
    ·exact .inl z
    ·exact .inr z
 ·rcases cells x c e with a | a
  ·exact⟨none,(okc.empty x c a).1⟩
  ·obtain⟨v,z⟩:=I.cell x c a;exact⟨v,z.keeps k1⟩
 ·show upd H s.heap.objs.size (.lst []) (s.heap.objs.size+1)=none;rw[jz (ane (.inr (Nat.lt_succ_self _)))];exact I.hok.fresh (Nat.le_succ _)
 ·rcases cells x c e with a | a
  ·have h2:=newc x c a;rw[jz (ane (.inr (Xx (Nat.lt_add_of_pos_right (by decide)) h2)))];exact I.hok.fresh (XI (Nat.le_add_right _ 2) h2)
  ·have h2:=oldc x c a;rw[jz (ane (.inl h2))];exact I.freeC x c a
 ·exact I.hok.laid k1 (Xh _) ⟨wC _,[],0,.nil,hD⟩
 ·show (QX own.length ix σ).length=N.length;rw[B.eq];unfold QX;simp
def PIf (Y:Cx) (ifs:List Expr) (t:TT):Prop:=∀ (pins:List (Addr×Obj)) (s:Shared) (σ:St) (H:Hp) (Q:Bool->Hp->Prop),Inv Y pins σ H s->t σ H Q ->
 wpAny (model Y.prog Y.w) Y.A (forIn ifs true fun c r=>if r=true then do let ok <- isTrue c Y.env (eval c Y.env); pure (ForInStep.yield ok) else pure (ForInStep.yield r)) (TP Y pins σ Q) Y.xe s
def jiQ:TT:=fun _ H Q=>Q true H
theorem xJ {Y:Cx}:PIf Y [] jiQ:=fun _ _ σ H _ I h=>wpAny_tests_nil ⟨H,I,h⟩
theorem QY {Y:Cx}{c:Expr}{t:TT} (h:PT Y c t):PIf Y [c] t:=fun pins s σ H Q I q=>wpAny_tests_one (h pins s σ H Q I q)
def jdR (D:Addr) (J:It) (g:TG) (tc:TT) (te:TE) (σ0:St) (H1:Hp) (Q:VK):Prop:=
 ∃ W:Nat->Nat->List V->St->Hp->Prop,(∃ m,W 0 m [] σ0 (upd H1 D (.lst [])))/\∀ i m ys σ H,W i m ys σ H ->
  (J.stop i H/\Q (.ref D) H) \/ (J.go i H/\∃ N:List V->St->Hp->Prop,(∀ ys' σ' H',N ys' σ' H'->∃ m',m'<m/\W (i+1) m' ys' σ' H')/\∀ x H',J.yld i H x H'->g x σ H' fun σ2 H2=>tc σ2 H2 fun b H3=>
   if b=true then te σ2 H3 fun y H4=>H4 D=some (.lst ys)/\ys.length<sizeLine/\N (ys++[y]) σ2 (upd H4 D (.lst (ys++[y]))) else N ys σ2 H3)
section
variable {elt:Expr}{ifs:List Expr}{g:Blk->TG}{tc:Blk->TT}{te:Blk->TE} 
theorem U2 {Q:VK}{RR:Value->Addr->Result->Shared->Prop}{tn:Nat->Heap->Prop} (B:BlkOk X sc own ix N) (hc:X.calm=true)
  (I:Inv X pins σ H s) (T:Turn X.prog X.w X.K tg J fp it tn) (t0:tn 0 s.heap) (hf:∀ b∈fp,ZP X pins H b)
  (hg:∀ b:Blk,PG (blk X sc N b) tg (g b)) (hi:∀ b:Blk,PIf (blk X sc N b) ifs (tc b)) (he:∀ b:Blk,PE (blk X sc N b) elt (te b))
  (hr:∀ (b:Blk) (D:Addr),H D=none->jdR D J (g b) (tc b) (te b) (QX own.length ix σ) H Q)
  (hRR:∀ D C s' H' m,Inv X pins σ H' s'->ZP X pins H' C->s'.heap.Ns C m->Q (.ref D) H'->RR (.ref D) C (.ok .next) s') :
  wpAny (model X.prog X.w) X.A (newList []) (fun acc s₃=>wpAny (model X.prog X.w) X.A (newFunctionEnv sc X.env.globals (clo X.env sc.names []) [] X.env.qual none .none (some X.env)) (fun cenv s₄=>
   codeAny (model X.prog X.w) X.A (.compStart (.ListComp elt [⟨tg,iter,ifs,0⟩] sc pos) 0 (.ref it) acc { cenv with scope:=relabel sc X.env }) (RR acc cenv.locals) s₄) E s₃) E s:=by
 refine XN (Z8 ?_);have sz1:(s.heap.push { cls:=.type "list",data:=.seq ([]:List Value).toArray }).objs.size=s.heap.objs.size+1:=wK ..;have hlt:∀ b:Nat,b∈fp->b<s.heap.objs.size:=fun b hb=>by
  obtain⟨o,e,_⟩:=T.obj 0 _ t0 b hb;exact Xu e
 have IY:=jgt B I hf hlt;have k1:∀ b o,s.heap.get? b=some o->(pushCells ((s.heap.push { cls:=.type "list",data:=.seq ([]:List Value).toArray }).push { cls:=.type "dict",data:=.dict #[] }) sc.names).get? b=some o:=
  fun b o e=>pushCells_keeps _ _ b o (Xb _ (Xb _ e))
 dsimp only;rw[sz1];generalize hY:blk X sc N ⟨s.heap.objs.size+1,s,H,fp⟩=Y at IY;have hg':PG Y tg (g ⟨s.heap.objs.size+1,s,H,fp⟩):=hY ▸ hg _;have hi':PIf Y ifs (tc ⟨s.heap.objs.size+1,s,H,fp⟩):=hY ▸ hi _;have he':PE Y elt (te ⟨s.heap.objs.size+1,s,H,fp⟩):=hY ▸ he _;obtain⟨W,⟨m0,w0⟩,turn⟩:=hr ⟨s.heap.objs.size+1,s,H,fp⟩ s.heap.objs.size I.fresh;have eP:Y.prog=X.prog:=by rw[<- hY]; rfl
 have eW:Y.w=X.w:=by rw[<- hY]; rfl
 have eK:Y.K=X.K:=by rw[<- hY]; rfl
 have eA:Y.A=X.A:=by rw[<- hY]; rfl
 have eX:Y.xe=fun _ _=>False:=by rw[<- hY]; rfl
 have eC:Y.calm=true:=by rw[<- hY]; exact hc
 have eL:Y.env.locals=s.heap.objs.size+1:=by rw[<- hY]; rfl
 have eF:Y.fs=frs X.stack:=by rw[<- hY]; rfl
 have eE:Y.ex=fp:=by rw[<- hY]; rfl
 have eN:Y.pn=[]:=by rw[<- hY]; rfl
 have eS:Y.s₀=s:=by rw[<- hY]; rfl
 have eH:Y.H₀=H:=by rw[<- hY]; rfl
 have eEnv:compEnvC sc (cellsFrom (s.heap.objs.size+1+1) sc.names (clo X.env sc.names [])) (s.heap.objs.size+1) X.env=Y.env:=by rw[<- hY]; rfl
 have fpY:∀ {H':Hp},(∀ b∈fp,H' b=none)->∀ b∈fp,ZP Y [] H' b:=fun hn b hb=>by
  refine⟨hn b hb,?_,?_,.inl (by rw[eE]; exact hb),fun x c e=>?_,fun p hp=>?_⟩
  ·rw[eL];exact ane (.inl (Nat.lt_succ_of_lt (hlt b hb)))
  ·rw[eF];intro z;rcases XB.mp (I.stkSub b z) with q | q
   ·exact(hf b hb).2.1 q
   ·exact(hf b hb).2.2.1 q
  ·exact(IY.ok.exf b (by rw[eE]; exact hb)).2 x c e
  ·rw[eN] at hp;exact absurd (show p∈([]:List (Addr×Obj)) from hp) (by simp)
 have fpC:∀ {σ':St}{H':Hp}{s':Shared},Inv Y [] σ' H' s'->ZP X pins H' (s.heap.objs.size+1):=fun {σ' H' s'} J'=>by
  refine⟨by have:=J'.free; rw[eL] at this; exact this,?_,I.nofs (Nat.le_succ _),.inr (XI I.sz (Nat.le_succ _)),fun x c e z=>?_,fun p hp z=>?_⟩
  ·exact ane (.inr (Nat.lt_succ_of_lt I.lt))
  ·obtain⟨v,q⟩:=I.cell x c e;exact ane (.inl (Nat.lt_succ_of_lt q.lt)) z
  ·exact ane (.inl (Nat.lt_succ_of_lt (Xu (I.pin p hp).1))) z
 have back:∀ {σ':St}{H':Hp}{s':Shared},Inv Y [] σ' H' s'->Inv X pins σ H' s':=fun {σ' H' s'} J'=>by
  refine I.call' (ch:=fp) ?_ ?_ ?_ J'.bare fun b hb=>?_
  ·have:=J'.os;rw[eS] at this;exact this
  ·have:=J'.base;rw[eS,eH,eF,eE] at this;exact this
  ·have:=J'.hok;rw[eP,eW] at this;exact this
  ·obtain⟨f0,f1,f2,f3,f4,f5⟩:=hf b hb;exact⟨f3,f1,f4,f5⟩
 have tests:=hi';have loop:codeAny (model X.prog X.w) X.A (.compLoop (.ListComp elt [⟨tg,iter,ifs,0⟩] sc pos) 0 (.ref it) (.ref s.heap.objs.size) Y.env) (RR (.ref s.heap.objs.size) (s.heap.objs.size+1))
   { s with heap:=pushCells ((s.heap.push { cls:=.type "list",data:=.seq ([]:List Value).toArray }).push { cls:=.type "dict",data:=.dict #[] }) sc.names }:=by
  refine U1 (fun n s'=>∃ i ys σ' H',Inv Y [] σ' H' s'/\tn i s'.heap/\(∀ b∈fp,H' b=none)/\W i n ys σ' H') ?_ m0
   ⟨0,[],_,_,IY,T.keep _ _ _ t0 fun b _ o e=>k1 b o e,fun b hb=>?_,w0⟩
  ·rintro n s3 ⟨i,ys,σ3,H3,I3,st3,fr3,w3⟩;rcases turn i n ys σ3 H3 w3 with⟨stop,qn⟩ | ⟨go,NN,hN,step⟩
   ·have td:=T.done Y eP eW eK eC i [] s3 σ3 H3 (fun _ _=>False) I3 (fpY fr3) st3 stop;rw[eA] at td;refine thn td fun r s4 ⟨hr',I4⟩=>?_;subst hr';obtain⟨m,hn,_⟩:=I4.loc;rw[eL] at hn;exact hRR _ _ s4 H3 m (back I4) (fpC I4) hn qn
   ·have ti:=T.item Y eP eW eK eC i [] s3 σ3 H3 (fun _ _=>False) I3 (fpY fr3) st3 go;rw[eA] at ti;refine thn ti fun r s4 ⟨u,hr',h4⟩=>?_;subst hr';refine thn h4 fun _ s5 ⟨x,H5,I5,r5,y5,st5,fr5⟩=>?_;have I5':=I5.pinned (fpY fr5) (T.obj _ _ st5);have hgx:=hg' _ s5 σ3 H5 x u _ I5' r5 (step x H5 y5);rw[eP,eW,eA,eX] at hgx;refine thn hgx fun _ s6 ⟨σ6,H6,I6,q6⟩=>?_;have hix:=hi' _ s6 σ6 H6 _ I6 q6;rw[eP,eW,eA,eX] at hix;refine thn hix fun ok s7 ⟨H7,I7,q7⟩=>?_;have again:∀ {σ8:St}{H8:Hp}{s8:Shared}{ys':List V},Inv Y ([]++UN fp s5.heap) σ8 H8 s8->NN ys' σ8 H8->∃ m,m<n/\∃ i ys σ' H',Inv Y [] σ' H' s8/\tn i s8.heap/\(∀ b∈fp,H' b=none)/\W i m ys σ' H':=fun {σ8 H8 s8 ys'} I8 n8=>by
     obtain⟨m',hm,w8⟩:=hN ys' σ8 H8 n8;refine⟨m',hm,i+1,ys',σ8,H8,I8.unpinned,T.keep _ _ _ st5 fun b hb o e=>(I8.pin (b,o) (XV _ (XV _ (zf hb e)))).1,fun b hb=>?_,w8⟩;obtain⟨o,e,d⟩:=T.obj _ _ st5 b hb;exact(I8.pin (b,o) (XV _ (XV _ (zf hb e)))).2.1
    cases ok with
    | false=>
     rw[if_neg Xy] at q7 ⊢;exact again I7 q7
    | true=>
     rw[if_pos rfl] at q7 ⊢;have hex:=he' _ s7 σ6 H7 _ I7 q7;rw[eP,eW,eA,eX] at hex;refine thn hex fun y s8 ⟨yv,H8,I8,r8,hD8,hz8,n8⟩=>?_;have ap:=qO (X:=Y) _ s8 σ6 H8 (.ref s.heap.objs.size) [yv] (.ref s.heap.objs.size) [y] (fun v H9=>H9=upd H8 s.heap.objs.size (.lst (ys++[yv]))) I8 rfl (.cons r8 .nil) ⟨_,ys,yv,rfl,rfl,hD8,hz8,rfl⟩;rw[eP,eW,eA,eX] at ap;refine thn ap fun _ s9 ⟨_,H9,I9,_,e9⟩=>?_;subst e9;exact again I9 n8
  ·rw[jz (ane (.inl (hlt b hb)))];exact(hf b hb).1
 have st:tn 0 (pushCells ((s.heap.push { cls:=.type "list",data:=.seq ([]:List Value).toArray }).push { cls:=.type "dict",data:=.dict #[] }) sc.names):=T.keep _ _ _ t0 fun b _ o e=>k1 b o e;have fin:=codeAny_compStart_list (elt:=elt) (target:=tg) (iter:=iter) (ifs:=ifs) (rest:=[]) (scope:=sc) (pos:=pos) loop (T.self _ 0 _ _ _ st loop);rw[<- eEnv] at fin;exact fin
def Gj (wi:TI) (n:Nat) (ix:List Nat) (g:Blk->TG) (tc:Blk->TT) (te:Blk->TE):TE:=fun σ H Q=>wi σ H fun J H1=>∀ (b:Blk) (D:Addr),H1 D=none->jdR D J (g b) (tc b) (te b) (QX n ix σ) H1 Q
theorem xy (B:BlkOk X sc own ix N) (hc:X.calm=true) (hiter:PI X tg iter wi) (hg:∀ b:Blk,PG (blk X sc N b) tg (g b)) (hi:∀ b:Blk,PIf (blk X sc N b) ifs (tc b)) (he:∀ b:Blk,PE (blk X sc N b) elt (te b))
  (hs:∀ x,foldedSetIterable iter X.env x=pure x:=by intro _; rfl):PE X (.ListComp elt [⟨tg,iter,ifs,0⟩] sc pos) (Gj wi own.length ix g tc te):=by
 intro pins s σ H Q I h;have hfr:∀ x∈sc.names,x.2=.free->∃ c,X.env.cells.lookup x.1=some c:=fun x hx e=>I.ok.has x.1 (B.fr x hx e);rw[eval_ListComp];refine wpAny_comprehension_free (use:=none) (g:=⟨tg,iter,ifs,0⟩) (gs:=[]) rfl hs (zS hfr) B.kind (fun x hx e=>by rw[B.nm x hx,e]) ?_;refine thn (hiter pins s σ H _ I h) fun v s1 h1=>thn h1 fun itv s2 h2=>?_;obtain⟨it,fp,tn,J,H2,e,I2,T,st2,f2,q⟩:=h2;subst e;refine U2 (Q:=Q) B hc I2 T st2 f2 hg hi he q fun D C s' H' m I' fC hn qq=>?_;exact⟨m,hn,fun h' hs'=>⟨.ref D,H',(I'.turned (t':=s'.toks) (fun b o hb e=>(hs'.2 b hb).trans e) fC.1 fC.2.1 fC.2.2.2.1 fC.2.2.2.2.1 fC.2.2.2.2.2),rfl,qq⟩⟩
theorem Gk {y:Str}{py spos:Pos} (B:BlkOk X sc own ix N) (hc:X.calm=true) (hiter:PI X tg iter wi) (hg:∀ b:Blk,PG (blk X sc N b) tg (g b)) (hi:∀ b:Blk,PIf (blk X sc N b) ifs (tc b)) (he:∀ b:Blk,PE (blk X sc N b) elt (te b))
  (hN:X.N.Nodup) (hy:X.N[i]?=some y) (hl:X.env.scope.names.lookup y=some .local)
  (hsw:swapsWith (.ListComp elt [⟨tg,iter,ifs,0⟩] sc pos) (some (.Name y py)) spos.line X.env=pure true:=by rfl)
  (hs:∀ x,foldedSetIterable iter X.env x=pure x:=by intro _; rfl):PS X (.Assign [.Name y py] (.ListComp elt [⟨tg,iter,ifs,0⟩] sc pos) spos) (GN (Gj wi own.length ix g tc te) (kF i)):=by
 intro pins s σ H D0 I h;have hfr:∀ x∈sc.names,x.2=.free->∃ c,X.env.cells.lookup x.1=some c:=fun x hx e=>I.ok.has x.1 (B.fr x hx e);rw[exec_Assign_Name_used _ _ _ _ hsw];refine Xa (wpAny_standAt (Xa ?_));show wpAny _ _ (do let _ <- comprehension (.ListComp elt [⟨tg,iter,ifs,0⟩] sc pos) sc X.env _ (newList []) false (eval iter X.env) (some (assign (.Name y py) X.env))) _ _ s;refine Xa (XW (wpAny_comprehension_free (use:=some (assign (.Name y py) X.env)) (Q:=fun _ s'=>SP X pins D0 .next s') (g:=⟨tg,iter,ifs,0⟩) (gs:=[]) rfl hs (zS hfr) B.kind (fun x hx e=>by rw[B.nm x hx,e]) ?_)
  (fun _ s' hq=>Xd (Xd hq)) fun _ _ e=>e)
 refine thn (hiter pins s σ H _ I h) fun v s1 h1=>thn h1 fun itv s2 h2=>?_;obtain⟨it,fp,tn,J,H2,e,I2,T,st2,f2,q⟩:=h2;subst e;refine U2 (Q:=fun x H1=>kF i x σ H1 D0.nx) B hc I2 T st2 f2 hg hi he q fun D C s' H' m I' fC hn qq=>?_;show wpAny _ _ (assign (.Name y py) X.env (.ref D)) _ _ _;refine wpAny_assign_Name (UH (v:=.ref D) I' hN hy (.inl hl) rfl (fun s'' I'' sb=>?_) (.inr hl));obtain⟨a,sb,ha⟩:=sb;have hCa:C≠a:=by
  rcases ha with z | z
  ·rw[z]; exact fC.2.1
  ·exact fun q=>fC.2.2.2.2.1 y a z q.symm
 refine⟨m,hn.sameBut sb hCa,fun h' hs'=>⟨_,H',I''.turned (t':=s''.toks) (fun b o hb e=>(hs'.2 b hb).trans e) fC.1 fC.2.1 fC.2.2.2.1 fC.2.2.2.2.1 fC.2.2.2.2.2,qq⟩⟩
end
inductive EqR (K:W.Frag) (H:Hp):Nat->V->V->Bool->Prop where
 | flat {n:Nat}{x y:V}:UY x=true->UY y=true->EqR K H n x y (eqV x y)
 | lst {n:Nat}{a b:Addr}{xs ys:List V}{e:Nat->Bool}:SqL K H a xs->SqL K H b ys->xs.length=ys.length->(∀ (j:Nat) x y,xs[j]?=some x->ys[j]?=some y->EqR K H n x y (e j)) ->
   EqR K H (n+1) (.ref a) (.ref b) ((List.range xs.length).all e)
 | lstL {n:Nat}{a b:Addr}{xs ys:List V}:SqL K H a xs->SqL K H b ys->xs.length≠ys.length->EqR K H (n+1) (.ref a) (.ref b) false
 | tup {n:Nat}{a b:Addr}{xs ys:List V}{e:Nat->Bool}:SqT K H a xs->SqT K H b ys->(∀ (j:Nat) x y,xs[j]?=some x->ys[j]?=some y->EqR K H n x y (e j)) ->
   EqR K H (n+1) (.ref a) (.ref b) ((List.range (min xs.length ys.length)).all e&&xs.length==ys.length)
theorem jcl:∀ {x:V},UY x=true->eqV x x=true
 | .non,_=>rfl
 | .bl b,_=>by simp[eqV]
 | .int b,_=>by simp[eqV]
 | .str b,_=>by simp[eqV]
 | .byt _,h=>by cases h
 | .flt _,h=>by cases h
 | .ref _,h=>by cases h
 | .ty _,h=>by cases h
theorem EqR.refl_true (I:Inv X pins σ H s):∀ {n:Nat}{x y:V}{b:Bool},EqR X.K H n x y b->x=y->b=true:=by
 intro n x y b h
 induction h with
 | flat f1 f2=>intro e; subst e; exact jcl f1
 | lst h1 h2 hl h3 ih=>
  intro e;cases e;have:=I.list_inj h1 h2;subst this;rw[wg];intro j hj;have hj':=Xv.mp hj;exact ih j _ _ (Xg hj') (Xg hj') rfl
 | lstL h1 h2 hl=>
  intro e;cases e;exact absurd (by rw[I.list_inj h1 h2]) hl
 | tup h1 h2 h3 ih=>
  intro e;cases e;have:=I.tuple_inj h1 h2;subst this;rw[X6];refine⟨?_,by simp⟩;rw[wg];intro j hj;have hj':=Xv.mp hj;rw[Nat.min_self] at hj';exact ih j _ _ (Xg hj') (Xg hj') rfl
theorem G7 (A:Around):A.in1.units=A.units+1:=rfl
theorem EqR.at (I:Inv X pins σ H s):∀ {n:Nat}{x y:V}{b:Bool},EqR X.K H n x y b->∀ {u v:Value}{A:Around},RelV x u->RelV y v->A.units+n<cLine ->
  SeqAt.EqAt A s u v b/\(UY x=false->SeqAt.RcAt A s u v b/\SeqAt.RcNeAt A s u v (!b)):=by
 intro n x y b h
 induction h with
 | flat f1 f2=>intro u v A r1 r2 hu; exact ⟨jgq r1 r2 f1 f2,fun z=>by rw[f1] at z; cases z⟩
 | @lst n a c xs ys e h1 h2 hl h3 ih=>
  intro u v A r1 r2 hu;cases r1;cases r2;obtain⟨its,q1,p1,_⟩:=I.list h1;obtain⟨its',q2,p2,_⟩:=I.list h2;have l1:=q1.length;have l2:=q2.length;have key:∀ j (g1:j<its.toArray.size) (g2:j<its'.toArray.size),SeqAt.EqAt A.in1 s its.toArray[j] its'.toArray[j] (e j):=fun j g1 g2=>by
   have g1':j<its.length:=by simpa using g1
   have g2':j<its'.length:=by simpa using g2
   obtain⟨x,hx,rx⟩:∃ x,xs[j]?=some x/\RelV x its[j]:=by
    obtain⟨u',hu',ru'⟩:=q1.get (Xg (by omega:j<xs.length));rw[Xg g1'] at hu';cases hu';exact⟨_,Xg (by omega),ru'⟩
   obtain⟨y,hy,ry⟩:∃ y,ys[j]?=some y/\RelV y its'[j]:=by
    obtain⟨u',hu',ru'⟩:=q2.get (Xg (by omega:j<ys.length));rw[Xg g2'] at hu';cases hu';exact⟨_,Xg (by omega),ru'⟩
   exact(ih j x y hx hy rx ry (by rw[G7]; omega)).1
  have hz:its.toArray.size=its'.toArray.size:=by simp; omega
  have hu':A.units<cLine:=by omega
  have e1:(List.range its.toArray.size).all e=(List.range xs.length).all e:=by rw[Xs,<- l1]
  have rc:SeqAt.RcAt A s (.ref a) (.ref c) ((List.range xs.length).all e):=by rw[<- e1]; exact SeqAt.RcAt.lists p1.isList p2.isList hz hu' key
  have rn:SeqAt.RcNeAt A s (.ref a) (.ref c) (!(List.range xs.length).all e):=by rw[<- e1]; exact SeqAt.RcNeAt.lists p1.isList p2.isList hz hu' key
  refine⟨?_,fun _=>⟨rc,rn⟩⟩;by_cases hac:a=c
  ·subst hac;have:(List.range xs.length).all e=true:=EqR.refl_true I (EqR.lst h1 h2 hl h3) rfl;rw[this];exact SeqAt.EqAt.same _
  ·exact SeqAt.EqAt.of_refs hac rc
 | @lstL n a c xs ys h1 h2 hl=>
  intro u v A r1 r2 hu;cases r1;cases r2;obtain⟨its,q1,p1,_⟩:=I.list h1;obtain⟨its',q2,p2,_⟩:=I.list h2;have l1:=q1.length;have l2:=q2.length;have hz:(its.toArray.size != its'.toArray.size)=true:=by simp; omega
  have hu':A.units<cLine:=by omega
  have rc:SeqAt.RcAt A s (.ref a) (.ref c) false:=SeqAt.RcAt.lists_lengths p1.isList p2.isList hz hu';refine⟨SeqAt.EqAt.of_refs (fun z=>?_) rc,fun _=>⟨rc,SeqAt.RcNeAt.lists_lengths p1.isList p2.isList hz hu'⟩⟩;subst z;exact hl (by rw[I.list_inj h1 h2])
 | @tup n a c xs ys e h1 h2 h3 ih=>
  intro u v A r1 r2 hu;cases r1;cases r2;obtain⟨its,q1,p1,_⟩:=I.tuple h1;obtain⟨its',q2,p2,_⟩:=I.tuple h2;have l1:=q1.length;have l2:=q2.length;have key:∀ j (g1:j<its.toArray.size) (g2:j<its'.toArray.size),SeqAt.EqAt A.in1 s its.toArray[j] its'.toArray[j] (e j):=fun j g1 g2=>by
   have g1':j<its.length:=by simpa using g1
   have g2':j<its'.length:=by simpa using g2
   obtain⟨x,hx,rx⟩:∃ x,xs[j]?=some x/\RelV x its[j]:=by
    obtain⟨u',hu',ru'⟩:=q1.get (Xg (by omega:j<xs.length));rw[Xg g1'] at hu';cases hu';exact⟨_,Xg (by omega),ru'⟩
   obtain⟨y,hy,ry⟩:∃ y,ys[j]?=some y/\RelV y its'[j]:=by
    obtain⟨u',hu',ru'⟩:=q2.get (Xg (by omega:j<ys.length));rw[Xg g2'] at hu';cases hu';exact⟨_,Xg (by omega),ru'⟩
   exact(ih j x y hx hy rx ry (by rw[G7]; omega)).1
  have hu':A.units<cLine:=by omega
  have e1:((List.range (min its.toArray.size its'.toArray.size)).all e&&its.toArray.size==its'.toArray.size)=((List.range (min xs.length ys.length)).all e&&xs.length==ys.length):=by rw[Xs,Xs,<- l1,<- l2]
  have rc:SeqAt.RcAt A s (.ref a) (.ref c) ((List.range (min xs.length ys.length)).all e&&xs.length==ys.length):=by rw[<- e1]; exact SeqAt.RcAt.tuples p1 p2 hu' key
  have rn:SeqAt.RcNeAt A s (.ref a) (.ref c) (!((List.range (min xs.length ys.length)).all e&&xs.length==ys.length)):=by rw[<- e1]; exact SeqAt.RcNeAt.tuples p1 p2 hu' key
  refine⟨?_,fun _=>⟨rc,rn⟩⟩;by_cases hac:a=c
  ·subst hac;have:((List.range (min xs.length ys.length)).all e&&xs.length==ys.length)=true:=EqR.refl_true I (EqR.tup h1 h2 h3) rfl;rw[this];exact SeqAt.EqAt.same _
  ·exact SeqAt.EqAt.of_refs hac rc
noncomputable def bq {α:Type} (a b:α):Bool:=@decide (a=b) (Classical.propDecidable (a=b))
theorem bq_iff {a b:α}:bq a b=true ↔ a=b:=by unfold bq; simp
theorem jcm {a b:α} (h:¬ a=b):bq a b=false:=by
 cases e:bq a b with
 | false=>rfl
 | true=>exact absurd (bq_iff.mp e) h
theorem WU [DecidableEq α] {a b:α}:bq a b=decide (a=b):=by
 rw[XM,bq_iff,Xw]
structure Cod (α:Type) where
 dp:Nat
 rep:W.Frag->Hp->α->V->Prop
 mono:∀ {K H H' a x},Same H H'->rep K H a x->rep K H' a x
 eqr:∀ {K H a b x y},rep K H a x->rep K H b y->EqR K H dp x y (bq a b)
def cInt:Cod Int where
 dp:=0
 rep:=fun _ _ i x=>x=.int i
 mono:=fun _ h=>h
 eqr:=fun {K H a b x y} h1 h2=>by
  subst h1; subst h2;have:bq a b=eqV (.int a) (.int b):=by rw[WU,eqV,Bool.beq_eq_decide_eq]
  rw[this];exact EqR.flat rfl rfl
def cBl:Cod Bool where
 dp:=0
 rep:=fun _ _ i x=>x=.bl i
 mono:=fun _ h=>h
 eqr:=fun {K H a b x y} h1 h2=>by
  subst h1; subst h2;have:bq a b=eqV (.bl a) (.bl b):=by rw[WU,eqV,Bool.beq_eq_decide_eq]
  rw[this];exact EqR.flat rfl rfl
theorem Paired.getP {F:α->β->Prop}:∀ {l:List α}{m:List β}{j:Nat}{x:α}{y:β},Paired F l m->l[j]?=some x->m[j]?=some y->F x y
 | _,_,_,_,_,.nil,h,_=>by simp at h
 | _,_,0,_,_,.cons r _,h,h'=>by simp at h h'; subst h; subst h'; exact r
 | _,_,j+1,_,_,.cons _ t,h,h'=>Paired.getP (j:=j) t (by simpa using h) (by simpa using h')
theorem jgu (l m:List α) (hl:l.length=m.length):(List.range l.length).all (fun j=>bq (l[j]?) (m[j]?))=bq l m:=by
 rw[XM,wg,bq_iff];simp only[bq_iff,Xv];constructor
 ·intro h;refine List.ext_getElem? fun j=>?_;by_cases hj:j<l.length
  ·exact h j hj
  ·rw[List.getElem?_eq_none (by omega),List.getElem?_eq_none (by omega)]
 ·intro h j _;rw[h]
theorem Z9 (c:Cod α) {m:List α} (p:Paired (c.rep K H) l xs) (q:Paired (c.rep K H) m ys) (j:Nat) (x y:V) (hx:xs[j]?=some x) (hy:ys[j]?=some y) :
  EqR K H c.dp x y (bq (l[j]?) (m[j]?)):=by
 have h1:j<l.length:=by rw[p.length]; exact (List.getElem?_eq_some_iff.mp hx).1
 have h2:j<m.length:=by rw[q.length]; exact (List.getElem?_eq_some_iff.mp hy).1
 have e1:l[j]?=some l[j]:=Xg h1;have e2:m[j]?=some m[j]:=Xg h2;have r:=c.eqr (Paired.getP p e1 hx) (Paired.getP q e2 hy);have:bq (l[j]?) (m[j]?)=bq l[j] m[j]:=by
  rw[XM,bq_iff,bq_iff,e1,e2,Option.some.injEq]
 rw[this];exact r
def ji2 (c:Cod α):Cod (List α) where
 dp:=c.dp+1
 rep:=fun K H l x=>∃ a xs,x=.ref a/\SqL K H a xs/\Paired (c.rep K H) l xs
 mono:=fun e ⟨a,xs,e1,h,p⟩=>⟨a,xs,e1,e.seq h,Paired.mapP p fun _ _=>c.mono e⟩
 eqr:=fun {K H l m x y} ⟨a,xs,e1,h1,p1⟩ ⟨b,ys,e2,h2,p2⟩=>by
  subst e1; subst e2;have g1:=p1.length;have g2:=p2.length;by_cases hl:l.length=m.length
  ·have r:=EqR.lst (n:=c.dp) h1 h2 (by omega) (Z9 c p1 p2);rw[<- g1,jgu l m hl] at r;exact r
  ·rw[jcm (fun e=>hl (by rw[e]))];exact EqR.lstL h1 h2 (by omega)
def jhX (K:W.Frag) (neg:Bool):R2:=fun x y H Q=>∃ n b,EqR K H n x y b/\n<=100/\UY x=false/\Q (.bl (if neg then !b else b)) H
section
theorem jgv (hu:X.A.units+200<cLine):OpR X (compareOp .Eq) (jhX X.K false):=by
 intro pins s σ H x y v u Q I rx ry h;obtain⟨n,b,e,hn,hf,q⟩:=h;obtain⟨_,h2⟩:=EqR.at I e (A:=X.A) rx ry (by omega);exact(h2 hf).1 X.prog X.w X.xe _ ⟨.bl b,H,I,rfl,q⟩
theorem WV (hu:X.A.units+200<cLine):OpR X (compareOp .NotEq) (jhX X.K true):=by
 intro pins s σ H x y v u Q I rx ry h;obtain⟨n,b,e,hn,hf,q⟩:=h;obtain⟨_,h2⟩:=EqR.at I e (A:=X.A) rx ry (by omega);exact(h2 hf).2 X.prog X.w X.xe _ ⟨.bl (!b),H,I,rfl,q⟩
theorem Cod.inj (c:Cod α) (I:Inv X pins σ H s) {a b:α}{x:V} (h1:c.rep X.K H a x) (h2:c.rep X.K H b x):a=b:=
 bq_iff.mp (EqR.refl_true I (c.eqr h1 h2) rfl)
theorem QZ {F:α->V->Prop}:∀ {l:List α}{xs:List V}{us:List Value},Paired F l xs->Vals xs us->∀ u∈us,∃ a∈l,∃ x,F a x/\RelV x u
 | _,_,_,.nil,.nil,u,hu=>by cases hu
 | _,_,_,.cons r t,.cons r' t',u,hu=>by
  rcases XB.mp hu with rfl | hu
  ·exact⟨_,Xn,_,r,r'⟩
  ·obtain⟨a,ha,x,h⟩:=QZ t t' u hu;exact⟨a,Xj _ ha,x,h⟩
theorem WW {F:α->V->Prop}:∀ {l:List α}{xs:List V}{us:List Value},Paired F l xs->Vals xs us->∀ a∈l,∃ u∈us,∃ x,F a x/\RelV x u
 | _,_,_,.nil,.nil,u,hu=>by cases hu
 | _,_,_,.cons r t,.cons r' t',a,ha=>by
  rcases XB.mp ha with rfl | ha
  ·exact⟨_,Xn,_,r,r'⟩
  ·obtain⟨u,hu,x,h⟩:=WW t t' a ha;exact⟨u,Xj _ hu,x,h⟩
def jgw (K:W.Frag) (neg:Bool):R2:=fun x y H Q=>∃ (α:Type) (c:Cod α) (a:α) (l:List α) (p:Addr) (xs:List V) (k:Bool),c.dp<=100/\c.rep K H a x/\y=.ref p/\(SqL K H p xs \/ SqT K H p xs)/\Paired (c.rep K H) l xs /\
 (k=true ↔ a∈l)/\Q (.bl (if neg then !k else k)) H
open Classical in
theorem Q0 {c:Cod α}{x:V}{a:α}{k:Bool} (hu:X.A.units+200<cLine) (I:Inv X pins σ H s) (hn:c.dp<=100) (ra:c.rep X.K H a x) (rx:RelV x v)
  (p:Paired (c.rep X.K H) l xs) (r:Vals xs us) (hk:k=true ↔ a∈l) :
  (∀ y,y∈us.toArray->SeqAt.EqAt X.A.in1 s y v (decide (∃ z,RelV z y/\c.rep X.K H a z)))/\(us.toArray.any fun y=>decide (∃ z,RelV z y/\c.rep X.K H a z))=k:=by
 constructor
 ·intro y hy;obtain⟨b,hb,z,hz,rz⟩:=QZ p r y (by simpa using hy);have q:=(EqR.at I (c.eqr hz ra) (A:=X.A.in1) rz rx (by rw[G7]; omega)).1;have e:bq b a=decide (∃ z,RelV z y/\c.rep X.K H a z):=by
   rw[XM,bq_iff,Xw];constructor
   ·intro e; subst e; exact ⟨z,rz,hz⟩
   ·rintro⟨z',rz',hz'⟩;have:z'=z:=rz'.inj rz;subst this;exact c.inj I hz hz'
  rw[<- e];exact q
 ·rw[XM,hk,Array.any_eq_true'];simp only[Xw];constructor
  ·rintro⟨y,hy,z,rz,hz⟩;obtain⟨b,hb,z',hz',rz'⟩:=QZ p r y (by simpa using hy);have:z'=z:=rz'.inj rz;subst this;rw[c.inj I hz hz'];exact hb
  ·intro ha;obtain⟨u,hu',z,hz,rz⟩:=WW p r a ha;exact⟨u,by simpa using hu',z,rz,hz⟩
open Classical in
theorem Z_ (hu:X.A.units+200<cLine):OpR X (compareOp .In) (jgw X.K false):=by
 intro pins s σ H x y v u Q I rx ry h;obtain⟨α,c,a,l,p,xs,k,hn,ra,e,hq,pr,hk,q⟩:=h;subst e;cases ry;rcases hq with hq | hq
 ·obtain⟨its,r,pl,hz⟩:=I.list hq;obtain⟨h1,h2⟩:=Q0 hu I hn ra rx pr r hk;exact SeqAt.in_listAt _ pl.isList h1 ⟨.bl k,H,I,by rw[h2]; rfl,q⟩
 ·obtain⟨its,r,pl,hz⟩:=I.tuple hq;obtain⟨h1,h2⟩:=Q0 hu I hn ra rx pr r hk;exact SeqAt.in_tupleAt _ pl h1 ⟨.bl k,H,I,by rw[h2]; rfl,q⟩
open Classical in
theorem U3 (hu:X.A.units+200<cLine):OpR X (compareOp .NotIn) (jgw X.K true):=by
 intro pins s σ H x y v u Q I rx ry h;obtain⟨α,c,a,l,p,xs,k,hn,ra,e,hq,pr,hk,q⟩:=h;subst e;cases ry;rcases hq with hq | hq
 ·obtain⟨its,r,pl,hz⟩:=I.list hq;obtain⟨h1,h2⟩:=Q0 hu I hn ra rx pr r hk;exact SeqAt.notIn_listAt _ pl.isList h1 ⟨.bl (!k),H,I,by rw[h2]; rfl,q⟩
 ·obtain⟨its,r,pl,hz⟩:=I.tuple hq;obtain⟨h1,h2⟩:=Q0 hu I hn ra rx pr r hk;exact SeqAt.notIn_tupleAt _ pl h1 ⟨.bl (!k),H,I,by rw[h2]; rfl,q⟩
theorem V0 {d:α} (h:i<l.length):l.getD i d=l[i]:=by
 rw[X1,Xg h];rfl
theorem Q1 (bs:List Bool):(List.range bs.length).all (fun i=>bs.getD i false)=bs.all id:=by
 rw[XM,wg,wg];constructor
 ·intro h b hb;obtain⟨j,hj,e⟩:=List.mem_iff_getElem.mp hb;have:=h j (Xv.mpr hj);rw[V0 hj,e] at this;exact this
 ·intro h j hj;have hj':=Xv.mp hj;rw[V0 hj'];exact h _ (List.getElem_mem hj')
theorem Q2 (bs:List Bool):(List.range bs.length).any (fun i=>bs.getD i false)=bs.any id:=by
 rw[XM,List.any_eq_true,List.any_eq_true];constructor
 ·rintro⟨j,hj,h⟩;have hj':=Xv.mp hj;rw[V0 hj'] at h;exact⟨_,List.getElem_mem hj',h⟩
 ·rintro⟨b,hb,h⟩;obtain⟨j,hj,e⟩:=List.mem_iff_getElem.mp hb;exact⟨j,Xv.mpr hj,by rw[V0 hj,e]; exact h⟩
theorem G8 {P:Program}{bs:List Bool} (r:Vals (bs.map V.bl) us):TruthOf P w A (fun i v=>us.toArray[i]?=some v) (fun i=>bs.getD i false):=by
 intro i v s Q E hv hq;have hi:i<us.length:=by
  have:=(Array.getElem?_eq_some_iff.mp hv).1;simpa using this
 have hl:=r.length;rw[Xp] at hl;have hb:i<bs.length:=by omega
 obtain⟨u,hu,ru⟩:=r.get (i:=i) (x:=.bl bs[i]) (by rw[Xt,Xg hb]; rfl);have:u=v:=by
  have hv':us[i]?=some v:=by simpa using hv
  rw[hu] at hv';exact Option.some.inj hv'
 subst this;cases ru;refine X7 ?_;have e:bs.getD i false=bs[i]:=V0 hb;rw[<- e];exact hq
theorem Q3 (hc:X.calm=true):zw X (.builtin "all") (fun xs H Q=>∃ (p:Addr) (bs:List Bool),xs=[.ref p]/\SqL X.K H p (bs.map V.bl)/\Q (.bl (bs.all id)) H):=by
 intro pins s σ H xs us Q I r h;obtain⟨p,bs,e,hq,q⟩:=h;subst e;obtain⟨u,rfl,rx⟩:=r.one;cases rx;obtain⟨its,rv,pl,hz⟩:=I.list hq;have hl:=rv.length;rw[Xp] at hl;have hp:p<s.heap.objs.size:=by
  obtain⟨o,e,_⟩:=pl.isList;exact Xu e
 refine call_all_walk (wpAny_pyIter_list pl.isList ?_);refine⟨_,_,_,_,_,_,_,rfl,Walks.list (A:=X.A.in1) (I.ok.hd hc) s.heap.objs.size p (XF hp) its.toArray,⟨⟨_,Xo _ rfl,rfl,rfl⟩,pl.isList.at fun o e=>Xb _ e⟩,G8 rv,fun h' tk hk=>?_⟩;refine⟨.bl (bs.all id),H,I.kept (t':=tk) fun b o e=>hk b o ?_ (Xb _ e),?_,q⟩
 ·intro z;rcases XB.mp z with z | z
  ·exact absurd (z ▸ Xu e) (wJ _)
  ·cases z
 ·show Value.bool _=Value.bool _;rw[Xs,<- hl,Q1]
theorem jcn (hc:X.calm=true):zw X (.builtin "any") (fun xs H Q=>∃ (p:Addr) (bs:List Bool),xs=[.ref p]/\SqL X.K H p (bs.map V.bl)/\Q (.bl (bs.any id)) H):=by
 intro pins s σ H xs us Q I r h;obtain⟨p,bs,e,hq,q⟩:=h;subst e;obtain⟨u,rfl,rx⟩:=r.one;cases rx;obtain⟨its,rv,pl,hz⟩:=I.list hq;have hl:=rv.length;rw[Xp] at hl;have hp:p<s.heap.objs.size:=by
  obtain⟨o,e,_⟩:=pl.isList;exact Xu e
 refine call_any_walk (wpAny_pyIter_list pl.isList ?_);refine⟨_,_,_,_,_,_,_,rfl,Walks.list (A:=X.A.in1) (I.ok.hd hc) s.heap.objs.size p (XF hp) its.toArray,⟨⟨_,Xo _ rfl,rfl,rfl⟩,pl.isList.at fun o e=>Xb _ e⟩,G8 rv,fun h' tk hk=>?_⟩;refine⟨.bl (bs.any id),H,I.kept (t':=tk) fun b o e=>hk b o ?_ (Xb _ e),?_,q⟩
 ·intro z;rcases XB.mp z with z | z
  ·exact absurd (z ▸ Xu e) (wJ _)
  ·cases z
 ·show Value.bool _=Value.bool _;rw[Xs,<- hl,Q2]
theorem G9 (ns:List Int):∀ k,k<=ns.length->preSum (fun i=>ns.getD i 0) k=(ns.take k).sum
 | 0,_=>by simp[preSum]
 | k+1,h=>by
  rw[preSum,G9 ns k (by omega),List.take_succ_eq_append_getElem (by omega),List.sum_append,V0 (by omega)];simp
theorem WX (hc:X.calm=true):zw X (.builtin "sum") (fun xs H Q=>∃ (p:Addr) (ns:List Int),xs=[.ref p]/\SqL X.K H p (ns.map V.int)/\Q (.int ns.sum) H):=by
 intro pins s σ H xs us Q I r h;obtain⟨p,ns,e,hq,q⟩:=h;subst e;obtain⟨u,rfl,rx⟩:=r.one;cases rx;obtain⟨its,rv,pl,hz⟩:=I.list hq;have hl:=rv.length;rw[Xp] at hl;have hp:p<s.heap.objs.size:=by
  obtain⟨o,e,_⟩:=pl.isList;exact Xu e
 refine call_sum_walkAnyS (wpAny_pyIter_list pl.isList ?_);refine⟨_,_,_,_,_,_,_,fun i=>ns.getD i 0,rfl,(Walks.list (A:=X.A.in1) (I.ok.hd hc) s.heap.objs.size p (XF hp) its.toArray).toS,⟨⟨_,Xo _ rfl,rfl,rfl⟩,pl.isList.at fun o e=>Xb _ e⟩,fun b hb=>?_,fun i v hv=>?_,fun s' t' hm=>?_⟩
 ·show b<(s.heap.push _).objs.size;rw[wK];rcases XB.mp hb with z | z
  ·exact z ▸ Nat.lt_succ_self _
  ·have z':b=p:=by simpa using z
   exact z' ▸ Nat.lt_succ_of_lt hp
 ·have hi:i<its.length:=by
   have:=(Array.getElem?_eq_some_iff.mp hv).1;simpa using this
  have hb:i<ns.length:=by omega
  obtain⟨u,hu,t,ru⟩:=rv.get (i:=i) (x:=.int ns[i]) (by rw[Xt,Xg hb]; rfl);have:u=v:=by
   have hv':its[i]?=some v:=by simpa using hv
   rw[hu] at hv';exact Option.some.inj hv'
  subst this;have e:ns.getD i 0=ns[i]:=V0 hb;exact⟨t,by rw[ru,<- e]⟩
 ·obtain⟨hh,hg,hd,ho,_⟩:=hm;refine⟨.int ns.sum,H,?_,⟨t',?_⟩,q⟩
  ·obtain⟨h',g',d',tk',o'⟩:=s';have hg':g'=s.gens:=by first | exact hg | exact hg.symm
   have hd':d'=s.drawn:=by first | exact hd | exact hd.symm
   have ho':o'=s.os:=by first | exact ho | exact ho.symm
   subst hg'; subst hd'; subst ho';refine I.kept (t':=tk') fun b o e=>hh b o ?_ (Xb _ e);intro z;rcases XB.mp z with z | z
   ·exact absurd (z ▸ Xu e) (wJ _)
   ·cases z
  ·rw[Xs,<- hl,G9 ns _ (Xh _),List.take_length]
theorem Q4:zw X (.builtin "isinstance") (fun xs H Q=>∃ x c cv t b,xs=[x,c]/\(∀ u,RelV c u->u=cv)/\TyOf X.K H x t/\W.kitOne X.K t cv=some b/\Q (.bl b) H):=by
 intro pins s σ H xs us Q I r h;obtain⟨x,c,cv,t,b,e,hc,ty,hk,q⟩:=h;subst e;obtain⟨u,v,rfl,rx,rc⟩:=r.two;have:=hc v rc;subst this;exact ZY I rx ty hk fun tk=>⟨.bl b,H,I.tok tk,rfl,q⟩
theorem jaa:MtR X "int.bit_length" (fun x vs H Q=>∃ i,x=.int i/\vs=[]/\Q (.int (Builtin.Int.intBits i)) H):=by
 intro pins s σ H x xs v us Q I rx rv h;obtain⟨i,e1,e2,q⟩:=h;subst e1; subst e2;obtain⟨t,rfl⟩:=rx;have:=rv.zero;subst this;exact call_gives F.slot_int_bit_length (typeIs_int s i t) F.entry_int_bit_length (F.args_int_bit_length_1 _) (AutoIntG2.int_bit_length_int_0 i t) ⟨.int _,H,I.tok _,⟨_,rfl⟩,q⟩
def YM (i j:Int):Prop:=0<j/\j<2 ^ 1000
theorem qR:OpR X (binaryOp .FloorDiv) (rI YM fun i j=>.int (i / j)):=opI fun i j t u s Q E hc q=>by
 refine floordiv_int (by have:=hc.1; omega) ?_ (.inl (PyProof.noPylong_of_log2 ?_))
 ·rw[Int.fdiv_eq_ediv_of_nonneg _ (by have:=hc.1; omega)];exact q
 ·have h1:=hc.1;have h2:=hc.2;have:j.natAbs<2 ^ 1000:=by omega
  have h3:j.natAbs≠0:=by omega
  have:=(Nat.log2_lt h3).mpr this;omega
end
def jiR (X:Cx) (sc:Scope) (ix:List Nat):Bool:=
 (sc.kind==.function)&&sc.names.all (fun x=>sc.names.lookup x.1==some x.2)&&sc.names.all (fun x=>x.2 != .free||(X.env.kindOf x.1==some .cell||X.env.kindOf x.1==some .free)) &&
  ix.all (fun i=>decide (i<X.N.length))&&ix.all (fun i=>sc.names.lookup ((X.N[i]?).getD Str.empty)==some .free)
theorem xK (h:jiR X sc ix=true):BlkOk X sc own ix (own++ix.map fun i=>(X.N[i]?).getD Str.empty):=by
 unfold jiR at h;simp only[X6,wg,wD,Xw,Bool.or_eq_true,bne_iff_ne] at h;obtain⟨⟨⟨⟨h1,h2⟩,h3⟩,h4⟩,h5⟩:=h;exact⟨h1,h2,fun x hx e=>(h3 x hx).resolve_left (fun z=>z e),rfl,h4,h5⟩
structure Def (P:Program) (w:World) (K:W.Frag) (mg:Str->Option Value) (base:Heap) (x:Str) (k:Nat) (ps:List Str) (sp:Sp):Prop where
 ex:∃ f fd,FnOk P w K mg base CX0 k f fd ps sp/\mg x=some (.ref f)/\W.keepIn K (.ref f)=true/\Binds K fd ps []
structure Mth (P:Program) (w:World) (K:W.Frag) (mg:Str->Option Value) (base:Heap) (C:Addr) (m:Str) (k:Nat) (ps:List Str) (sp:Sp):Prop where
 ex:∃ f fd,FnOk P w K mg base CX0 k f fd ps sp/\Meth K C m f/\Binds K fd ps []
 cl:Cls K C
structure Kls (P:Program) (w:World) (K:W.Frag) (mg:Str->Option Value) (base:Heap) (x:Str) (C:Addr) (k:Nat) (ps:List Str) (sp:Sp):Prop where
 ex:∃ f fd,Mk K C f/\FnOk P w K mg base CX0 k f fd ps sp/\mg x=some (.ref C)/\Binds K fd ps []
section
variable {k:Nat}{m:Str}{o:Expr}{t:TA}
theorem jQ (D:Def X.prog X.w X.K X.mg X.base x k ps sp) (hr:Room k X.A) (hg:Gl X x) (ha:PA X (e::es) t) (hdb:(x==("__debug__":Str))=false:=by decide) (he:starEach (e::es) X.env=(false,eval e X.env)::starEach es X.env:=by rfl)
  (hpl:(backTo pos (starEach es X.env)).any (·.1)=false:=by rfl):PE X (.Call (.Name x p) (e::es) [] pos) (Gi sp [] E0 t):=by
 obtain⟨f,fd,F,hm,hk,hb⟩:=D.ex;exact jeG F hr hg hm hk hb .nil jeN ha hdb he hpl
theorem Gm (D:Mth X.prog X.w X.K X.mg X.base C m k ps sp) (hr:Room k X.A) (ho:PE X o ta)
  (ht:eval (.Call (.Attribute o m apos) [] [] pos) X.env=(do
   let ov <- eval o X.env
   standAt apos.atName
   let (f,first) <- holding [ov] (getMethod ov m pl)
   callWith pos f first (backTo pos (starEach [] X.env)) (backToKw pos (keywordEach [] X.env))):=by rfl) :
  PE X (.Call (.Attribute o m apos) [] [] pos) (ZZ C m sp [] E0 ta qD):=by
 obtain⟨f,fd,F,hm,hb⟩:=D.ex;exact jce (pl:=pl) ho D.cl hm F hr hb .nil jeN ht
theorem jgx (D:Kls X.prog X.w X.K X.mg X.base x C k ps sp) (hr:Room (k+1) X.A) (hg:Gl X x) (ha:PA X (e::es) t) (hdb:(x==("__debug__":Str))=false:=by decide) (he:starEach (e::es) X.env=(false,eval e X.env)::starEach es X.env:=by rfl)
  (hpl:(backTo pos (starEach es X.env)).any (·.1)=false:=by rfl):PE X (.Call (.Name x p) (e::es) [] pos) (jeF C sp [] E0 t):=by
 obtain⟨f,fd,M,F,hm,hb⟩:=D.ex;exact jeH M F hr hg hm hb .nil jeN ha hdb he hpl
end
def V1 (r r' r'':R2) (ta tb tc td:TE):TE:=fun σ H Q=>ta σ H fun x H1=>tb σ H1 fun y H2=>r x y H2 fun z H3=>∃ k,z=.bl k /\
 (if k=true then tc σ H3 fun w' H4=>r' y w' H4 fun z' H5=>∃ k',z'=.bl k'/\(if k'=true then td σ H5 fun v' H6=>r'' w' v' H6 Q else Q (.bl false) H5) else Q (.bl false) H3)
section
variable {a b c d:Expr}{tb:TE} 
theorem jab {op op'':CmpOp}{r r' r'':R2} (ho:OpR X (compareOp op) r) (ho':OpR X (compareOp op') r') (ho'':OpR X (compareOp op'') r'') (ha:PE X a ta) (hb:PE X b tb) (hc:PE X c tc) (hd:PE X d td)
  (hm:lastMarks [op,op',op''] [b,c,d]=false:=by with_unfolding_all rfl):PT X (.Compare a [op,op',op''] [b,c,d] pos) (jb_ (V1 r r' r'' ta tb tc td)):=by
 intro pins s σ H Q I h;refine isTrue_chain (thn (ha pins s σ H _ I h) fun v s1 ⟨x,H1,I1,r1,q1⟩=>test_link (thn (hb pins s1 σ H1 _ I1 q1) fun u s2 ⟨y,H2,I2,r2,q2⟩=>
  thn (ho pins s2 σ H2 x y v u _ I2 r1 r2 q2) fun d s3 ⟨z,H3,I3,r3,k,e,q3⟩=>?_)) hm
 subst e;cases r3;refine X7 ?_;cases k with
 | false=>
  obtain⟨k',e',q'⟩:=q3;cases e';exact ite_ff ⟨H3,I3,q'⟩
 | true=>
  refine ite_tt (test_link (thn (hc pins s3 σ H3 _ I3 q3) fun w' s4 ⟨z',H4,I4,r4,q4⟩=>thn (ho' pins s4 σ H4 y z' u w' _ I4 r2 r4 q4) fun d' s5 ⟨z2,H5,I5,r5,k2,e2,q5⟩=>?_));subst e2;cases r5;refine X7 ?_;cases k2 with
  | false=>
   obtain⟨k',e',q'⟩:=q5;cases e';exact ite_ff ⟨H5,I5,q'⟩
  | true=>
   refine ite_tt (test_last (thn (hd pins s5 σ H5 _ I5 q5) fun w2 s6 ⟨z3,H6,I6,r6,q6⟩=>thn (ho'' pins s6 σ H6 z' z3 w' w2 _ I6 r4 r6 q6) fun d2 s7 ⟨z4,H7,I7,r7,k3,e3,q7⟩=>?_));subst e3;cases r7;exact X7 ⟨H7,I7,q7⟩
end
structure Bi (mg:Str->Option Value):Prop where
 len_:mg "len"=none
 range_:mg "range"=none
 isinstance_:mg "isinstance"=none
 any_:mg "any"=none
 all_:mg "all"=none
 sum_:mg "sum"=none
 list_:mg "list"=none
 tuple_:mg "tuple"=none
 int_:mg "int"=none
 bool_:mg "bool"=none
 str_:mg "str"=none
 enumerate_:mg "enumerate"=none
 reversed_:mg "reversed"=none
 sorted_:mg "sorted"=none
 set_:mg "set"=none
 max_:mg "max"=none
 min_:mg "min"=none
 abs_:mg "abs"=none
 zip_:mg "zip"=none
def jgy (t:TS):TS:=fun D σ H=>∃ J:St->Hp->Prop,t { D with nx:=J } σ H/\∀ σ' H',J σ' H'->D.nx σ' H'
theorem yN {t:TS} (h:PS X st t):PS X st (jgy t):=by
 intro pins s σ H D I q;obtain⟨J,q,hJ⟩:=q;refine thn (h pins s σ H { D with nx:=J } I q) fun f s1 r=>?_
 cases f with
 | next=>obtain⟨σ',H',I',j⟩:=r; exact ⟨σ',H',I',hJ σ' H' j⟩
 | ret v=>exact r
 | brk=>exact r
 | cont=>exact r
end L2
namespace L2
open PySem
theorem qd {k:Nat} (hr:Room k A):A.units+200<cLine:=by have:=hr.un; omega
end L2
namespace L2
open PySem PySem.Spec PyProof.Rows
section
theorem GS:∀ {l:List α}{xs:List β},l.length=xs.length->(∀ (i:Nat) a x,l[i]?=some a->xs[i]?=some x->R a x)->Paired R l xs
 | [],[],_,_=>.nil
 | [],_::_,h,_=>by simp at h
 | _::_,[],h,_=>by simp at h
 | a::l,x::xs,h,k=>.cons (k 0 a x rfl rfl) (GS (by simpa using h) fun i a' x' h1 h2=>k (i+1) a' x' (by simpa using h1) (by simpa using h2))
theorem V2 {a:Expr}{ta:TA} (hg:Gl X "range") (hm:X.mg "range"=none) (ha:PA X [a] ta) (hs:starEach [a] X.env=[(false,eval a X.env)]:=by rfl) :
  PE X (.Call (.Name "range" p) [a] [] pos) (fun σ H Q=>ta σ H fun vs H1=>∃ j:Int,vs=[.int j]/\∀ x,H1 x=none->Q (.ref x) (upd H1 x (.rng 0 j))):=by
 intro pins s σ H Q I h;refine Call_ (zN I hg hm boot_range (wr (thn (ha pos pins s σ H _ I h) fun us s1 ⟨vs,H1,I1,r1,q1⟩=>?_) hs rfl));obtain⟨j,e,q⟩:=q1;subst e;cases r1 with
 | cons r rr=>
  cases rr;obtain⟨t,rfl⟩:=r;refine call_range_1 ?_;exact⟨.ref s1.heap.objs.size,_,I1.laid (o:=.rng 0 j) (fun b ob q=>Xb _ q) (Xh _) ⟨_,_,_,Xo _ rfl⟩,rfl,q _ (I1.hok.fresh (Xh _))⟩
def xV (lo hi:Int):List Int:=(List.range (hi-lo).toNat).map fun k=>lo+((k:Nat):Int)
theorem zT (hc:X.calm=true):zw X (.type "list") (fun xs H Q=>∃ p lo hi,xs=[.ref p]/\H p=some (.rng lo hi)/\(-(2 ^ 62)<=lo/\lo<2 ^ 62/\-(2 ^ 62)<=hi/\hi<2 ^ 62)/\(hi-lo).toNat<=2 ^ 24/\∀ l,H l=none->Q (.ref l) (upd H l (.lst ((xV lo hi).map V.int)))):=by
 intro pins s σ H xs us Q I r h;obtain⟨p,lo,hi,rfl,hp,⟨b1,b2,b3,b4⟩,hn,q⟩:=h;obtain⟨u,rfl,rx⟩:=YC r;cases rx;obtain⟨t,u,v,e⟩:=I.hok p _ hp;refine call_list_range (n:=(hi-lo).toNat) (I.ok.hd hc) e ?_ ?_ hn fun h' tk acc' c' kp e' hacc=>?_
 ·exact small_one b1 b2 b3 b4
 ·unfold Builtin.Range.rangeSize;simp;split <;> omega
 ·refine⟨.ref s.heap.objs.size,_,I.laid (o:=.lst ((xV lo hi).map V.int)) (t':=tk) kp (Xh _) ⟨?_,acc'.toList,c',?_,by simpa using e'⟩,rfl,q _ (I.hok.fresh (Xh _))⟩
  ·rw[Xp,xV,Xp,Xz,XH];exact hn
  ·refine GS (by rw[Xp,xV,Xp,Xz,wG,hacc.1]) fun i x v hx hv=>?_;rw[Xt] at hx;unfold xV at hx;rw[Xt] at hx;cases hr:(List.range (hi-lo).toNat)[i]? with
   | none=>rw[hr] at hx; cases hx
   | some k=>
    rw[hr] at hx;have hk:k=i:=by
     obtain⟨h1,h2⟩:=List.getElem?_eq_some_iff.mp hr;simpa using h2.symm
    subst hk;cases hx;obtain⟨tk',e2⟩:=hacc.2 k v (by simpa using hv);exact⟨tk',by rw[e2,Int.mul_one]⟩
end
end L2
namespace M01
inductive Lt (P:List (Nat×Nat)):Nat->Nat->Prop
 | one {a b:Nat}:(a,b)∈P->Lt P a b
 | step {a b c:Nat}:Lt P a b->(b,c)∈P->Lt P a c
def Ok (P:List (Nat×Nat)) (n:Nat):Prop:=∀ p∈P,p.1<p.2/\p.2<n
theorem Lt.lt {a b:Nat} (o:Ok P n) (h:Lt P a b):a<b/\b<n:=by
 induction h with
 | one m=>exact o _ m
 | step _ m ih=>have:=o _ m; exact ⟨by have:=ih.1; omega,this.2⟩
theorem Lt.last {a c:Nat}:Lt P a c ↔ ∃ p∈P,p.2=c/\(Lt P a p.1 \/ p.1=a):=by
 constructor
 ·intro h;cases h with
  | one m=>exact ⟨_,m,rfl,.inr rfl⟩
  | step h m=>exact ⟨_,m,rfl,.inl h⟩
 ·rintro⟨⟨x,y⟩,m,e,h⟩;simp at e;subst e;rcases h with h | h
  ·exact .step h m
  ·simp at h; subst h; exact .one m
def G_ (P:List (Nat×Nat)) (found:List Nat) (t:Nat):Nat:=P.foldl (fun acc p=>if p.2=t then acc ||| found.getD p.1 0 ||| 2 ^ p.1 else acc) 0
def bel (P:List (Nat×Nat)):Nat->List Nat
 | 0=>[]
 | t+1=>bel P t++[G_ P (bel P t) t]
theorem yO (P:List (Nat×Nat)):∀ n,(bel P n).length=n
 | 0=>rfl
 | t+1=>by rw[bel,List.length_append,yO P t]; rfl
theorem jco (P:List (Nat×Nat)) (found:List Nat) (t s acc:Nat) :
  (P.foldl (fun acc p=>if p.2=t then acc ||| found.getD p.1 0 ||| 2 ^ p.1 else acc) acc).testBit s=true ↔ acc.testBit s=true \/ ∃ p∈P,p.2=t/\((found.getD p.1 0).testBit s=true \/ p.1=s):=by
 induction P generalizing acc with
 | nil=>simp
 | cons q r ih=>
  rw[List.foldl_cons,ih];by_cases h:q.2=t
  ·rw[if_pos h];simp only[Nat.testBit_or,Nat.testBit_two_pow,Bool.or_eq_true,decide_eq_true_eq,List.mem_cons];constructor
   ·rintro ((h1 | h1) | h1)
    ·rcases h1 with h1 | h1
     ·exact .inl h1
     ·exact .inr ⟨q,.inl rfl,h,.inl h1⟩
    ·exact .inr ⟨q,.inl rfl,h,.inr h1⟩
    ·obtain⟨p,hp,e⟩:=h1;exact .inr ⟨p,.inr hp,e⟩
   ·rintro (h1 | ⟨p,hp | hp,e,e'⟩)
    ·exact .inl (.inl (.inl h1))
    ·subst hp;rcases e' with e' | e'
     ·exact .inl (.inl (.inr e'))
     ·exact .inl (.inr e')
    ·exact .inr ⟨p,hp,e,e'⟩
  ·rw[if_neg h];simp only[List.mem_cons];constructor
   ·rintro (h1 | ⟨p,hp,e⟩)
    ·exact .inl h1
    ·exact .inr ⟨p,.inr hp,e⟩
   ·rintro (h1 | ⟨p,hp | hp,e,e'⟩)
    ·exact .inl h1
    ·subst hp; exact absurd e h
    ·exact .inr ⟨p,hp,e,e'⟩
theorem jac (P:List (Nat×Nat)):∀ n t,t<n->(bel P n).getD t 0=G_ P (bel P t) t
 | 0,t,h=>by omega
 | n+1,t,h=>by
  rw[bel];by_cases e:t<n
  ·rw[List.getD_eq_getElem?_getD,List.getElem?_append_left (by rw[yO]; exact e),<- List.getD_eq_getElem?_getD];exact jac P n t e
  ·have:t=n:=by omega
   subst this;rw[List.getD_eq_getElem?_getD,List.getElem?_append_right (by rw[yO]; exact Nat.le_refl _),yO];simp
theorem jad (o:Ok P n):∀ t,∀ m,t<m->∀ s,((bel P m).getD t 0).testBit s=true ↔ Lt P s t:=by
 intro t
 induction t using Nat.strongRecOn with
 | _ t ih=>
  intro m hm s;rw[jac P m t hm,G_,jco,Lt.last];simp only[Nat.zero_testBit,Bool.false_eq_true,false_or];constructor
  ·rintro⟨p,hp,e,h⟩;have ho:=o p hp;refine⟨p,hp,e,?_⟩;rcases h with h | h
   ·exact .inl ((ih p.1 (by omega) t (by omega) s).mp h)
   ·exact .inr h
  ·rintro⟨p,hp,e,h⟩;have ho:=o p hp;refine⟨p,hp,e,?_⟩;rcases h with h | h
   ·exact .inl ((ih p.1 (by omega) t (by omega) s).mpr h)
   ·exact .inr h
end M01
namespace L3
open PySem PySem.Spec L2
section
theorem bind_some {m:Option α}{f:α->Option β}{b:β} (h:m.bind f=some b):∃ a,m=some a/\f a=some b:=by
 cases m with
 | none=>cases h
 | some a=>exact ⟨a,rfl,h⟩
structure Cd (α:Type) where
 rep:W.Frag->Hp->α->V->Prop
 mono:∀ {K:W.Frag}{H H':Hp}{a:α}{x:V},Same H H'->rep K H a x->rep K H' a x
def cI:Cd Int:=⟨fun _ _ i v=>v=.int i,fun _ h=>h⟩
def cB:Cd Bool:=⟨fun _ _ i v=>v=.bl i,fun _ h=>h⟩
def cS:Cd Str:=⟨fun _ _ i v=>v=.str i,fun _ h=>h⟩
def cU:Cd Unit:=⟨fun _ _ _ v=>v=.non,fun _ h=>h⟩
def cL (c:Cd α):Cd (List α):=⟨fun K H l v=>∃ a xs,v=.ref a/\H a=some (.lst xs)/\Paired (c.rep K H) l xs,
 fun e ⟨a,xs,h1,h2,h3⟩=>⟨a,xs,h1,e _ _ h2,Paired.mapP h3 fun _ _=>c.mono e⟩⟩
def cT (c:Cd α):Cd (List α):=⟨fun K H l v=>∃ a xs,v=.ref a/\H a=some (.tup xs)/\Paired (c.rep K H) l xs,
 fun e ⟨a,xs,h1,h2,h3⟩=>⟨a,xs,h1,e _ _ h2,Paired.mapP h3 fun _ _=>c.mono e⟩⟩
def cP (c:Cd α) (d:Cd β):Cd (α×β):=⟨fun K H l w=>∃ a u v,w=.ref a/\H a=some (.tup [u,v])/\c.rep K H l.1 u/\d.rep K H l.2 v,
 fun e ⟨a,u,v,h1,h2,h3,h4⟩=>⟨a,u,v,h1,e _ _ h2,c.mono e h3,d.mono e h4⟩⟩
def cQ (c:Cd α) (d:Cd β) (e:Cd γ):Cd (α×β×γ):=⟨fun K H l w=>∃ a u v z,w=.ref a/\H a=some (.tup [u,v,z])/\c.rep K H l.1 u/\d.rep K H l.2.1 v/\e.rep K H l.2.2 z,
 fun s ⟨a,u,v,z,h1,h2,h3,h4,h5⟩=>⟨a,u,v,z,h1,s _ _ h2,c.mono s h3,d.mono s h4,e.mono s h5⟩⟩
def cScr:Cd (List Int):=⟨fun K H l v=>∃ a,v=.ref a/\SqL K H a (l.map V.int),fun e ⟨a,h1,h2⟩=>⟨a,h1,e.seq h2⟩⟩
def EqC (n:Nat) (c:Cd α):Prop:=∀ {K:W.Frag}{H:Hp}{a b:α}{x y:V},c.rep K H a x->c.rep K H b y->EqR K H n x y (bq a b)
def Cd.cod (c:Cd α) (h:EqC n c):Cod α:=⟨n,c.rep,c.mono,h⟩
theorem eqI:EqC 0 cI:=fun h1 h2=>cInt.eqr h1 h2
theorem eqB:EqC 0 cB:=fun h1 h2=>cBl.eqr h1 h2
theorem eqL {c:Cd α} (h:EqC n c):EqC (n+1) (cL c):=fun {K H a b x y} ⟨p,xs,e1,e2,e3⟩ ⟨q,ys,f1,f2,f3⟩=>
 (ji2 (c.cod h)).eqr (K:=K) (H:=H) (a:=a) (b:=b) ⟨p,xs,e1,SqL.of e2,e3⟩ ⟨q,ys,f1,SqL.of f2,f3⟩
def Fr:Option HO->Prop
 | none=>True
 | some (.tup _)=>True
 | _=>False
theorem Ja (h:H a=none):Fr (H a):=by rw[h]; trivial
theorem jgz (h:H a=some (.tup xs)):Fr (H a):=by rw[h]; trivial
theorem jeP (s:Same H H') (h:Fr (H' a)):Fr (H a):=by
 cases q:H a with
 | none=>trivial
 | some o=>rw[s a o q] at h; exact h
structure Ext (F H F' H':Hp):Prop where
 f:Same F F'
 h:Same H H'
 new:∀ a o,F' a=some o->F a=some o \/ Fr (H a)
 sub:Same F' H'
theorem Ext.refl {F:Hp} (s:Same F H):Ext F H F H:=⟨Same.refl _,Same.refl _,fun _ _ h=>.inl h,s⟩
theorem Ext.trans {F F2 H2:Hp} (e:Ext F H F1 H1) (e':Ext F1 H1 F2 H2):Ext F H F2 H2:=
 ⟨e.f.trans e'.f,e.h.trans e'.h,fun a o h=>(e'.new a o h).elim (fun z=>e.new a o z) (fun z=>.inr (jeP e.h z)),e'.sub⟩
theorem kn {o:HO} (h:H a=none):Same H (upd H a o):=fun b u hb=>by
 rw[jz (qF hb h)]; exact hb
theorem Same.upd2 {F:Hp}{o:HO} (s:Same F H) (h:F a=none):Same F (upd H a o):=fun b u hb=>by
 rw[jz (qF hb h)]; exact s b u hb
theorem Same.updB {F:Hp}{o:HO} (s:Same F H):Same (upd F a o) (upd H a o):=fun b u hb=>by
 unfold upd at hb ⊢;by_cases e:b=a
 ·rw[if_pos e] at hb ⊢; exact hb
 ·rw[if_neg e] at hb ⊢; exact s b u hb
theorem Ext.newF {F:Hp}{o:HO} (s:Same F H) (h:H a=none):Ext F H (upd F a o) (upd H a o):=
 ⟨kn (s.free h),kn h,fun b u hb=>by
  by_cases e:b=a
  ·subst e; exact .inr (Ja h)
  ·rw[jz e] at hb; exact .inl hb,Same.updB s⟩
theorem Ext.newO {F:Hp}{o:HO} (s:Same F H) (h:H a=none):Ext F H F (upd H a o):=
 ⟨Same.refl _,kn h,fun _ _ hb=>.inl hb,Same.upd2 s (s.free h)⟩
theorem Ext.upd {F:Hp}{o:HO} (X:Ext Fe He F H) (h:He a=none) (hf:F a=none):Ext Fe He F (L2.upd H a o):=
 ⟨X.f,Same.upd2 X.h h,X.new,Same.upd2 X.sub hf⟩
theorem Ext.frz {F:Hp}{o:HO} (X:Ext Fe He F H) (h:He a=none) (hf:F a=none) (ho:H a=some o):Ext Fe He (L2.upd F a o) H:=
 ⟨X.f.trans (kn hf),X.h,fun b u hb=>by
  by_cases e:b=a
  ·subst e; exact .inr (Ja h)
  ·rw[jz e] at hb; exact X.new b u hb,fun b u hb=>by
  by_cases e:b=a
  ·subst e; rw[jB] at hb; cases hb; exact ho
  ·rw[jz e] at hb; exact X.sub b u hb⟩
structure Pm (α:Type) where
 rel:W.Frag->Hp->Hp->α->V->Prop
 mono:∀ {K:W.Frag}{F H F' H':Hp}{a:α}{x:V},Ext F H F' H'->rel K F H a x->rel K F' H' a x
structure Rs (γ:Type) where
 rel:W.Frag->Hp->Hp->Hp->γ->V->Prop
 back:∀ {K:W.Frag}{H0 H F2 H2:Hp}{c:γ}{v:V},Same H0 H->rel K H F2 H2 c v->rel K H0 F2 H2 c v
def Pm.rs (p:Pm α):Rs α:=⟨fun K _ F H a v=>p.rel K F H a v,fun _ h=>h⟩
def pF (c:Cd α):Pm α:=⟨fun K F _ a v=>c.rep K F a v,fun e h=>c.mono e.f h⟩
def pB (c:Cd α):Pm (List α):=⟨fun K F H l v=>∃ a xs,v=.ref a/\H a=some (.lst xs)/\Paired (c.rep K F) l xs,
 fun e ⟨a,xs,h1,h2,h3⟩=>⟨a,xs,h1,e.h _ _ h2,Paired.mapP h3 fun _ _=>c.mono e.f⟩⟩
def pR (c:Cd α):Pm (List α):=⟨fun K F H l v=>∃ a xs,v=.ref a/\SqL K H a xs/\Paired (c.rep K F) l xs,
 fun e ⟨a,xs,h1,h2,h3⟩=>⟨a,xs,h1,e.h.seq h2,Paired.mapP h3 fun _ _=>c.mono e.f⟩⟩
def pT (c:Cd α):Pm α:=⟨fun K _ H a v=>c.rep K H a v,fun e h=>c.mono e.h h⟩
def rO (c:Cd α):Rs (List α):=⟨fun K H F2 H2 l v=>∃ a xs,v=.ref a/\H a=none/\F2 a=none/\H2 a=some (.lst xs)/\Paired (c.rep K F2) l xs,
 fun s ⟨a,xs,h1,h2,h⟩=>⟨a,xs,h1,s.free h2,h⟩⟩
abbrev rF (c:Cd α):Rs α:=(pF c).rs
def Ev (K:W.Frag) (σ:St) (F H:Hp) (t:TE) (r:Rs α) (m:Option α):Prop:=
 ∀ F1 H1,Ext F H F1 H1->∀ a,m=some a->∀ Q:VK,(∀ v F2 H2,Ext F1 H1 F2 H2->r.rel K H1 F2 H2 a v->Q v H2)->t σ H1 Q
def Et (K:W.Frag) (σ:St) (F H:Hp) (t:TT) (m:Option Bool):Prop:=
 ∀ F1 H1,Ext F H F1 H1->∀ b,m=some b->∀ Q:Bool->Hp->Prop,(∀ F2 H2,Ext F1 H1 F2 H2->Q b H2)->t σ H1 Q
def El (K:W.Frag) (σ:St) (F H:Hp) (t:TA) (c:Cd α) (n:Nat) (m:Option (List α)):Prop:=
 ∀ F1 H1,Ext F H F1 H1->∀ l,m=some l->∀ Q:List V->Hp->Prop,(∀ vs F2 H2,Ext F1 H1 F2 H2->Paired (c.rep K F2) l vs->vs.length=n->Q vs H2)->t σ H1 Q
variable {F:Hp}{t tb:TE}{c:Cd α}{d:Cd β}{p:Pm α}{q:Pm β}{q':Pm γ}{rs:Rs γ}{ma:Option α} 
theorem Ev.cast {r:Rs α}{m m':Option α} (h:Ev K σ F H t r m) (e:m'=m):Ev K σ F H t r m':=e ▸ h
theorem jj {a:α}{v:V} (hi:σ[i]?=some (some v)) (h:p.rel K F H a v):Ev K σ F H (GM i) p.rs (some a):=by
 intro F1 H1 E b e Q k;cases e;exact⟨v,hi,k v F1 H1 (Ext.refl E.sub) (p.mono E h)⟩
theorem jk (i:Int):Ev K σ F H (tC (.int i)) (rF cI) (some i):=fun F1 H1 E b e Q k=>by cases e; exact k _ F1 H1 (Ext.refl E.sub) rfl
theorem yJ (i:Bool):Ev K σ F H (tC (.bl i)) (rF cB) (some i):=fun F1 H1 E b e Q k=>by cases e; exact k _ F1 H1 (Ext.refl E.sub) rfl
theorem Jb:Ev K σ F H (tC .non) (rF cU) (some ()):=fun F1 H1 E b e Q k=>by cases e; exact k _ F1 H1 (Ext.refl E.sub) rfl
theorem jJ {a:Int} (hi:σ[i]?=some (some (.int a))):Ev K σ F H (GM i) (rF cI) (some a):=jj (p:=pF cI) hi rfl
theorem Jc {r r':Rs α}{m:Option α} (h:Ev K σ F H t r m) (hi:∀ {H1 F2 H2 a v},Same F2 H2->r.rel K H1 F2 H2 a v->r'.rel K H1 F2 H2 a v):Ev K σ F H t r' m:=
 fun F1 H1 E a e Q k=>h F1 H1 E a e Q fun v F2 H2 E2 hr=>k v F2 H2 E2 (hi E2.sub hr)
theorem xc (h:Ev K σ F H t (rO c) m):Ev K σ F H t (rF (cL c)) m:=by
 intro F1 H1 E l e Q k;refine h F1 H1 E l e Q ?_;rintro v F2 H2 E2 ⟨a,xs,rfl,h1,h2,h3,h4⟩;exact k _ (upd F2 a (.lst xs)) H2 (E2.frz h1 h2 h3) ⟨a,xs,rfl,jB,Paired.mapP h4 fun _ _=>c.mono (kn h2)⟩
theorem xE (h:Ev K σ F H t (rO c) m):Ev K σ F H t (pB c).rs m:=Jc h (fun _ ⟨a,xs,h0,_,_,h3,h4⟩=>⟨a,xs,h0,h3,h4⟩)
theorem x8 (h:Ev K σ F H t (rF (cL c)) m):Ev K σ F H t (pB c).rs m:=Jc h (fun s ⟨a,xs,h0,h3,h4⟩=>⟨a,xs,h0,s _ _ h3,h4⟩)
theorem kZ (h:Ev K σ F H t (pB c).rs m):Ev K σ F H t (pR c).rs m:=Jc h (fun _ ⟨a,xs,h0,h3,h4⟩=>⟨a,xs,h0,SqL.of h3,h4⟩)
theorem yi:∀ l:List Int,Paired (cI.rep K H) l (l.map V.int)
 | []=>.nil
 | _::r=>.cons rfl (yi r)
theorem U4 {m:Option (List Int)} (h:Ev K σ F H t (rF cScr) m):Ev K σ F H t (pR cI).rs m:=Jc h (fun s ⟨a,h0,h3⟩=>⟨a,_,h0,s.seq h3,yi _⟩)
theorem GO {m:Option α} (h:Ev K σ F H t (rF c) m):Ev K σ F H t (pT c).rs m:=Jc h (fun s h=>c.mono s h)
theorem U5 (h:Ev K σ F H t (pB c).rs m):Ev K σ F H t (pT (cL c)).rs m:=Jc h (fun s ⟨a,xs,h0,h3,h4⟩=>⟨a,xs,h0,h3,Paired.mapP h4 fun _ _=>c.mono s⟩)
def Op2 (K:W.Frag) (r:R2) (p:Pm α) (q:Pm β) (rs:Rs γ) (op:α->β->Option γ):Prop:=
 ∀ F H a b x y,Same F H->p.rel K F H a x->q.rel K F H b y->∀ c,op a b=some c->∀ Q:VK,(∀ v F2 H2,Ext F H F2 H2->rs.rel K H F2 H2 c v->Q v H2)->r x y H Q
theorem U6 {r:R2} (ho:Op2 K r p q rs op) (ha:Ev K σ F H ta p.rs ma) (hb:Ev K σ F H tb q.rs mb):Ev K σ F H (tOp r ta tb) rs (ma.bind fun a=>mb.bind fun b=>op a b):=by
 intro F1 H1 E z hz Q k;obtain⟨a,ea,hz⟩:=bind_some hz;obtain⟨b,eb,hz⟩:=bind_some hz;refine ha F1 H1 E a ea _ fun x F2 H2 E2 hx=>hb F2 H2 (E.trans E2) b eb _ fun y F3 H3 E3 hy=>?_;exact ho F3 H3 a b x y E3.sub (p.mono E3 hx) hy z hz _ fun v F4 H4 E4 hv=>k v F4 H4 (E2.trans (E3.trans E4)) (rs.back (E2.h.trans E3.h) hv)
def Op1 (K:W.Frag) (r:V->Hp->VK->Prop) (p:Pm α) (rs:Rs γ) (op:α->Option γ):Prop:=
 ∀ F H a x,Same F H->p.rel K F H a x->∀ c,op a=some c->∀ Q:VK,(∀ v F2 H2,Ext F H F2 H2->rs.rel K H F2 H2 c v->Q v H2)->r x H Q
theorem jgA {r:V->Hp->VK->Prop}{op:α->Option γ} (ho:Op1 K r p rs op) (ha:Ev K σ F H ta p.rs ma):Ev K σ F H (tUn r ta) rs (ma.bind op):=by
 intro F1 H1 E z hz Q k;obtain⟨a,ea,hz⟩:=bind_some hz;refine ha F1 H1 E a ea _ fun x F2 H2 E2 hx=>?_;exact ho F2 H2 a x E2.sub hx z hz _ fun v F4 H4 E4 hv=>k v F4 H4 (E2.trans E4) (rs.back E2.h hv)
theorem jdS {r:List V->Hp->VK->Prop}{op:α->Option γ} (ho:Op1 K (fun x=>r [x]) p rs op) (ha:Ev K σ F H ta p.rs ma):Ev K σ F H (tCB r (jF ta qD)) rs (ma.bind op):=jgA (r:=fun x=>r [x]) ho ha
theorem jgB {r:List V->Hp->VK->Prop} (ho:Op2 K (fun x y=>r [x,y]) p q rs op) (ha:Ev K σ F H ta p.rs ma) (hb:Ev K σ F H tb q.rs mb):Ev K σ F H (tCB r (jF ta (jF tb qD))) rs (ma.bind fun a=>mb.bind fun b=>op a b):=
 U6 (r:=fun x y=>r [x,y]) ho ha hb
@[irreducible] def ZD (i j:Int):Option Int:=if (-(2 ^ 64)<i/\i<2 ^ 64) \/ (-(2 ^ 64)<j/\j<2 ^ 64) then some (i * j) else none
@[irreducible] def jeQ (i j:Int):Option Int:=if 0<j/\j<2 ^ 1000 then some (i / j) else none
@[irreducible] def U7 (i j:Int):Option Int:=if 0<j then some (i % j) else none
@[irreducible] def jgC (i j:Int):Option Int:=if 0<=j/\j<=1000000/\i.natAbs<2 ^ 64 then some (i ^ j.toNat) else none
@[irreducible] def JY (i j:Int):Option Int:=if 0<=j/\j<=1000000/\i.natAbs<2 ^ 64 then some (i * 2 ^ j.toNat) else none
@[irreducible] def jeR (i j:Int):Option Int:=if 0<=j then some (i / 2 ^ j.toNat) else none
theorem ki {c:Prop} [Decidable c] {a b:α} (h:(if c then some a else none)=some b):c/\a=b:=by
 by_cases hc:c
 ·rw[if_pos hc] at h; exact ⟨hc,Option.some.inj h⟩
 ·rw[if_neg hc] at h; cases h
theorem jY {g:Int->Int->Int}:Op2 K (rI0 fun i j=>.int (g i j)) (pF cI) (pF cI) (rF cI) (fun i j=>some (g i j)):=by
 intro F H a b x y s hx hy c hc Q k;cases hx; cases hy; cases hc;exact⟨a,b,rfl,rfl,k _ F H (Ext.refl s) rfl⟩
theorem xL:Op2 K (rI0 fun i j=>.bl (g i j)) (pF cI) (pF cI) (rF cB) (fun i j=>some (g i j)):=by
 intro F H a b x y s hx hy c hc Q k;cases hx; cases hy; cases hc;exact⟨a,b,rfl,rfl,k _ F H (Ext.refl s) rfl⟩
theorem YN {C:Int->Int->Prop}{g:Int->Int->Int}{op:Int->Int->Option Int} (h:∀ i j k,op i j=some k->C i j/\g i j=k):Op2 K (rI C fun i j=>.int (g i j)) (pF cI) (pF cI) (rF cI) op:=by
 intro F H a b x y s hx hy c hc Q k;cases hx; cases hy;obtain⟨h1,h2⟩:=h a b c hc;subst h2;exact⟨a,b,rfl,rfl,h1,k _ F H (Ext.refl s) rfl⟩
theorem V3:Op2 K (rI CMul fun i j=>.int (i * j)) (pF cI) (pF cI) (rF cI) ZD:=YN fun _ _ _ h=>by unfold ZD at h; obtain⟨x,y⟩:=ki h; exact ⟨x,y⟩
theorem jeS:Op2 K (rI YM fun i j=>.int (i / j)) (pF cI) (pF cI) (rF cI) jeQ:=YN fun _ _ _ h=>by unfold jeQ at h; obtain⟨x,y⟩:=ki h; exact ⟨x,y⟩
theorem Gn:Op2 K (rI (fun _ j=>0<j) fun i j=>.int (i % j)) (pF cI) (pF cI) (rF cI) U7:=YN fun _ _ _ h=>by unfold U7 at h; exact ki h
theorem jie:Op2 K (rI jf7 fun i j=>.int (i ^ j.toNat)) (pF cI) (pF cI) (rF cI) jgC:=YN fun _ _ _ h=>by unfold jgC at h; obtain⟨x,y⟩:=ki h; exact ⟨x,y⟩
theorem JZ:Op2 K (rI jf7 fun i j=>.int (i * 2 ^ j.toNat)) (pF cI) (pF cI) (rF cI) JY:=YN fun _ _ _ h=>by unfold JY at h; obtain⟨x,y⟩:=ki h; exact ⟨x,y⟩
theorem jgD:Op2 K (rI (fun _ j=>0<=j) fun i j=>.int (i / 2 ^ j.toNat)) (pF cI) (pF cI) (rF cI) jeR:=YN fun _ _ _ h=>by unfold jeR at h; exact ki h
theorem o_u {g:Int->Int}:Op1 K (rU fun i=>.int (g i)) (pF cI) (rF cI) (fun i=>some (g i)):=by
 intro F H a x s hx c hc Q k;cases hx; cases hc;exact⟨a,rfl,k _ F H (Ext.refl s) rfl⟩
theorem xb:Op2 K rEq (pF cI) (pF cI) (rF cB) (fun i j=>some (decide (i=j))):=by
 intro F H a b x y s hx hy c hc Q k;cases hx; cases hy; cases hc;refine⟨rfl,?_⟩;rw[QR,Bool.beq_eq_decide_eq];exact k _ F H (Ext.refl s) rfl
theorem jif:Op2 K rNe (pF cI) (pF cI) (rF cB) (fun i j=>some (!decide (i=j))):=by
 intro F H a b x y s hx hy c hc Q k;cases hx; cases hy; cases hc;refine⟨rfl,?_⟩;rw[QR,Bool.beq_eq_decide_eq];exact k _ F H (Ext.refl s) rfl
def jae (c:Cd α):Prop:=∀ {K:W.Frag}{H:Hp}{a:α}{x:V},c.rep K H a x->UY x=false
theorem nfL:jae (cL c):=fun⟨_,_,h,_⟩=>by rw[h]; rfl
def V4 [DecidableEq α] (a b:α):Bool:=decide (a=b)
def Qq [DecidableEq α] (a:α) (l:List α):Bool:=decide (a∈l)
theorem jig [DecidableEq α] (h:EqC n c) (hn:n<=100) (nf:jae c):Op2 K (jhX K false) (pT c) (pT c) (rF cB) (fun a b=>some (V4 a b)):=by
 intro F H a b x y s hx hy z hz Q k;cases hz;refine⟨n,bq a b,h hx hy,hn,nf hx,?_⟩;rw[WU];exact k _ F H (Ext.refl s) rfl
theorem jcp [DecidableEq α] (h:EqC n c) (hn:n<=100) (nf:jae c):Op2 K (jhX K true) (pT c) (pT c) (rF cB) (fun a b=>some (!V4 a b)):=by
 intro F H a b x y s hx hy z hz Q k;cases hz;refine⟨n,bq a b,h hx hy,hn,nf hx,?_⟩;rw[WU];exact k _ F H (Ext.refl s) rfl
theorem jih [DecidableEq α] (h:EqC n c) (hn:n<=100):Op2 K (jgw K true) (pT c) (pT (cL c)) (rF cB) (fun a l=>some (!Qq a l)):=by
 intro F H a l x y s hx hy z hz Q k;cases hz;obtain⟨p,xs,rfl,h1,h2⟩:=hy;exact⟨α,c.cod h,a,l,p,xs,decide (a∈l),hn,hx,rfl,.inl (SqL.of h1),h2,by simp,k _ F H (Ext.refl s) rfl⟩
theorem jeT [DecidableEq α] (h:EqC n c) (hn:n<=100):Op2 K (jgw K false) (pT c) (pT (cT c)) (rF cB) (fun a l=>some (Qq a l)):=by
 intro F H a l x y s hx hy z hz Q k;cases hz;obtain⟨p,xs,rfl,h1,h2⟩:=hy;exact⟨α,c.cod h,a,l,p,xs,decide (a∈l),hn,hx,rfl,.inr (SqT.of h1),h2,by simp,k _ F H (Ext.refl s) rfl⟩
theorem jii [DecidableEq α] (h:EqC n c) (hn:n<=100):Op2 K (jgw K true) (pT c) (pT (cT c)) (rF cB) (fun a l=>some (!Qq a l)):=by
 intro F H a l x y s hx hy z hz Q k;cases hz;obtain⟨p,xs,rfl,h1,h2⟩:=hy;exact⟨α,c.cod h,a,l,p,xs,decide (a∈l),hn,hx,rfl,.inr (SqT.of h1),h2,by simp,k _ F H (Ext.refl s) rfl⟩
theorem Paired.at:∀ {l:List α}{xs:List β}{i:Nat}{a:α},Paired R l xs->l[i]?=some a->∃ x,xs[i]?=some x/\R a x
 | _,_,_,_,.nil,h=>by simp at h
 | _,_,0,_,.cons r _,h=>by simp at h; subst h; exact ⟨_,rfl,r⟩
 | _,_,i+1,a,.cons _ t,h=>by
  obtain⟨x,h1,h2⟩:=Paired.at (i:=i) (a:=a) t (by simpa using h);exact⟨x,by simpa using h1,h2⟩
theorem Paired.atI {xs:List β}{i:Int}{a:α} (h:Paired R l xs) (e:atI l i=some a):∃ x,atI xs i=some x/\R a x:=by
 unfold L2.atI at e ⊢;rw[<- h.length];cases q:ixN l.length i with
 | none=>rw[q] at e; cases e
 | some j=>
  rw[q] at e;exact Paired.at h e
@[irreducible] def pAt (l:List α) (i:Int):Option α:=atI l i
theorem zz:Op2 K (jgp K) (pR c) (pF cI) (rF c) (fun l i=>pAt l i):=by
 intro F H l i x y s hx hy z hz Q k;unfold pAt at hz;obtain⟨p,xs,rfl,h1,h2⟩:=hx;cases hy;obtain⟨v,e,r⟩:=Paired.atI h2 hz;exact⟨p,xs,i,v,rfl,rfl,h1,e,k _ F H (Ext.refl s) r⟩
theorem U8:Op2 K (jiO K) (pF (cT c)) (pF cI) (rF c) (fun l i=>pAt l i):=by
 intro F H l i x y s hx hy z hz Q k;unfold pAt at hz;obtain⟨p,xs,rfl,h1,h2⟩:=hx;cases hy;obtain⟨v,e,r⟩:=Paired.atI h2 hz;exact⟨p,xs,i,v,rfl,rfl,SqT.of (s _ _ h1),e,k _ F H (Ext.refl s) r⟩
theorem xW:Op1 K (fun x H Q=>∃ p ys,[x]=[V.ref p]/\(SqL K H p ys \/ SqT K H p ys)/\Q (.int ys.length) H) (pR c) (rF cI) (fun l=>some (l.length:Int)):=by
 intro F H l x s hx z hz Q k;obtain⟨p,xs,rfl,h1,h2⟩:=hx;cases hz;refine⟨p,xs,rfl,.inl h1,?_⟩;rw[<- h2.length];exact k _ F H (Ext.refl s) rfl
theorem Qr:Op1 K (fun x H Q=>∃ p ys,[x]=[V.ref p]/\(SqL K H p ys \/ SqT K H p ys)/\Q (.int ys.length) H) (pF (cT c)) (rF cI) (fun l=>some (l.length:Int)):=by
 intro F H l x s hx z hz Q k;obtain⟨p,xs,rfl,h1,h2⟩:=hx;cases hz;refine⟨p,xs,rfl,.inr (SqT.of (s _ _ h1)),?_⟩;rw[<- h2.length];exact k _ F H (Ext.refl s) rfl
theorem zg {F:Hp}{Q:VK} (s:Same F H) (h2:Paired (c.rep K F) l xs) (k:∀ v F2 H2,Ext F H F2 H2->(rO c).rel K H F2 H2 l v->Q v H2) (p:Addr) (hp:H p=none):Q (.ref p) (upd H p (.lst xs)):=
 k _ F _ (Ext.newO s hp) ⟨p,xs,rfl,hp,s.free hp,jB,h2⟩
theorem Q5 {F:Hp}{Q:VK} (s:Same F H) (h2:Paired (c.rep K F) l xs) (k:∀ v F2 H2,Ext F H F2 H2->(rF (cT c)).rel K H F2 H2 l v->Q v H2) (p:Addr) (hp:H p=none):Q (.ref p) (upd H p (.tup xs)):=
 k _ (upd F p (.tup xs)) _ (Ext.newF s hp) ⟨p,xs,rfl,jB,Paired.mapP h2 fun _ _=>c.mono (kn (s.free hp))⟩
theorem jeU:Op1 K (fun x H Q=>∃ p ys,[x]=[V.ref p]/\(SqL K H p ys \/ SqT K H p ys)/\∀ l,H l=none->Q (.ref l) (upd H l (.lst ys))) (pR c) (rO c) (fun l=>some l):=by
 intro F H l x s hx z hz Q k;obtain⟨p,xs,rfl,h1,h2⟩:=hx;cases hz;exact⟨p,xs,rfl,.inl h1,fun a ha=>zg s h2 k a ha⟩
theorem WY:Op1 K (fun x H Q=>∃ p ys,[x]=[V.ref p]/\((SqL K H p ys/\∀ l,H l=none->Q (.ref l) (upd H l (.tup ys))) \/ (SqT K H p ys/\Q (.ref p) H))) (pR c) (rF (cT c)) (fun l=>some l):=by
 intro F H l x s hx z hz Q k;obtain⟨p,xs,rfl,h1,h2⟩:=hx;cases hz;exact⟨p,xs,rfl,.inl ⟨h1,fun a ha=>Q5 s h2 k a ha⟩⟩
def cut (xs:List α) (lo hi:Option Int):List α:=(xs.drop (HT.sIx xs.length 0 lo)).take (HT.sIx xs.length xs.length hi-HT.sIx xs.length 0 lo)
theorem Paired.drop:∀ {l:List α}{xs:List β} (n:Nat),Paired R l xs->Paired R (l.drop n) (xs.drop n)
 | _,_,0,r=>r
 | _,_,_+1,.nil=>.nil
 | _,_,n+1,.cons _ t=>Paired.drop n t
theorem Paired.take:∀ {l:List α}{xs:List β} (n:Nat),Paired R l xs->Paired R (l.take n) (xs.take n)
 | _,_,0,_=>.nil
 | _,_,_+1,.nil=>.nil
 | _,_,n+1,.cons r t=>.cons r (Paired.take n t)
theorem Paired.app:∀ {l m:List α}{xs ys:List β},Paired R l xs->Paired R m ys->Paired R (l++m) (xs++ys)
 | _,_,_,_,.nil,s=>s
 | _,_,_,_,.cons r t,s=>.cons r (Paired.app t s)
theorem Paired.cutP {R:α->V->Prop} (lo hi:Option Int) (h:Paired R l xs):Paired R (cut l lo hi) (jci xs lo hi):=by
 unfold cut jci;rw[h.length];exact Paired.take _ (Paired.drop _ h)
def Eo (K:W.Frag) (σ:St) (F H:Hp) (t:TO) (m:Option (Option Int)):Prop:=
 ∀ F1 H1,Ext F H F1 H1->∀ o,m=some o->∀ Q:Option Int->Hp->Prop,(∀ F2 H2,Ext F1 H1 F2 H2->Q o H2)->t σ H1 Q
theorem x9:Eo K σ F H Z1 (some none):=fun F1 H1 E o e Q k=>by cases e; exact k F1 H1 (Ext.refl E.sub)
theorem jeV {m:Option Int} (h:Ev K σ F H t (rF cI) m):Eo K σ F H (jch t) (m.bind fun i=>some (some i)):=by
 intro F1 H1 E o e Q k;obtain⟨i,ei,e⟩:=bind_some e;cases e;exact h F1 H1 E i ei _ fun v F2 H2 E2 hv=>⟨i,hv,k F2 H2 E2⟩
theorem jgE {ml:Option (Option Int)} (h:Ev K σ F H t (pR c).rs m) (hl:Eo K σ F H tl ml) (hh:Eo K σ F H th mh) :
  Ev K σ F H (tSl (jhV K) t tl th) (rO c) (m.bind fun l=>ml.bind fun i=>mh.bind fun j=>some (cut l i j)):=by
 intro F1 H1 E z hz Q k;obtain⟨l,el,hz⟩:=bind_some hz;obtain⟨i,ei,hz⟩:=bind_some hz;obtain⟨j,ej,hz⟩:=bind_some hz;cases hz;refine h F1 H1 E l el _ ?_;intro v F2 H2 E2 hv;refine hl F2 H2 (E.trans E2) i ei _ fun F3 H3 E3=>hh F3 H3 ((E.trans E2).trans E3) j ej _ fun F4 H4 E4=>?_;obtain⟨a,xs,rfl,h1,h2⟩:=(pR c).mono (E3.trans E4) hv;refine⟨a,xs,rfl,h1,fun p hp=>?_⟩;exact zg (c:=c) E4.sub (Paired.cutP i j h2) (fun v F5 H5 E5 hr=>k v F5 H5 (E2.trans (E3.trans (E4.trans E5))) ((rO c).back (E2.h.trans (E3.h.trans E4.h)) hr)) p hp
@[irreducible] def JT (l m:List α):Option (List α):=if l.length+m.length<=16777216 then some (l++m) else none
theorem jij:Op2 K jiP (pB c) (pB c) (rO c) JT:=by
 intro F H l m x y s hx hy z hz Q k;obtain⟨a,xs,rfl,h1,h2⟩:=hx;obtain⟨b,ys,rfl,h3,h4⟩:=hy;unfold JT at hz;obtain⟨hc,rfl⟩:=ki hz;rw[h2.length,h4.length] at hc;exact⟨a,b,xs,ys,rfl,rfl,h1,h3,by rw[XH]; exact hc,fun p hp=>zg s (Paired.app h2 h4) k p hp⟩
end
section
variable {F:Hp}{t tb:TE}{c:Cd α}{d:Cd β}{p:Pm α}{q:Pm β}{rs:Rs γ}{ma:Option α} 
section
variable {u v:TT}{m:Option Bool}{a b:Bool}
theorem kE (h:Ev K σ F H t (rF cB) m):Et K σ F H (jb_ t) m:=fun F1 H1 E b e Q k=>h F1 H1 E b e _ fun v F2 H2 E2 hv=>⟨b,hv,k F2 H2 E2⟩
theorem xC (h:Ev K σ F H t (rF cB) m):Et K σ F H (tB t) m:=fun F1 H1 E b e Q k=>h F1 H1 E b e _ fun v F2 H2 E2 hv=>⟨b,hv,k F2 H2 E2⟩
theorem jdT (h:Et K σ F H u m):Et K σ F H (jgg u) (m.bind fun b=>some (!b)):=by
 intro F1 H1 E b e Q k;obtain⟨c,ec,e⟩:=bind_some e;cases e;exact h F1 H1 E c ec _ fun F2 H2 E2=>k F2 H2 E2
theorem jdU (h:Et K σ F H u m) (h':Et K σ F H v m'):Et K σ F H (jeC u v) (m.bind fun b=>bif b then m' else some false):=by
 intro F1 H1 E b e Q k;obtain⟨c,ec,e⟩:=bind_some e;refine h F1 H1 E c ec _ fun F2 H2 E2=>?_;cases c with
 | true=>exact VZ (h' F2 H2 (E.trans E2) b e _ fun F3 H3 E3=>k F3 H3 (E2.trans E3))
 | false=>cases e; exact VY (k F2 H2 E2)
theorem jgF (h:Et K σ F H u m) (h':Et K σ F H v m'):Et K σ F H (tOr u v) (m.bind fun b=>bif b then some true else m'):=by
 intro F1 H1 E b e Q k;obtain⟨c,ec,e⟩:=bind_some e;refine h F1 H1 E c ec _ fun F2 H2 E2=>?_;cases c with
 | true=>cases e; exact VZ (k F2 H2 E2)
 | false=>exact VY (h' F2 H2 (E.trans E2) b e _ fun F3 H3 E3=>k F3 H3 (E2.trans E3))
theorem jeW {m:Option Bool} (h:Et K σ F H u m) (e:m'=m):Et K σ F H u m':=e ▸ h
theorem jeX (h:Et K σ F H u (some a)) (h':Et K σ F H v (some b)):Et K σ F H (jeC u v) (some (a&&b)):=jeW (jdU h h') (by cases a <;> rfl)
theorem jdV (h:Ev K σ F H t (rF cB) m):Ev K σ F H (ZM t) (rF cB) (m.bind fun b=>some (!b)):=by
 intro F1 H1 E b e Q k;obtain⟨c,ec,e⟩:=bind_some e;cases e;exact h F1 H1 E c ec _ fun v F2 H2 E2 hv=>⟨c,hv,k _ F2 H2 E2 rfl⟩
theorem jaf (h:Ev K σ F H ta (rF cB) m) (h':Ev K σ F H tb (rF cB) m'):Ev K σ F H (UJ ta tb) (rF cB) (m.bind fun b=>bif b then m' else some false):=by
 intro F1 H1 E b e Q k;obtain⟨c,ec,e⟩:=bind_some e;refine h F1 H1 E c ec _ fun v F2 H2 E2 hv=>⟨c,hv,?_⟩;cases c with
 | true=>exact VZ (h' F2 H2 (E.trans E2) b e _ fun v F3 H3 E3 hv=>k v F3 H3 (E2.trans E3) hv)
 | false=>cases e; exact VY (k _ F2 H2 E2 rfl)
theorem jik (h:Ev K σ F H ta (rF cB) m) (h':Ev K σ F H tb (rF cB) m'):Ev K σ F H (jhS ta tb) (rF cB) (m.bind fun b=>bif b then some true else m'):=by
 intro F1 H1 E b e Q k;obtain⟨c,ec,e⟩:=bind_some e;refine h F1 H1 E c ec _ fun v F2 H2 E2 hv=>⟨c,hv,?_⟩;cases c with
 | true=>cases e; exact VZ (k _ F2 H2 E2 rfl)
 | false=>exact VY (h' F2 H2 (E.trans E2) b e _ fun v F3 H3 E3 hv=>k v F3 H3 (E2.trans E3) hv)
theorem jeY (h:Ev K σ F H ta (rF cB) (some a)) (h':Ev K σ F H tb (rF cB) (some b)):Ev K σ F H (UJ ta tb) (rF cB) (some (a&&b)):=(jaf h h').cast (by cases a <;> rfl)
theorem WZ {ma mb mc:Option Int} (ha:Ev K σ F H ta (rF cI) ma) (hb:Ev K σ F H tb (rF cI) mb) (hc:Ev K σ F H tc (rF cI) mc) :
  Ev K σ F H (G2 (rI0 fun i j=>.bl (g i j)) (rI0 fun i j=>.bl (g' i j)) ta tb tc) (rF cB) (ma.bind fun x=>mb.bind fun y=>bif g x y then mc.bind fun z=>some (g' y z) else some false):=by
 intro F1 H1 E b e Q k;obtain⟨x,ex,e⟩:=bind_some e;obtain⟨y,ey,e⟩:=bind_some e;refine ha F1 H1 E x ex _ fun v F2 H2 E2 hv=>hb F2 H2 (E.trans E2) y ey _ fun v' F3 H3 E3 hv'=>⟨x,y,hv,hv',_,rfl,?_⟩;cases hg:g x y with
 | true=>
  rw[hg] at e;obtain⟨z,ez,e⟩:=bind_some e;cases e;exact VZ (hc F3 H3 (E.trans (E2.trans E3)) z ez _ fun w F4 H4 E4 hw=>⟨y,z,hv',hw,k _ F4 H4 (E2.trans (E3.trans E4)) rfl⟩)
 | false=>
  rw[hg] at e;cases e;exact VY (k _ F3 H3 (E2.trans E3) rfl)
theorem jag {x y z:Int} (ha:Ev K σ F H ta (rF cI) (some x)) (hb:Ev K σ F H tb (rF cI) (some y)) (hc:Ev K σ F H tc (rF cI) (some z)) :
  Ev K σ F H (G2 (rI0 fun i j=>.bl (g i j)) (rI0 fun i j=>.bl (g' i j)) ta tb tc) (rF cB) (some (g x y&&g' y z)):=(WZ ha hb hc).cast (by
   show _=bif g x y then some (g' y z) else some false;cases g x y <;> rfl)
theorem YO {x y z w:Int} (ha:Ev K σ F H ta (rF cI) (some x)) (hb:Ev K σ F H tb (rF cI) (some y)) (hc:Ev K σ F H tc (rF cI) (some z)) (hd:Ev K σ F H td (rF cI) (some w)) :
  Ev K σ F H (V1 (rI0 fun i j=>.bl (g i j)) (rI0 fun i j=>.bl (g' i j)) (rI0 fun i j=>.bl (g'' i j)) ta tb tc td) (rF cB) (some (g x y&&(g' y z&&g'' z w))):=by
 intro F1 H1 E b e Q k;cases e;refine ha F1 H1 E x rfl _ fun v F2 H2 E2 hv=>hb F2 H2 (E.trans E2) y rfl _ fun v' F3 H3 E3 hv'=>⟨x,y,hv,hv',_,rfl,?_⟩;cases hg:g x y with
 | true=>
  rw[hg] at k;refine VZ (hc F3 H3 (E.trans (E2.trans E3)) z rfl _ fun w' F4 H4 E4 hw=>⟨y,z,hv',hw,_,rfl,?_⟩);cases hg':g' y z with
  | true=>
   rw[hg'] at k;exact VZ (hd F4 H4 (E.trans (E2.trans (E3.trans E4))) w rfl _ fun w'' F5 H5 E5 hw'=>⟨z,w,hw,hw',k _ F5 H5 (E2.trans (E3.trans (E4.trans E5))) rfl⟩)
  | false=>
   rw[hg'] at k;exact VY (k _ F4 H4 (E2.trans (E3.trans E4)) rfl)
 | false=>
  rw[hg] at k;exact VY (k _ F3 H3 (E2.trans E3) rfl)
theorem jil {ma mb:Option γ} (hc:Et K σ F H u m) (ha:Ev K σ F H ta rs ma) (hb:Ev K σ F H tb rs mb):Ev K σ F H (tIf u ta tb) rs (m.bind fun b=>bif b then ma else mb):=by
 intro F1 H1 E z e Q k;obtain⟨c,ec,e⟩:=bind_some e;refine hc F1 H1 E c ec _ fun F2 H2 E2=>?_;cases c with
 | true=>exact VZ (ha F2 H2 (E.trans E2) z e _ fun v F3 H3 E3 hv=>k v F3 H3 (E2.trans E3) (rs.back E2.h hv))
 | false=>exact VY (hb F2 H2 (E.trans E2) z e _ fun v F3 H3 E3 hv=>k v F3 H3 (E2.trans E3) (rs.back E2.h hv))
end
theorem kG:El K σ F H qD c 0 (some []):=fun F1 H1 E l e Q k=>by cases e; exact k [] F1 H1 (Ext.refl E.sub) .nil rfl
theorem jah (ha:Ev K σ F H ta (rF c) ma) (hr:El K σ F H tr c n mr):El K σ F H (jF ta tr) c (n+1) (ma.bind fun a=>mr.bind fun l=>some (a::l)):=by
 intro F1 H1 E l e Q k;obtain⟨a,ea,e⟩:=bind_some e;obtain⟨r,er,e⟩:=bind_some e;cases e;refine ha F1 H1 E a ea _ fun v F2 H2 E2 hv=>hr F2 H2 (E.trans E2) r er _ fun vs F3 H3 E3 hvs hl=>?_;exact k _ F3 H3 (E2.trans E3) (.cons (c.mono E3.f hv) hvs) (by simp[hl])
theorem qN (h:El K σ F H tr c n m) (hn:n<=16777216):Ev K σ F H (jiN tr) (rO c) m:=by
 intro F1 H1 E l e Q k;refine h F1 H1 E l e _ fun vs F2 H2 E2 hv hl=>⟨by rw[hl,XH]; exact hn,fun a ha=>?_⟩;exact zg (c:=c) E2.sub hv (fun v F5 H5 E5 hr=>k v F5 H5 (E2.trans E5) ((rO c).back E2.h hr)) a ha
theorem ya (h:El K σ F H tr c n m) (hn:n<=16777216):Ev K σ F H (jcd tr) (rF (cT c)) m:=by
 intro F1 H1 E l e Q k;refine h F1 H1 E l e _ fun vs F2 H2 E2 hv hl=>⟨by rw[hl,XH]; exact hn,fun a ha=>?_⟩;exact Q5 (c:=c) E2.sub hv (fun v F5 H5 E5 hr=>k v F5 H5 (E2.trans E5) hr) a ha
theorem jai (ha:Ev K σ F H ta (rF c) ma) (hb:Ev K σ F H tb (rF d) mb):Ev K σ F H (jcd (jF ta (jF tb qD))) (rF (cP c d)) (ma.bind fun a=>mb.bind fun b=>some (a,b)):=by
 intro F1 H1 E l e Q k;obtain⟨a,ea,e⟩:=bind_some e;obtain⟨b,eb,e⟩:=bind_some e;cases e;refine ha F1 H1 E a ea _ fun v F2 H2 E2 hv=>hb F2 H2 (E.trans E2) b eb _ fun w F3 H3 E3 hw=>⟨by show 2<=sizeLine; rw[XH]; decide,fun x hx=>?_⟩;have s:=E3.sub;exact k _ (upd F3 x (.tup [v,w])) _ (E2.trans (E3.trans (Ext.newF s hx))) ⟨x,v,w,rfl,jB,c.mono (E3.f.trans (kn (s.free hx))) hv,d.mono (kn (s.free hx)) hw⟩
theorem jeZ {e:Cd γ}{mc:Option γ} (ha:Ev K σ F H ta (rF c) ma) (hb:Ev K σ F H tb (rF d) mb) (hc:Ev K σ F H tc (rF e) mc):Ev K σ F H (jcd (jF ta (jF tb (jF tc qD)))) (rF (cQ c d e)) (ma.bind fun a=>mb.bind fun b=>mc.bind fun z=>some (a,b,z)):=by
 intro F1 H1 E l ee Q k;obtain⟨a,ea,ee⟩:=bind_some ee;obtain⟨b,eb,ee⟩:=bind_some ee;obtain⟨z,ez,ee⟩:=bind_some ee;cases ee;refine ha F1 H1 E a ea _ fun v F2 H2 E2 hv=>hb F2 H2 (E.trans E2) b eb _ fun w F3 H3 E3 hw=>hc F3 H3 (E.trans (E2.trans E3)) z ez _ fun y F4 H4 E4 hy=>⟨by show 3<=sizeLine; rw[XH]; decide,fun x hx=>?_⟩;have s:=E4.sub;exact k _ (upd F4 x (.tup [v,w,y])) _ (E2.trans (E3.trans (E4.trans (Ext.newF s hx)))) ⟨x,v,w,y,rfl,jB,c.mono (E3.f.trans (E4.f.trans (kn (s.free hx)))) hv,d.mono (E4.f.trans (kn (s.free hx))) hw,e.mono (kn (s.free hx)) hy⟩
def sp1 (K:W.Frag) (p1:Pm α1) (rs:Rs γ) (m:α1->Option γ):Sp:=fun vs H Q _=>∃ (x1:α1) (v1:V) (F:Hp) (r:γ),vs=[v1]/\Same F H/\p1.rel K F H x1 v1/\m x1=some r/\∀ u F' H',Ext F H F' H'->rs.rel K H F' H' r u->Q u H'
theorem W0 {p1:Pm α1}{m:α1->Option γ} (h1:Ev K σ F H t1 p1.rs m1):Ev K σ F H (Gi (sp1 K p1 rs m) [] E0 (jF t1 qD)) rs (m1.bind fun x1=>m x1):=by
 intro F0 H0 E0' z e Q k;obtain⟨x1,e1,e⟩:=bind_some e;refine h1 F0 H0 (E0') x1 e1 _ fun v1 F1 H1 E1 r1=>?_;exact⟨x1,v1,F1,z,rfl,E1.sub,r1,e,fun u F' H' E' hu=>k u F' H' ((E1).trans E') (rs.back (E1).h hu)⟩
def jhY (c:Cd α) (C:Addr) (m:Str):Prop:=∀ {K:W.Frag}{F:Hp}{o:α}{v:V},c.rep K F o v->∃ a dx fs,v=.ref a/\F a=some (.ins C dx fs)/\fs.lookup m=none
theorem jcq {c1:Cd α1}{m:α1->Option γ} (ob:jhY c1 C nm) (h1:Ev K σ F H t1 (rF c1) m1):Ev K σ F H (ZZ C nm (sp1 K (pF c1) rs m) [] E0 t1 qD) rs (m1.bind fun x1=>m x1):=by
 intro F0 H0 E0' z e Q k;obtain⟨x1,e1,e⟩:=bind_some e;refine h1 F0 H0 (E0') x1 e1 _ fun v1 F1 H1 E1 r1=>?_;obtain⟨a,dx,fs,ea,ha,hl⟩:=ob r1;refine⟨a,dx,fs,ea,E1.sub _ _ ha,hl,?_⟩;exact⟨x1,v1,F1,z,rfl,E1.sub,r1,e,fun u F' H' E' hu=>k u F' H' ((E1).trans E') (rs.back (E1).h hu)⟩
def sp2 (K:W.Frag) (p1:Pm α1) (p2:Pm α2) (rs:Rs γ) (m:α1->α2->Option γ):Sp:=fun vs H Q _=>∃ (x1:α1) (x2:α2) (v1 v2:V) (F:Hp) (r:γ),vs=[v1,v2]/\Same F H/\p1.rel K F H x1 v1/\p2.rel K F H x2 v2/\m x1 x2=some r/\∀ u F' H',Ext F H F' H'->rs.rel K H F' H' r u->Q u H'
theorem W1 {p1:Pm α1}{p2:Pm α2}{m:α1->α2->Option γ} (h1:Ev K σ F H t1 p1.rs m1) (h2:Ev K σ F H t2 p2.rs m2):Ev K σ F H (Gi (sp2 K p1 p2 rs m) [] E0 (jF t1 (jF t2 qD))) rs (m1.bind fun x1=>m2.bind fun x2=>m x1 x2):=by
 intro F0 H0 E0' z e Q k;obtain⟨x1,e1,e⟩:=bind_some e;obtain⟨x2,e2,e⟩:=bind_some e;refine h1 F0 H0 (E0') x1 e1 _ fun v1 F1 H1 E1 r1=>?_;refine h2 F1 H1 ((E0').trans E1) x2 e2 _ fun v2 F2 H2 E2 r2=>?_;exact⟨x1,x2,v1,v2,F2,z,rfl,E2.sub,p1.mono (E2) r1,r2,e,fun u F' H' E' hu=>k u F' H' ((E1.trans (E2)).trans E') (rs.back (E1.trans (E2)).h hu)⟩
def sp3 (K:W.Frag) (p1:Pm α1) (p2:Pm α2) (p3:Pm α3) (rs:Rs γ) (m:α1->α2->α3->Option γ):Sp:=fun vs H Q _=>∃ (x1:α1) (x2:α2) (x3:α3) (v1 v2 v3:V) (F:Hp) (r:γ),vs=[v1,v2,v3]/\Same F H/\p1.rel K F H x1 v1/\p2.rel K F H x2 v2/\p3.rel K F H x3 v3/\m x1 x2 x3=some r/\∀ u F' H',Ext F H F' H'->rs.rel K H F' H' r u->Q u H'
theorem jcr {p1:Pm α1}{p2:Pm α2}{p3:Pm α3}{m:α1->α2->α3->Option γ}{m3:Option α3} (h1:Ev K σ F H t1 p1.rs m1) (h2:Ev K σ F H t2 p2.rs m2) (h3:Ev K σ F H t3 p3.rs m3):Ev K σ F H (Gi (sp3 K p1 p2 p3 rs m) [] E0 (jF t1 (jF t2 (jF t3 qD)))) rs (m1.bind fun x1=>m2.bind fun x2=>m3.bind fun x3=>m x1 x2 x3):=by
 intro F0 H0 E0' z e Q k;obtain⟨x1,e1,e⟩:=bind_some e;obtain⟨x2,e2,e⟩:=bind_some e;obtain⟨x3,e3,e⟩:=bind_some e;refine h1 F0 H0 (E0') x1 e1 _ fun v1 F1 H1 E1 r1=>?_;refine h2 F1 H1 ((E0').trans E1) x2 e2 _ fun v2 F2 H2 E2 r2=>?_;refine h3 F2 H2 (((E0').trans E1).trans E2) x3 e3 _ fun v3 F3 H3 E3 r3=>?_;exact⟨x1,x2,x3,v1,v2,v3,F3,z,rfl,E3.sub,p1.mono (E2.trans (E3)) r1,p2.mono (E3) r2,r3,e,fun u F' H' E' hu=>k u F' H' ((E1.trans (E2.trans (E3))).trans E') (rs.back (E1.trans (E2.trans (E3))).h hu)⟩
def jaj (K:W.Frag) (c:Cd α) (f:Str) (d:Cd β) (g:α->β):Prop:=∀ {F:Hp}{o:α}{v:V},c.rep K F o v->∃ a C dx fs u,v=.ref a/\F a=some (.ins C dx fs)/\Cls K C/\NoAttr K C f/\fs.lookup f=some u/\d.rep K F (g o) u
theorem jgG {f:Str}{g:α->β} (hf:jaj K c f d g) (h:Ev K σ F H t (rF c) ma):Ev K σ F H (jgl K t f) (rF d) (ma.bind fun o=>some (g o)):=by
 intro F1 H1 E z e Q k;obtain⟨o,eo,e⟩:=bind_some e;cases e;refine h F1 H1 E o eo _ fun v F2 H2 E2 hv=>?_;obtain⟨a,C,dx,fs,u,e1,e2,e3,e4,e5,e6⟩:=hf hv;exact⟨a,C,dx,fs,u,e1,E2.sub _ _ e2,e3,e4,e5,k u F2 H2 E2 e6⟩
end
section
variable {F:Hp}{t tb:TE}{c:Cd α}{d:Cd β}{p:Pm α}{q:Pm β}{rs:Rs γ} 
structure Own (K:W.Frag) (He F H:Hp) (c:Cd α) (l:List α) (a:Addr):Prop where
 e:He a=none
 f:F a=none
 h:∃ xs,H a=some (.lst xs)/\Paired (c.rep K F) l xs
theorem Own.mono (o:Own K He F H c l a) (E:Ext F H F' H'):Own K He F' H' c l a:=by
 obtain⟨xs,h1,h2⟩:=o.h;refine⟨o.e,?_,xs,E.h _ _ h1,Paired.mapP h2 fun _ _=>c.mono E.f⟩;cases e:F' a with
 | none=>rfl
 | some u=>
  rcases E.new a u e with z | z
  ·rw[o.f] at z; cases z
  ·rw[h1] at z; cases z
theorem Own.b (o:Own K He F H c l a):(pB c).rel K F H l (.ref a):=let ⟨xs,h1,h2⟩:=o.h; ⟨a,xs,rfl,h1,h2⟩
structure Chg (a:Addr) (F H F' H':Hp):Prop where
 f:Same F F'
 h:∀ b o,b≠a->H b=some o->H' b=some o
 new:∀ b o,b≠a->F' b=some o->F b=some o \/ Fr (H b)
theorem Own.freeze (o:Own K He F H c l a) (X:Ext Fe He F H):∃ F',Ext Fe He F' H/\Chg a F H F' H/\(cL c).rep K F' l (.ref a):=by
 obtain⟨xs,h1,h2⟩:=o.h;exact⟨upd F a (.lst xs),X.frz o.e o.f h1,⟨kn o.f,fun _ _ _ h=>h,fun b u e hb=>by rw[jz e] at hb; exact .inl hb⟩,a,xs,rfl,jB,Paired.mapP h2 fun _ _=>c.mono (kn o.f)⟩
def Bor (K:W.Frag) (He F:Hp) (c:Cd α) (l:List α) (v:V):Prop:=(pB c).rel K F He l v
theorem Bor.mono {v:V} (b:Bor K He F c l v) (s:Same F F'):Bor K He F' c l v:=let ⟨a,xs,h0,h1,h2⟩:=b; ⟨a,xs,h0,h1,Paired.mapP h2 fun _ _=>c.mono s⟩
theorem Bor.b {v:V} (b:Bor K He F c l v) (X:Ext Fe He F H):(pB c).rel K F H l v:=let ⟨a,xs,h0,h1,h2⟩:=b; ⟨a,xs,h0,X.h _ _ h1,h2⟩
theorem jak {m:Option α}{f:α->Option δ} (he:Ev K σ F H te p.rs m) (X:Ext Fe He F H) (hm:m.bind f=some r) (k:∀ a v F' H',f a=some r->Ext F H F' H'->Ext Fe He F' H'->p.rel K F' H' a v->D.nx (σ.set i (some v)) H'):GN te (kF i) D σ H:=by
 obtain⟨a,ea,hm⟩:=bind_some hm;exact he F H (Ext.refl X.sub) a ea _ fun v F2 H2 E hv=>k a v F2 H2 hm E (X.trans E) hv
theorem yP {m:Option Int}{f:Int->Option δ} (he:Ev K σ F H te (rF cI) m) (X:Ext Fe He F H) (hm:m.bind f=some r) (k:∀ a F' H',f a=some r->Ext F H F' H'->Ext Fe He F' H'->D.nx (σ.set i (some (.int a))) H'):GN te (kF i) D σ H:=
 jak (p:=pF cI) he X hm fun a v F' H' h1 h2 h3 h4=>by have e:v=.int a:=h4; subst e; exact k a F' H' h1 h2 h3
theorem je0 {m:Option Unit}{f:Unit->Option δ} (he:Ev K σ F H te (rF cU) m) (X:Ext Fe He F H) (hm:m.bind f=some r) (k:∀ F' H',f ()=some r->Ext F H F' H'->Ext Fe He F' H'->D.nx (σ.set i (some .non)) H'):GN te (kF i) D σ H:=
 jak (p:=pF cU) he X hm fun a v F' H' h1 h2 h3 h4=>by have e:v=.non:=h4; subst e; exact k F' H' h1 h2 h3
theorem je1 {f:List α->Option δ} (he:Ev K σ F H te (rO c) m) (X:Ext Fe He F H) (hm:m.bind f=some r) (k:∀ l a F' H',f l=some r->Ext F H F' H'->Ext Fe He F' H'->H a=none->Own K He F' H' c l a->D.nx (σ.set i (some (.ref a))) H'):GN te (kF i) D σ H:=by
 obtain⟨a,ea,hm⟩:=bind_some hm;refine he F H (Ext.refl X.sub) a ea _ ?_;rintro v F2 H2 E ⟨b,xs,rfl,h1,h2,h3,h4⟩;exact k a b F2 H2 hm E (X.trans E) h1 ⟨X.h.free h1,h2,xs,h3,h4⟩
theorem je2 {m:Option (α×β)}{f:α×β->Option δ} (he:Ev K σ F H te (rF (cP c d)) m) (X:Ext Fe He F H) (hm:m.bind f=some r)
  (k:∀ x y u v F' H',f (x,y)=some r->Ext F H F' H'->Ext Fe He F' H'->c.rep K F' x u->d.rep K F' y v->D.nx ((σ.set i (some u)).set j (some v)) H'):GN te (jb3 K 2 (x4 (kF i) (x4 (kF j) jb2))) D σ H:=by
 obtain⟨⟨x,y⟩,ea,hm⟩:=bind_some hm;refine he F H (Ext.refl X.sub) _ ea _ ?_;rintro w F2 H2 E ⟨a,u,v,rfl,h1,h2,h3⟩;exact⟨a,[u,v],rfl,SqT.of (E.sub _ _ h1),rfl,u,[v],rfl,v,[],rfl,rfl,k x y u v F2 H2 hm E (X.trans E) h2 h3⟩
theorem je3 {e:Cd γ}{m:Option (α×β×γ)}{f:α×β×γ->Option δ} (he:Ev K σ F H te (rF (cQ c d e)) m) (X:Ext Fe He F H) (hm:m.bind f=some r)
  (k:∀ x y z u v w F' H',f (x,y,z)=some r->Ext F H F' H'->Ext Fe He F' H'->c.rep K F' x u->d.rep K F' y v->e.rep K F' z w->D.nx (((σ.set i (some u)).set j (some v)).set k' (some w)) H'):GN te (jb3 K 3 (x4 (kF i) (x4 (kF j) (x4 (kF k') jb2)))) D σ H:=by
 obtain⟨⟨x,y,z⟩,ea,hm⟩:=bind_some hm;refine he F H (Ext.refl X.sub) _ ea _ ?_;rintro w' F2 H2 E ⟨a,u,v,w,rfl,h1,h2,h3,h4⟩;exact⟨a,[u,v,w],rfl,SqT.of (E.sub _ _ h1),rfl,u,[v,w],rfl,v,[w],rfl,w,[],rfl,rfl,k x y z u v w F2 H2 hm E (X.trans E) h2 h3 h4⟩
theorem kc {r:γ}{m:Option γ} (he:Ev K σ F H te rs m) (X:Ext Fe He F H) (hm:m=some r) (k:∀ v F' H',Ext Fe He F' H'->rs.rel K He F' H' r v->D.rt v H'):jgi te D σ H:=
 he F H (Ext.refl X.sub) r hm _ fun v F2 H2 E hv=>k v F2 H2 (X.trans E) (rs.back X.h hv)
theorem jal {r:List α} (hi:σ[i]?=some (some (.ref a))) (o:Own K He F H c l a) (X:Ext Fe He F H) (hm:some l=some r) (k:∀ v F' H',Ext Fe He F' H'->(rO c).rel K He F' H' r v->D.rt v H'):jgi (GM i) D σ H:=by
 cases hm;obtain⟨xs,h1,h2⟩:=o.h;exact⟨_,hi,k _ F H X ⟨a,xs,rfl,o.e,o.f,h1,h2⟩⟩
theorem jcs {u:TT}{t t':TS}{m:Option Bool}{A:Option δ} (hc:Et K σ F H u m) (X:Ext Fe He F H) (hm:(m.bind fun b=>bif b then A else B)=some r) (h1:∀ F' H',A=some r->Ext F H F' H'->Ext Fe He F' H'->t D σ H')
  (h2:∀ F' H',B=some r->Ext F H F' H'->Ext Fe He F' H'->t' D σ H'):ZN u t t' D σ H:=by
 obtain⟨b,eb,hm⟩:=bind_some hm;refine hc F H (Ext.refl X.sub) b eb _ fun F2 H2 E=>?_;cases b with
 | true=>exact VZ (h1 F2 H2 hm E (X.trans E))
 | false=>exact VY (h2 F2 H2 hm E (X.trans E))
theorem jdW {u:TT}{t t':TS}{b:Bool}{A:Option δ} (hc:Et K σ F H u (some b)) (X:Ext Fe He F H) (hm:(bif b then A else B)=some r) (h1:∀ F' H',b=true->A=some r->Ext F H F' H'->Ext Fe He F' H'->t D σ H')
  (h2:∀ F' H',b=false->B=some r->Ext F H F' H'->Ext Fe He F' H'->t' D σ H'):ZN u t t' D σ H:=by
 refine hc F H (Ext.refl X.sub) b rfl _ fun F2 H2 E=>?_;cases b with
 | true=>exact VZ (h1 F2 H2 rfl hm E (X.trans E))
 | false=>exact VY (h2 F2 H2 rfl hm E (X.trans E))
theorem U9 {u:TT}{t t':TS}{m:Option Bool}{A B:Option β}{f:β->Option δ} (I:β->St->Hp->Prop) (hc:Et K σ F H u m) (X:Ext Fe He F H) (hm:(m.bind fun b=>bif b then A else B).bind f=some r)
  (h1:∀ b F' H',A=some b->Ext F H F' H'->Ext Fe He F' H'->t { D with nx:=I b } σ H') (h2:∀ b F' H',B=some b->Ext F H F' H'->Ext Fe He F' H'->t' { D with nx:=I b } σ H') (hk:∀ b σ' H',f b=some r->I b σ' H'->D.nx σ' H'):jgy (ZN u t t') D σ H:=by
 obtain⟨b,eb,hm⟩:=bind_some hm;obtain⟨x,ex,eb⟩:=bind_some eb;refine⟨I b,?_,fun σ' H' h=>hk b σ' H' hm h⟩;refine hc F H (Ext.refl X.sub) x ex _ fun F2 H2 E=>?_;cases x with
 | true=>exact VZ (h1 b F2 H2 eb E (X.trans E))
 | false=>exact VY (h2 b F2 H2 eb E (X.trans E))
theorem Q6 {u:TT}{t t':TS}{x:Bool}{A B:Option β}{f:β->Option δ} (I:β->St->Hp->Prop) (hc:Et K σ F H u (some x)) (X:Ext Fe He F H) (hm:(bif x then A else B).bind f=some r)
  (h1:∀ b F' H',A=some b->Ext F H F' H'->Ext Fe He F' H'->t { D with nx:=I b } σ H') (h2:∀ b F' H',B=some b->Ext F H F' H'->Ext Fe He F' H'->t' { D with nx:=I b } σ H') (hk:∀ b σ' H',f b=some r->I b σ' H'->D.nx σ' H'):jgy (ZN u t t') D σ H:=
 U9 (m:=some x) I hc X hm h1 h2 hk
theorem je4 {m:Option γ}{f:γ->Option δ} (he:Ev K σ F H te rs m) (X:Ext Fe He F H) (hm:m.bind f=some r) (k:∀ a F' H',f a=some r->Ext F H F' H'->Ext Fe He F' H'->D.nx σ H'):JV te D σ H:=by
 obtain⟨a,ea,hm⟩:=bind_some hm;exact he F H (Ext.refl X.sub) a ea _ fun v F2 H2 E hv=>k a F2 H2 hm E (X.trans E)
@[irreducible] def VQ (l:List α) (y:α):Option (List α):=if l.length<16777216 then some (l++[y]) else none
theorem jam (X:Ext Fe He F H) (he:He a=none) (hf:F a=none) (h:Paired (c.rep K F) l xs):Ext Fe He F (upd H a (.lst xs))/\Own K He F (upd H a (.lst xs)) c l a:=
 ⟨X.upd he hf,he,hf,xs,jB,h⟩
theorem Jd {F:Hp}{o:HO} (E:Ext F H F' H'):Chg a F H F' (upd H' a o):=
 ⟨E.f,fun b u hb h=>by rw[jz hb]; exact E.h b u h,fun b u _ h=>E.new b u h⟩
theorem yQ {m:Option α}{f:List α->Option δ} (hi:σ[i]?=some (some (.ref a))) (o:Own K He F H c l a) (he:Ev K σ F H te (rF c) m) (X:Ext Fe He F H) (hm:(m.bind fun y=>VQ l y).bind f=some r)
  (k:∀ l' F' H',f l'=some r->Chg a F H F' H'->Ext Fe He F' H'->Own K He F' H' c l' a->D.nx σ H'):JV (tBM K "list" G5 (GM i) (jF te qD)) D σ H:=by
 obtain⟨l',el,hm⟩:=bind_some hm;obtain⟨y,ey,el⟩:=bind_some el;unfold VQ at el;obtain⟨hl,rfl⟩:=ki el;obtain⟨xs,h1,h2⟩:=o.h;refine⟨_,hi,.inl ⟨rfl,_,SqL.of h1⟩,he F H (Ext.refl X.sub) y ey _ fun v F2 H2 E hv=>?_⟩;have o2:=o.mono E;have h3:Paired (c.rep K F2) l xs:=Paired.mapP h2 fun _ _=>c.mono E.f;refine⟨a,xs,v,rfl,rfl,E.h _ _ h1,by rw[XH,<- h2.length]; exact hl,?_⟩;obtain⟨X',o'⟩:=jam (K:=K) (c:=c) (X.trans E) o.e o2.f (Paired.app h3 (.cons hv .nil));exact k _ F2 _ hm (Jd E) X' o'
structure ItOk (K:W.Frag) (J:It) (c:Cd α) (l:List α) (G:Hp->Hp->Prop):Prop where
 go:∀ i F H,G F H->i<l.length->J.go i H
 yld:∀ i F H x H',G F H->J.yld i H x H'->∀ a,l[i]?=some a->∃ F',Ext F H F' H'/\c.rep K F' a x
 stop:∀ F H,G F H->J.stop l.length H
theorem V5 (h:∀ F H,G F H->SqL K H a xs/\Same F1 F/\Same F H) (hp:Paired (c.rep K F1) l xs):ItOk K (Itl K a) c l G where
 go:=fun i F H g hi=>⟨xs,xs[i]'(by rw[<- hp.length]; exact hi),(h F H g).1,Xg _⟩
 yld:=fun i F H x H' g y b hb=>by
  obtain⟨e,y⟩:=y;subst e;obtain⟨s1,s2,s3⟩:=h F _ g;obtain⟨v,hv,r⟩:=Paired.at hp hb;have:=y xs s1;rw[hv] at this;cases this;exact⟨F,Ext.refl s3,c.mono s2 r⟩
 stop:=fun F H g=>⟨xs,(h F H g).1,by rw[hp.length]; exact Xh _⟩
theorem jgH (h:∀ F H,G F H->SqT K H a xs/\Same F1 F/\Same F H) (hp:Paired (c.rep K F1) l xs):ItOk K (Itt K a) c l G where
 go:=fun i F H g hi=>⟨xs,xs[i]'(by rw[<- hp.length]; exact hi),(h F H g).1,Xg _⟩
 yld:=fun i F H x H' g y b hb=>by
  obtain⟨e,y⟩:=y;subst e;obtain⟨s1,s2,s3⟩:=h F _ g;obtain⟨v,hv,r⟩:=Paired.at hp hb;have:=y xs s1;rw[hv] at this;cases this;exact⟨F,Ext.refl s3,c.mono s2 r⟩
 stop:=fun F H g=>⟨xs,(h F H g).1,by rw[hp.length]; exact Xh _⟩
def yR (lo hi:Int):List Int:=(List.range (hi-lo).toNat).map fun k=>lo+((k:Nat):Int)
theorem Qs (lo hi:Int):(yR lo hi).length=(hi-lo).toNat:=by simp[yR]
@[irreducible] def yg (lo hi:Int):Option (List Int):=if -(2 ^ 62)<=lo/\lo<2 ^ 62/\-(2 ^ 62)<=hi/\hi<2 ^ 62 then some (yR lo hi) else none
theorem W2 {lo hi:Int} (h:∀ F H,G F H->Same F H):ItOk K (Itr lo (hi-lo).toNat) cI (yR lo hi) G where
 go:=fun i F H g hi'=>by rw[Qs] at hi'; exact hi'
 yld:=fun i F H x H' g y b hb=>by
  obtain⟨e,y⟩:=y;subst e y;refine⟨F,Ext.refl (h F _ g),?_⟩;unfold yR at hb;rw[Xt] at hb;cases q:(List.range (hi-lo).toNat)[i]? with
  | none=>rw[q] at hb; cases hb
  | some j=>
   rw[q] at hb;have hij:j=i:=by
    obtain⟨h1,h2⟩:=List.getElem?_eq_some_iff.mp q;simpa using h2.symm
   subst hij;cases hb;rfl
 stop:=fun F H g=>by rw[Qs]; exact Xh _
def Ei (K:W.Frag) (σ:St) (F H Fe He:Hp) (wi:TI) (c:Cd α) (m:Option (List α)):Prop:=
 Ext Fe He F H->∀ l,m=some l->∀ R:It->Hp->Prop,(∀ J F1 H1,Ext F H F1 H1->ItOk K J c l (fun F' H'=>Ext Fe He F' H'/\Same F1 F')->R J H1)->wi σ H R
theorem V6 (h:Ev K σ F H t (rF (cL c)) m):Ei K σ F H Fe He (jb9 K t) c m:=by
 intro X l e R k;refine h F H (Ext.refl X.sub) l e _ ?_;rintro v F2 H2 E ⟨a,xs,rfl,h1,h2⟩;exact⟨a,rfl,⟨xs,SqL.of (E.sub _ _ h1)⟩,k _ F2 H2 E (V5 (F1:=F2) (fun F' H' g=>⟨SqL.of (g.1.sub _ _ (g.2 _ _ h1)),g.2,g.1.sub⟩) h2)⟩
theorem jdX (h:Ev K σ F H t (rF (cT c)) m):Ei K σ F H Fe He (jiL K t) c m:=by
 intro X l e R k;refine h F H (Ext.refl X.sub) l e _ ?_;rintro v F2 H2 E ⟨a,xs,rfl,h1,h2⟩;exact⟨a,rfl,⟨xs,SqT.of (E.sub _ _ h1)⟩,k _ F2 H2 E (jgH (F1:=F2) (fun F' H' g=>⟨SqT.of (g.1.sub _ _ (g.2 _ _ h1)),g.2,g.1.sub⟩) h2)⟩
theorem jan {v:V} (hi:σ[i]?=some (some v)) (b:Bor K He F c l v):Ei K σ F H Fe He (jb9 K (GM i)) c (some l):=by
 intro X l' e R k;cases e;obtain⟨a,xs,rfl,h1,h2⟩:=b;exact⟨_,hi,a,rfl,⟨xs,SqL.of (X.h _ _ h1)⟩,k _ F H (Ext.refl X.sub) (V5 (F1:=F) (fun F' H' g=>⟨SqL.of (g.1.h _ _ h1),g.2,g.1.sub⟩) h2)⟩
theorem jao {m:Option Int} (h:Ev K σ F H t (rF cI) m):Ei K σ F H Fe He (QQ (jF t qD)) cI (m.bind fun j=>yg 0 j):=by
 intro X l e R k;obtain⟨j,ej,e⟩:=bind_some e;unfold yg at e;obtain⟨⟨h1,h2,h3,h4⟩,rfl⟩:=ki e;refine h F H (Ext.refl X.sub) j ej _ fun v F2 H2 E hv=>?_;have ev:v=.int j:=hv;subst ev;refine⟨j,rfl,h3,h4,?_⟩;have q:=k (Itr 0 (j-0).toNat) F2 H2 E (W2 fun F' H' g=>g.1.sub);rw[Int.sub_zero] at q;exact q
theorem je5 {m m':Option Int} (h:Ev K σ F H t (rF cI) m) (h':Ev K σ F H ta (rF cI) m'):Ei K σ F H Fe He (VW (jF t (jF ta qD))) cI (m.bind fun i=>m'.bind fun j=>yg i j):=by
 intro X l e R k;obtain⟨i,ei,e⟩:=bind_some e;obtain⟨j,ej,e⟩:=bind_some e;unfold yg at e;obtain⟨⟨h1,h2,h3,h4⟩,rfl⟩:=ki e;refine h F H (Ext.refl X.sub) i ei _ fun v F2 H2 E hv=>h' F2 H2 E j ej _ fun v' F3 H3 E3 hv'=>?_;have ev:v=.int i:=hv;have ev':v'=.int j:=hv';subst ev ev';exact⟨i,j,rfl,⟨h1,h2,h3,h4⟩,k (Itr i (j-i).toNat) F3 H3 (E.trans E3) (W2 fun F' H' g=>g.1.sub)⟩
def Ec (K:W.Frag) (σ:St) (F H:Hp) (wi:TI) (c:Cd α) (m:Option (List α)):Prop:=
 ∀ F1 H1,Ext F H F1 H1->∀ l,m=some l->∀ R:It->Hp->Prop,(∀ J F2 H2,Ext F1 H1 F2 H2->ItOk K J c l (fun F' H'=>Ext F2 H2 F' H')->R J H2)->wi σ H1 R
theorem yq (h:Ev K σ F H t (pR c).rs m):Ec K σ F H (jb9 K t) c m:=by
 intro F1 H1 X l e R k;refine h F1 H1 X l e _ ?_;rintro v F2 H2 E ⟨a,xs,rfl,h1,h2⟩;exact⟨a,rfl,⟨xs,h1⟩,k _ F2 H2 E (V5 (F1:=F2) (fun F' H' g=>⟨g.h.seq h1,g.f,g.sub⟩) h2)⟩
theorem jap {m:Option Int} (h:Ev K σ F H t (rF cI) m):Ec K σ F H (QQ (jF t qD)) cI (m.bind fun j=>yg 0 j):=by
 intro F1 H1 X l e R k;obtain⟨j,ej,e⟩:=bind_some e;unfold yg at e;obtain⟨⟨h1,h2,h3,h4⟩,rfl⟩:=ki e;refine h F1 H1 X j ej _ fun v F2 H2 E hv=>?_;have ev:v=.int j:=hv;subst ev;refine⟨j,rfl,h3,h4,?_⟩;have q:=k (Itr 0 (j-0).toNat) F2 H2 E (W2 fun F' H' g=>g.sub);rw[Int.sub_zero] at q;exact q
theorem je6 {m m':Option Int} (h:Ev K σ F H t (rF cI) m) (h':Ev K σ F H ta (rF cI) m'):Ec K σ F H (VW (jF t (jF ta qD))) cI (m.bind fun i=>m'.bind fun j=>yg i j):=by
 intro F1 H1 X l e R k;obtain⟨i,ei,e⟩:=bind_some e;obtain⟨j,ej,e⟩:=bind_some e;unfold yg at e;obtain⟨⟨h1,h2,h3,h4⟩,rfl⟩:=ki e;refine h F1 H1 X i ei _ fun v F2 H2 E hv=>h' F2 H2 (X.trans E) j ej _ fun v' F3 H3 E3 hv'=>?_;have ev:v=.int i:=hv;have ev':v'=.int j:=hv';subst ev ev';exact⟨i,j,rfl,⟨h1,h2,h3,h4⟩,k (Itr i (j-i).toNat) F3 H3 (E.trans E3) (W2 fun F' H' g=>g.sub)⟩
def forM:List α->β->(β->α->Option β)->Option β
 | [],b,_=>some b
 | x::r,b,f=>(f b x).bind fun b'=>forM r b' f
inductive Fl (β γ:Type) where
 | nx (b:β)
 | rt (c:γ)
def Fl.el (x:Fl β γ) (A:γ->δ) (B:β->δ):δ:=match x with
 | .nx b=>B b
 | .rt c=>A c
def W3:List α->β->(β->α->Option (Fl β γ))->Option (Fl β γ)
 | [],b,_=>some (.nx b)
 | x::r,b,f=>(f b x).bind fun s=>match s with
  | .nx b'=>W3 r b' f
  | .rt c=>some (.rt c)
theorem jct {g:TG}{tb:TS}{f:β->α->Option β}{b1:β} (I:β->St->Hp->Hp->Prop) (hJ:ItOk K J c l (fun F' H'=>Ext Fe He F' H'/\Same F1 F')) (hrun:forM l b0 f=some b1)
  (h0:I b0 σ F1 H1) (hG:∀ b σ F H,I b σ F H->Ext Fe He F H/\Same F1 F)
  (hs:∀ b b' x v σ F H F' H',I b σ F H->Ext F H F' H'->c.rep K F' x v->f b x=some b'->g v σ H' fun σ2 H2=>tb { D with nx:=fun σ H=>∃ F,I b' σ F H,ct:=fun σ H=>∃ F,I b' σ F H,bk:=D.nx } σ2 H2)
  (hd:∀ σ F H,I b1 σ F H->D.nx σ H) :
  ∃ W:Nat->Nat->St->Hp->Prop,(∃ m,W 0 m σ H1)/\∀ i m σ H,W i m σ H ->
   (J.stop i H/\D.nx σ H) \/ (J.go i H/\∃ N:St->Hp->Prop,(∀ σ' H',N σ' H'->∃ m',m'<m/\W (i+1) m' σ' H')/\∀ x H',J.yld i H x H'->g x σ H' fun σ2 H2=>tb { D with nx:=N,ct:=N,bk:=D.nx } σ2 H2):=by
 refine⟨fun i m σ H=>m=l.length-i/\i<=l.length/\∃ b F,forM (l.drop i) b f=some b1/\I b σ F H,⟨l.length,by simp,wC _,b0,F1,by simpa using hrun,h0⟩,?_⟩;rintro i m σ H ⟨rfl,hi,b,F,hb,hI⟩;have g0:=hG b σ F H hI;by_cases hlt:i<l.length
 ·have e:l.drop i=l[i]::l.drop (i+1):=List.drop_eq_getElem_cons hlt;rw[e] at hb;obtain⟨b',hf,hb⟩:=bind_some hb;refine .inr ⟨hJ.go i F H g0 hlt,fun σ H=>∃ F,I b' σ F H,fun σ' H' ⟨F',h'⟩=>⟨l.length-(i+1),by omega,rfl,hlt,b',F',hb,h'⟩,fun x H' y=>?_⟩;obtain⟨F',E',r'⟩:=hJ.yld i F H x H' g0 y _ (Xg hlt);exact hs b b' l[i] x σ F H F' H' hI E' r' hf
 ·have e:i=l.length:=by omega
  subst e;rw[List.drop_length] at hb;cases hb;exact .inl ⟨hJ.stop F H g0,hd σ F H hI⟩
theorem jaq {g:TG}{tb:TS}{f:β->α->Option (Fl β γ)}{b1:Fl β γ} (I:β->St->Hp->Hp->Prop) (P:γ->Prop) (hJ:ItOk K J c l (fun F' H'=>Ext Fe He F' H'/\Same F1 F')) (hrun:W3 l b0 f=some b1)
  (hP:∀ c,b1=.rt c->P c) (h0:I b0 σ F1 H1) (hG:∀ b σ F H,I b σ F H->Ext Fe He F H/\Same F1 F)
  (hs:∀ b s x v σ F H F' H',I b σ F H->Ext F H F' H'->c.rep K F' x v->f b x=some s->(∀ c,s=.rt c->P c)->g v σ H' fun σ2 H2=>tb { D with nx:=fun σ H=>∃ b' F,s=.nx b'/\I b' σ F H,ct:=fun σ H=>∃ b' F,s=.nx b'/\I b' σ F H,bk:=D.nx } σ2 H2)
  (hd:∀ b σ F H,b1=.nx b->I b σ F H->D.nx σ H) :
  ∃ W:Nat->Nat->St->Hp->Prop,(∃ m,W 0 m σ H1)/\∀ i m σ H,W i m σ H ->
   (J.stop i H/\D.nx σ H) \/ (J.go i H/\∃ N:St->Hp->Prop,(∀ σ' H',N σ' H'->∃ m',m'<m/\W (i+1) m' σ' H')/\∀ x H',J.yld i H x H'->g x σ H' fun σ2 H2=>tb { D with nx:=N,ct:=N,bk:=D.nx } σ2 H2):=by
 refine⟨fun i m σ H=>m=l.length-i/\i<=l.length/\∃ b F,W3 (l.drop i) b f=some b1/\I b σ F H,⟨l.length,by simp,wC _,b0,F1,by simpa using hrun,h0⟩,?_⟩;rintro i m σ H ⟨rfl,hi,b,F,hb,hI⟩;have g0:=hG b σ F H hI;by_cases hlt:i<l.length
 ·have e:l.drop i=l[i]::l.drop (i+1):=List.drop_eq_getElem_cons hlt;rw[e] at hb;obtain⟨s,hf,hb⟩:=bind_some hb;refine .inr ⟨hJ.go i F H g0 hlt,fun σ H=>∃ b' F,s=.nx b'/\I b' σ F H,?_,fun x H' y=>?_⟩
  ·rintro σ' H' ⟨b',F',rfl,h'⟩;exact⟨l.length-(i+1),by omega,rfl,hlt,b',F',hb,h'⟩
  ·obtain⟨F',E',r'⟩:=hJ.yld i F H x H' g0 y _ (Xg hlt);refine hs b s l[i] x σ F H F' H' hI E' r' hf ?_;rintro c rfl;cases hb;exact hP c rfl
 ·have e:i=l.length:=by omega
  subst e;rw[List.drop_length] at hb;cases hb;exact .inl ⟨hJ.stop F H g0,hd b σ F H rfl hI⟩
theorem GE {g:TG}{tb:TS}{f:β->α->Option β} (hi:Ei K σ F H Fe He wi c m) (X:Ext Fe He F H) (hm:(m.bind fun l=>forM l b0 f).bind kk=some r) (I:Hp->β->St->Hp->Hp->Prop)
  (h0:∀ F1 H1,Ext F H F1 H1->Ext Fe He F1 H1->I F1 b0 σ F1 H1) (hG:∀ F1 b σ F H,I F1 b σ F H->Ext Fe He F H/\Same F1 F)
  (hs:∀ F1 (S0:Same F F1) b b' x v σ F H F' H',I F1 b σ F H->Ext F H F' H'->c.rep K F' x v->f b x=some b'->g v σ H' fun σ2 H2=>tb { D with nx:=fun σ H=>∃ F,I F1 b' σ F H,ct:=fun σ H=>∃ F,I F1 b' σ F H,bk:=D.nx } σ2 H2)
  (hd:∀ F1 (S0:Same F F1) b σ F H,kk b=some r->I F1 b σ F H->D.nx σ H):jdL wi g tb D σ H:=by
 obtain⟨b1,hb,hk⟩:=bind_some hm;obtain⟨l,el,hrun⟩:=bind_some hb;exact hi X l el _ fun J F1 H1 E hJ=>jct (I F1) hJ hrun (h0 F1 H1 E (X.trans E)) (hG F1) (hs F1 E.f) fun σ F H h=>hd F1 E.f b1 σ F H hk h
theorem je7 {g:TG}{tb:TS}{f:β->α->Option (Fl β γ)}{A:γ->Option δ} (P:γ->Prop) (hi:Ei K σ F H Fe He wi c m) (X:Ext Fe He F H) (hm:(m.bind fun l=>W3 l b0 f).bind (fun x=>x.el A kk)=some r) (hP:∀ c,A c=some r->P c) (I:Hp->β->St->Hp->Hp->Prop)
  (h0:∀ F1 H1,Ext F H F1 H1->Ext Fe He F1 H1->I F1 b0 σ F1 H1) (hG:∀ F1 b σ F H,I F1 b σ F H->Ext Fe He F H/\Same F1 F)
  (hs:∀ F1 (S0:Same F F1) b s x v σ F H F' H',I F1 b σ F H->Ext F H F' H'->c.rep K F' x v->f b x=some s->(∀ c,s=.rt c->P c)->g v σ H' fun σ2 H2=>tb { D with nx:=fun σ H=>∃ b' F,s=.nx b'/\I F1 b' σ F H,ct:=fun σ H=>∃ b' F,s=.nx b'/\I F1 b' σ F H,bk:=D.nx } σ2 H2)
  (hd:∀ F1 (S0:Same F F1) b σ F H,kk b=some r->I F1 b σ F H->D.nx σ H):jdL wi g tb D σ H:=by
 obtain⟨b1,hb,hk⟩:=bind_some hm;obtain⟨l,el,hrun⟩:=bind_some hb;exact hi X l el _ fun J F1 H1 E hJ=>jaq (I F1) P hJ hrun (fun c e=>hP c (by subst e; exact hk)) (h0 F1 H1 E (X.trans E)) (hG F1) (hs F1 E.f) fun b σ F H e h=>hd F1 E.f b σ F H (by subst e; exact hk) h
def J0:List α->(α->Option Bool)->(α->Option β)->Option (List β)
 | [],_,_=>some []
 | x::r,p,f=>(p x).bind fun b=>bif b then (f x).bind fun y=>(J0 r p f).bind fun ys=>some (y::ys) else J0 r p f
@[irreducible] def qa (l:List α) (p:α->Option Bool) (f:α->Option β):Option (List β):=if l.length<=16777216 then J0 l p f else none
def Bds (K:W.Frag) (c:Cd α) (g:TG) (n:Nat) (fr:St) (Bd:Hp->α->St->Prop):Prop:=
 ∀ F H x v own Q,own.length=n->c.rep K F x v->Same F H->(∀ own',own'.length=n->Bd F x own'->Q (own'++fr) H)->g v (own++fr) H Q
theorem jar {g:Blk->TG}{tc:Blk->TT}{te:Blk->TE}{mc:α->Option Bool}{me:α->Option β}{fr:St} (Bd:Hp->α->St->Prop) (hi:Ec K σ F H wi c m)
  (hfr:(ix.map fun i=>(σ[i]?).join)=fr) (hg:∀ b,Bds K c (g b) n fr Bd)
  (hc:∀ b x own F' H',Ext F H F' H'->Bd F' x own->Et K (own++fr) F' H' (tc b) (mc x)) (he:∀ b x own F' H',Ext F H F' H'->Bd F' x own->Ev K (own++fr) F' H' (te b) (rF d) (me x)) :
  Ev K σ F H (Gj wi n ix g tc te) (rO d) (m.bind fun l=>qa l mc me):=by
 intro F1 H1 E z ez Q k;obtain⟨l,el,ez⟩:=bind_some ez;obtain⟨hlen,ez⟩:l.length<=16777216/\J0 l mc me=some z:=by
  unfold qa at ez;by_cases h:l.length<=16777216
  ·rw[if_pos h] at ez; exact ⟨h,ez⟩
  ·rw[if_neg h] at ez; cases ez
 refine hi F1 H1 E l el _ fun J F2 H2 E2 hJ b D hD=>?_;have hz:sizeLine=16777216:=XH;have E02:=E.trans E2;refine⟨fun i m ys σ' H'=>m=l.length-i/\i<=l.length/\ys.length<=i/\∃ zs rest F' own,own.length=n/\σ'=own++fr/\Ext F2 H2 F' H'/\F' D=none/\H' D=some (.lst ys)/\Paired (d.rep K F') zs ys/\J0 (l.drop i) mc me=some rest/\zs++rest=z,?_,?_⟩
 ·refine⟨l.length,by simp,wC _,Xh _,[],z,F2,List.replicate n none,by simp,by rw[QX,hfr],Ext.newO E2.sub hD,E2.sub.free hD,jB,.nil,by simpa using ez,rfl⟩
 rintro i m ys σ' H' ⟨rfl,hi',hys,zs,rest,F',own,hown,rfl,X,fD,hHD,hp,hrest,hzr⟩;by_cases hlt:i<l.length
 ·have ed:l.drop i=l[i]::l.drop (i+1):=List.drop_eq_getElem_cons hlt;rw[ed] at hrest;obtain⟨bb,hbb,hrest⟩:=bind_some hrest;refine .inr ⟨hJ.go i F' H' X hlt,fun ys' σ2 H2'=>ys'.length<=i+1/\∃ zs rest F' own,own.length=n/\σ2=own++fr/\Ext F2 H2 F' H2'/\F' D=none/\H2' D=some (.lst ys')/\Paired (d.rep K F') zs ys'/\J0 (l.drop (i+1)) mc me=some rest/\zs++rest=z,
   fun ys' σ2 H2' h=>⟨l.length-(i+1),by omega,rfl,hlt,h⟩,fun x H3 y=>?_⟩
  obtain⟨F3,E3,r3⟩:=hJ.yld i F' H' x H3 X y _ (Xg hlt);have X3:=X.trans E3;refine hg b F3 H3 l[i] x own _ hown r3 X3.sub fun own' hown' hbd=>?_;refine hc b l[i] own' F3 H3 (E02.trans X3) hbd F3 H3 (Ext.refl X3.sub) bb hbb _ fun F4 H4 E4=>?_;have X4:=X3.trans E4;have keepD:∀ {Fa Ha Fb Hb:Hp},Ext Fa Ha Fb Hb->Fa D=none->Ha D=some (.lst ys)->Fb D=none/\Hb D=some (.lst ys):=fun {Fa Ha Fb Hb} Eab f1 h1=>by
   refine⟨?_,Eab.h _ _ h1⟩;cases e:Fb D with
   | none=>rfl
   | some u=>
    rcases Eab.new D u e with w | w
    ·rw[f1] at w; cases w
    ·rw[h1] at w; cases w
  obtain⟨f3,g3⟩:=keepD E3 fD hHD;obtain⟨f4,g4⟩:=keepD E4 f3 g3;cases bb with
  | true=>
   obtain⟨y',hy,hrest⟩:=bind_some hrest;obtain⟨ys2,hys2,hrest⟩:=bind_some hrest;cases hrest;refine VZ (he b l[i] own' F3 H3 (E02.trans X3) hbd F4 H4 E4 y' hy _ fun w F5 H5 E5 hw=>?_);obtain⟨f5,g5⟩:=keepD E5 f4 g4;refine⟨g5,by omega,?_⟩;have X5:=X4.trans E5;refine⟨by simp; omega,zs++[y'],ys2,F5,own',hown',rfl,X5.upd hD f5,f5,jB,Paired.app (Paired.mapP hp fun _ _=>d.mono (E3.f.trans (E4.f.trans E5.f))) (.cons hw .nil),hys2,by rw[<- hzr]; simp⟩
  | false=>
   exact VY ⟨by omega,zs,rest,F4,own',hown',rfl,X4,f4,g4,Paired.mapP hp fun _ _=>d.mono (E3.f.trans E4.f),hrest,hzr⟩
 ·have e:i=l.length:=by omega
  subst e;rw[List.drop_length] at hrest;cases hrest;rw[XU] at hzr;subst hzr;refine .inl ⟨hJ.stop F' H' X,k _ F' H' (E2.trans X) ⟨D,ys,rfl,E2.h.free hD,fD,hHD,hp⟩⟩
theorem ji3 {own:St} (h:own.length=1):∃ v,own=[v]:=by
 match own,h with
 | [v],_=>exact ⟨v,rfl⟩
theorem ji4 {own:St} (h:own.length=2):∃ u v,own=[u,v]:=by
 match own,h with
 | [u,v],_=>exact ⟨u,v,rfl⟩
def Bd1 (K:W.Frag) (c:Cd α):Hp->α->St->Prop:=fun F x own=>∃ v,own=[some v]/\c.rep K F x v
theorem jiS {fr:St}:Bds K c (kF 0) 1 fr (Bd1 K c):=by
 intro F H x v own Q h1 h2 h3 k;obtain⟨u,rfl⟩:=ji3 h1;exact k [some v] rfl ⟨v,rfl,h2⟩
def Bd2 (K:W.Frag) (c:Cd α) (d:Cd β):Hp->α×β->St->Prop:=fun F x own=>∃ u v,own=[some u,some v]/\c.rep K F x.1 u/\d.rep K F x.2 v
theorem ji5 {fr:St}:Bds K (cP c d) (jb3 K 2 (x4 (kF 0) (x4 (kF 1) jb2))) 2 fr (Bd2 K c d):=by
 intro F H x v own Q h1 h2 h3 k;obtain⟨a,u,w,rfl,e1,e2,e3⟩:=h2;obtain⟨u',v',rfl⟩:=ji4 h1;exact⟨a,_,rfl,SqT.of (h3 _ _ e1),rfl,u,_,rfl,w,_,rfl,rfl,k [some u,some w] rfl ⟨u,w,rfl,e2,e3⟩⟩
theorem jcu {tc:Blk->TT}{te:Blk->TE}{mc:α->Option Bool}{me:α->Option β} (hi:Ec K σ F H wi c m) (fr:St) (hfr:(ix.map fun i=>(σ[i]?).join)=fr)
  (hc:∀ b x v F' H',Ext F H F' H'->c.rep K F' x v->Et K (some v::fr) F' H' (tc b) (mc x)) (he:∀ b x v F' H',Ext F H F' H'->c.rep K F' x v->Ev K (some v::fr) F' H' (te b) (rF d) (me x)) :
  Ev K σ F H (Gj wi 1 ix (fun _=>kF 0) tc te) (rO d) (m.bind fun l=>qa l mc me):=
 jar (Bd1 K c) hi hfr (fun _=>jiS) (fun b x own F' H' E ⟨v,e,r⟩=>by subst e; exact hc b x v F' H' E r) fun b x own F' H' E ⟨v,e,r⟩=>by subst e; exact he b x v F' H' E r
theorem W4 {tc:Blk->TT}{te:Blk->TE}{m:Option (List Int)} (hi:Ec K σ F H wi cI m) (fr:St) (hfr:(ix.map fun i=>(σ[i]?).join)=fr)
  (hc:∀ b x F' H',Ext F H F' H'->Et K (some (.int x)::fr) F' H' (tc b) (mc x)) (he:∀ b x F' H',Ext F H F' H'->Ev K (some (.int x)::fr) F' H' (te b) (rF d) (me x)) :
  Ev K σ F H (Gj wi 1 ix (fun _=>kF 0) tc te) (rO d) (m.bind fun l=>qa l mc me):=
 jcu hi fr hfr (fun b x v F' H' E r=>by have e:v=.int x:=r; subst e; exact hc b x F' H' E) fun b x v F' H' E r=>by have e:v=.int x:=r; subst e; exact he b x F' H' E
theorem jcv {tc:Blk->TT}{te:Blk->TE}{d1:Cd β}{e:Cd γ}{m:Option (List (α×β))}{mc:α×β->Option Bool}{me:α×β->Option γ} (hi:Ec K σ F H wi (cP c d1) m) (fr:St) (hfr:(ix.map fun i=>(σ[i]?).join)=fr)
  (hc:∀ b x y u v F' H',Ext F H F' H'->c.rep K F' x u->d1.rep K F' y v->Et K (some u::some v::fr) F' H' (tc b) (mc (x,y))) (he:∀ b x y u v F' H',Ext F H F' H'->c.rep K F' x u->d1.rep K F' y v->Ev K (some u::some v::fr) F' H' (te b) (rF e) (me (x,y))) :
  Ev K σ F H (Gj wi 2 ix (fun _=>jb3 K 2 (x4 (kF 0) (x4 (kF 1) jb2))) tc te) (rO e) (m.bind fun l=>qa l mc me):=
 jar (Bd2 K c d1) hi hfr (fun _=>ji5) (fun b x own F' H' E ⟨u,v,e,r,r'⟩=>by subst e; exact hc b x.1 x.2 u v F' H' E r r') fun b x own F' H' E ⟨u,v,e,r,r'⟩=>by subst e; exact he b x.1 x.2 u v F' H' E r r'
theorem yS:Et K σ F H jiQ (some true):=fun F1 H1 E b e Q k=>by cases e; exact k F1 H1 (Ext.refl E.sub)
end
section
variable {F:Hp}{t tb:TE}{c:Cd α}{d:Cd β}{p:Pm α}{q:Pm β}{rs:Rs γ}{mb:Option Int}{i j:Int}
theorem Q7 {m:Option α}{f:α->Option δ} (he:Ev K σ F H te (rF c) m) (X:Ext Fe He F H) (hm:m.bind f=some r) (k:∀ a v F' H',f a=some r->Ext F H F' H'->Ext Fe He F' H'->c.rep K F' a v->D.nx (σ.set k' (some v)) H'):GN te (kF k') D σ H:=
 jak (p:=pF c) he X hm k
theorem qX {k:Nat}{v:V}{Q:St->Hp->Prop} (h:Q (σ.set k (some v)) H):kF k v σ H Q:=h
theorem W5 {k l:Nat}{w:V}{x:α}{y:β}{Q:St->Hp->Prop} (r:(cP c d).rep K F (x,y) w) (s:Same F H) (h:∀ u v,c.rep K F x u->d.rep K F y v->Q ((σ.set k (some u)).set l (some v)) H):jb3 K 2 (x4 (kF k) (x4 (kF l) jb2)) w σ H Q:=by
 obtain⟨a,u,v,rfl,h1,h2,h3⟩:=r;exact⟨a,[u,v],rfl,SqT.of (s _ _ h1),rfl,u,[v],rfl,v,[],rfl,rfl,h u v h2 h3⟩
theorem jdY (h:-(2 ^ 64)<i/\i<2 ^ 64):ZD i j=some (i * j):=by unfold ZD; exact if_pos (.inl h)
theorem jgI (h:-(2 ^ 64)<j/\j<2 ^ 64):ZD i j=some (i * j):=by unfold ZD; exact if_pos (.inr h)
theorem W6 (h:0<j/\j<2 ^ 1000):jeQ i j=some (i / j):=by unfold jeQ; exact if_pos h
theorem W7 (h:0<j):U7 i j=some (i % j):=by unfold U7; exact if_pos h
theorem jcw (h:0<=j/\j<=1000000/\i.natAbs<2 ^ 64):jgC i j=some (i ^ j.toNat):=by unfold jgC; exact if_pos h
theorem jcx (h:0<=j/\j<=1000000/\i.natAbs<2 ^ 64):JY i j=some (i * 2 ^ j.toNat):=by unfold JY; exact if_pos h
theorem jcy (h:0<=j):jeR i j=some (i / 2 ^ j.toNat):=by unfold jeR; exact if_pos h
theorem Q8 {ma:Option α}{mb:Option β}{f g:α->β->Option γ}{r:TE} (h:Ev K σ F H r rs (ma.bind fun a=>mb.bind fun b=>f a b)) (e:∀ a b,ma=some a->mb=some b->g a b=f a b):Ev K σ F H r rs (ma.bind fun a=>mb.bind fun b=>g a b):=by
 refine h.cast ?_;cases ma with
 | none=>rfl
 | some a=>
  cases mb with
  | none=>rfl
  | some b=>exact e a b rfl rfl
theorem je8 (h:-(2 ^ 64)<j/\j<2 ^ 64) (ha:Ev K σ F H ta (rF cI) ma) (hb:Ev K σ F H tb (rF cI) (some j)):Ev K σ F H (tOp (rI CMul fun i j=>.int (i * j)) ta tb) (rF cI) (ma.bind fun a=>some (a * j)):=
 Q8 (mb:=some j) (g:=fun a _=>some (a * j)) (U6 V3 ha hb) fun a b _ e=>by cases e; exact (jgI h).symm
theorem je9 (h:-(2 ^ 64)<i/\i<2 ^ 64) (ha:Ev K σ F H ta (rF cI) (some i)) (hb:Ev K σ F H tb (rF cI) mb):Ev K σ F H (tOp (rI CMul fun i j=>.int (i * j)) ta tb) (rF cI) (mb.bind fun b=>some (i * b)):=
 (Q8 (ma:=some i) (g:=fun a b=>some (i * b)) (U6 V3 ha hb) fun a b e _=>by cases e; exact (jdY h).symm)
theorem jas (h:0<j) (ha:Ev K σ F H ta (rF cI) ma) (hb:Ev K σ F H tb (rF cI) (some j)):Ev K σ F H (tOp (rI (fun _ j=>0<j) fun i j=>.int (i % j)) ta tb) (rF cI) (ma.bind fun a=>some (a % j)):=
 Q8 (mb:=some j) (g:=fun a _=>some (a % j)) (U6 Gn ha hb) fun a b _ e=>by cases e; exact (W7 h).symm
theorem jat (h:0<j/\j<2 ^ 250) (ha:Ev K σ F H ta (rF cI) ma) (hb:Ev K σ F H tb (rF cI) (some j)):Ev K σ F H (tOp (rI YM fun i j=>.int (i / j)) ta tb) (rF cI) (ma.bind fun a=>some (a / j)):=
 Q8 (mb:=some j) (g:=fun a _=>some (a / j)) (U6 jeS ha hb) fun a b _ e=>by cases e; exact (W6 ⟨h.1,Int.lt_trans h.2 (by have:(2:Nat) ^ 250<2 ^ 1000:=Nat.pow_lt_pow_right (by decide) (by decide); exact_mod_cast this)⟩).symm
theorem je_ {i:Int}{j:Nat} (h:(0:Int)<=(j:Int)/\(j:Int)<=1000000/\i.natAbs<2 ^ 64) (ha:Ev K σ F H ta (rF cI) (some i)) (hb:Ev K σ F H tb (rF cI) (some (j:Int))):Ev K σ F H (tOp (rI jf7 fun i j=>.int (i ^ j.toNat)) ta tb) (rF cI) (some (i ^ j)):=
 (U6 jie ha hb).cast (by show _=jgC i j; rw[jcw h,X9])
theorem Q9:∀ {l:List Bool}{xs:List V},Paired (cB.rep K H) l xs->xs=l.map V.bl
 | _,_,.nil=>rfl
 | _,_,.cons r t=>by rw[Xl,<- Q9 t]; exact congrArg (·::_) r
theorem W8:∀ {l:List Int}{xs:List V},Paired (cI.rep K H) l xs->xs=l.map V.int
 | _,_,.nil=>rfl
 | _,_,.cons r t=>by rw[Xl,<- W8 t]; exact congrArg (·::_) r
theorem jim:Op1 K (fun x H Q=>∃ (p:Addr) (bs:List Bool),[x]=[V.ref p]/\SqL K H p (bs.map V.bl)/\Q (.bl (bs.any id)) H) (pR cB) (rF cB) (fun l=>some (l.any id)):=by
 intro F H l x s hx z hz Q k;obtain⟨p,xs,rfl,h1,h2⟩:=hx;cases hz;exact⟨p,l,rfl,by rw[<- Q9 h2]; exact h1,k _ F H (Ext.refl s) rfl⟩
theorem jfa:Op1 K (fun x H Q=>∃ (p:Addr) (bs:List Bool),[x]=[V.ref p]/\SqL K H p (bs.map V.bl)/\Q (.bl (bs.all id)) H) (pR cB) (rF cB) (fun l=>some (l.all id)):=by
 intro F H l x s hx z hz Q k;obtain⟨p,xs,rfl,h1,h2⟩:=hx;cases hz;exact⟨p,l,rfl,by rw[<- Q9 h2]; exact h1,k _ F H (Ext.refl s) rfl⟩
theorem jgJ:Op1 K (fun x H Q=>∃ (p:Addr) (ns:List Int),[x]=[V.ref p]/\SqL K H p (ns.map V.int)/\Q (.int ns.sum) H) (pR cI) (rF cI) (fun l=>some l.sum):=by
 intro F H l x s hx z hz Q k;obtain⟨p,xs,rfl,h1,h2⟩:=hx;cases hz;exact⟨p,l,rfl,by rw[<- W8 h2]; exact h1,k _ F H (Ext.refl s) rfl⟩
theorem jau (h:Ev K σ F H t (rF cI) ma):Ev K σ F H (jhW K "int" (fun x vs H Q=>∃ i,x=.int i/\vs=[]/\Q (.int (Builtin.Int.intBits i)) H) t) (rF cI) (ma.bind fun a=>some ((Builtin.Int.intBits a:Nat):Int)):=by
 intro F1 H1 E z e Q k;obtain⟨a,ea,e⟩:=bind_some e;cases e;refine h F1 H1 E a ea _ fun v F2 H2 E2 hv=>?_;have ev:v=.int a:=hv;subst ev;exact⟨rfl,a,rfl,rfl,k _ F2 H2 E2 rfl⟩
theorem jgK {n:String}{tv:Value}{b:Bool}{m:Option α} (hc:∀ u,RelV (.ty n) u->u=cv) (ht:∀ {F H a x},Same F H->p.rel K F H a x->TyOf K H x tv) (hk:W.kitOne K tv cv=some b) (ha:Ev K σ F H ta p.rs m) :
  Ev K σ F H (tCB (fun xs H Q=>∃ x c cv t b,xs=[x,c]/\(∀ u,RelV c u->u=cv)/\TyOf K H x t/\W.kitOne K t cv=some b/\Q (.bl b) H) (jF ta (jF (tC (.ty n)) qD))) (rF cB) (m.bind fun _=>some b):=by
 intro F1 H1 E z e Q k;obtain⟨a,ea,e⟩:=bind_some e;cases e;exact ha F1 H1 E a ea _ fun v F2 H2 E2 hv=>⟨v,.ty n,cv,tv,b,rfl,hc,ht E2.sub hv,hk,k _ F2 H2 E2 rfl⟩
theorem jdZ {F:Hp}{a:Int}{x:V} (s:Same F H) (h:(pF cI).rel K F H a x):TyOf K H x (.type "int"):=by
 have e:x=.int a:=h;subst e; exact .int a
theorem yr {y:α}{f:List α->Option δ} (hi:σ[k']?=some (some (.ref a))) (o:Own K He F H c l a) (he:Ev K σ F H te (rF c) (some y)) (X:Ext Fe He F H) (hm:(VQ l y).bind f=some r)
  (k:∀ l' F' H',f l'=some r->Chg a F H F' H'->Ext Fe He F' H'->Own K He F' H' c l' a->D.nx σ H'):JV (tBM K "list" G5 (GM k') (jF te qD)) D σ H:=yQ (m:=some y) hi o he X hm k
end
section
variable {F:Hp}{t tb:TE}{c:Cd α}{d:Cd β}{p:Pm α}{q:Pm β}{rs:Rs γ} 
theorem qp {m:Option Int}{f:Int->Option δ} (he:Ev K σ F H te (rF cI) m) (X:Ext Fe He F H) (hm:m.bind f=some r) (k:∀ a F' H',f a=some r->Ext F H F' H'->Ext Fe He F' H'->u' D (σ.set i (some (.int a))) H'):Gh (GN te (kF i)) u' D σ H:=
 yP (D:={ D with nx:=u' D }) he X hm k
theorem Qt {m:Option Unit}{f:Unit->Option δ} (he:Ev K σ F H te (rF cU) m) (X:Ext Fe He F H) (hm:m.bind f=some r) (k:∀ F' H',f ()=some r->Ext F H F' H'->Ext Fe He F' H'->u' D (σ.set i (some .non)) H'):Gh (GN te (kF i)) u' D σ H:=
 je0 (D:={ D with nx:=u' D }) he X hm k
theorem GF {f:List α->Option δ} (he:Ev K σ F H te (rO c) m) (X:Ext Fe He F H) (hm:m.bind f=some r) (k:∀ l a F' H',f l=some r->Ext F H F' H'->Ext Fe He F' H'->H a=none->Own K He F' H' c l a->u' D (σ.set i (some (.ref a))) H'):Gh (GN te (kF i)) u' D σ H:=
 je1 (D:={ D with nx:=u' D }) he X hm k
theorem jgL {m:Option (α×β)}{f:α×β->Option δ} (he:Ev K σ F H te (rF (cP c d)) m) (X:Ext Fe He F H) (hm:m.bind f=some r)
  (k:∀ x y u v F' H',f (x,y)=some r->Ext F H F' H'->Ext Fe He F' H'->c.rep K F' x u->d.rep K F' y v->u' D ((σ.set i (some u)).set j (some v)) H'):Gh (GN te (jb3 K 2 (x4 (kF i) (x4 (kF j) jb2)))) u' D σ H:=
 je2 (D:={ D with nx:=u' D }) he X hm k
theorem jav {e:Cd γ}{m:Option (α×β×γ)}{f:α×β×γ->Option δ} (he:Ev K σ F H te (rF (cQ c d e)) m) (X:Ext Fe He F H) (hm:m.bind f=some r)
  (k:∀ x y z u v w F' H',f (x,y,z)=some r->Ext F H F' H'->Ext Fe He F' H'->c.rep K F' x u->d.rep K F' y v->e.rep K F' z w->u' D (((σ.set i (some u)).set j (some v)).set k' (some w)) H'):Gh (GN te (jb3 K 3 (x4 (kF i) (x4 (kF j) (x4 (kF k') jb2))))) u' D σ H:=
 je3 (D:={ D with nx:=u' D }) he X hm k
theorem xX {m:Option α}{f:α->Option δ} (he:Ev K σ F H te (rF c) m) (X:Ext Fe He F H) (hm:m.bind f=some r) (k:∀ a v F' H',f a=some r->Ext F H F' H'->Ext Fe He F' H'->c.rep K F' a v->u' D (σ.set k' (some v)) H'):Gh (GN te (kF k')) u' D σ H:=
 Q7 (D:={ D with nx:=u' D }) he X hm k
theorem ZE {u:TT}{t t':TS}{m:Option Bool}{A:Option δ} (hc:Et K σ F H u m) (X:Ext Fe He F H) (hm:(m.bind fun b=>bif b then A else B)=some r) (h1:∀ F' H',A=some r->Ext F H F' H'->Ext Fe He F' H'->t { D with nx:=u' D } σ H')
  (h2:∀ F' H',B=some r->Ext F H F' H'->Ext Fe He F' H'->t' { D with nx:=u' D } σ H'):Gh (ZN u t t') u' D σ H:=
 jcs (D:={ D with nx:=u' D }) hc X hm h1 h2
theorem Je {u:TT}{t t':TS}{b:Bool}{A:Option δ} (hc:Et K σ F H u (some b)) (X:Ext Fe He F H) (hm:(bif b then A else B)=some r) (h1:∀ F' H',b=true->A=some r->Ext F H F' H'->Ext Fe He F' H'->t { D with nx:=u' D } σ H')
  (h2:∀ F' H',b=false->B=some r->Ext F H F' H'->Ext Fe He F' H'->t' { D with nx:=u' D } σ H'):Gh (ZN u t t') u' D σ H:=
 jdW (D:={ D with nx:=u' D }) hc X hm h1 h2
theorem jgM {u:TT}{t t':TS}{m:Option Bool}{A B:Option β}{f:β->Option δ} (I:β->St->Hp->Prop) (hc:Et K σ F H u m) (X:Ext Fe He F H) (hm:(m.bind fun b=>bif b then A else B).bind f=some r)
  (h1:∀ b F' H',A=some b->Ext F H F' H'->Ext Fe He F' H'->t { D with nx:=I b } σ H') (h2:∀ b F' H',B=some b->Ext F H F' H'->Ext Fe He F' H'->t' { D with nx:=I b } σ H') (hk:∀ b σ' H',f b=some r->I b σ' H'->u' D σ' H'):Gh (jgy (ZN u t t')) u' D σ H:=
 U9 (D:={ D with nx:=u' D }) I hc X hm h1 h2 hk
theorem jaw {u:TT}{t t':TS}{x:Bool}{A B:Option β}{f:β->Option δ} (I:β->St->Hp->Prop) (hc:Et K σ F H u (some x)) (X:Ext Fe He F H) (hm:(bif x then A else B).bind f=some r)
  (h1:∀ b F' H',A=some b->Ext F H F' H'->Ext Fe He F' H'->t { D with nx:=I b } σ H') (h2:∀ b F' H',B=some b->Ext F H F' H'->Ext Fe He F' H'->t' { D with nx:=I b } σ H') (hk:∀ b σ' H',f b=some r->I b σ' H'->u' D σ' H'):Gh (jgy (ZN u t t')) u' D σ H:=
 Q6 (D:={ D with nx:=u' D }) I hc X hm h1 h2 hk
theorem jax {m:Option γ}{f:γ->Option δ} (he:Ev K σ F H te rs m) (X:Ext Fe He F H) (hm:m.bind f=some r) (k:∀ a F' H',f a=some r->Ext F H F' H'->Ext Fe He F' H'->u' D σ H'):Gh (JV te) u' D σ H:=
 je4 (D:={ D with nx:=u' D }) he X hm k
theorem jcz {m:Option α}{f:List α->Option δ} (hi:σ[i]?=some (some (.ref a))) (o:Own K He F H c l a) (he:Ev K σ F H te (rF c) m) (X:Ext Fe He F H) (hm:(m.bind fun y=>VQ l y).bind f=some r)
  (k:∀ l' F' H',f l'=some r->Chg a F H F' H'->Ext Fe He F' H'->Own K He F' H' c l' a->u' D σ H'):Gh (JV (tBM K "list" G5 (GM i) (jF te qD))) u' D σ H:=
 yQ (D:={ D with nx:=u' D }) hi o he X hm k
theorem Jf {g:TG}{tb:TS}{f:β->α->Option β} (hi:Ei K σ F H Fe He wi c m) (X:Ext Fe He F H) (hm:(m.bind fun l=>forM l b0 f).bind kk=some r) (I:Hp->β->St->Hp->Hp->Prop)
  (h0:∀ F1 H1,Ext F H F1 H1->Ext Fe He F1 H1->I F1 b0 σ F1 H1) (hG:∀ F1 b σ F H,I F1 b σ F H->Ext Fe He F H/\Same F1 F)
  (hs:∀ F1 (S0:Same F F1) b b' x v σ F H F' H',I F1 b σ F H->Ext F H F' H'->c.rep K F' x v->f b x=some b'->g v σ H' fun σ2 H2=>tb { D with nx:=fun σ H=>∃ F,I F1 b' σ F H,ct:=fun σ H=>∃ F,I F1 b' σ F H,bk:=u' D } σ2 H2)
  (hd:∀ F1 (S0:Same F F1) b σ F H,kk b=some r->I F1 b σ F H->u' D σ H):Gh (jdL wi g tb) u' D σ H:=
 GE (D:={ D with nx:=u' D }) hi X hm I h0 hG hs hd
theorem jd0 {g:TG}{tb:TS}{f:β->α->Option (Fl β γ)}{A:γ->Option δ} (P:γ->Prop) (hi:Ei K σ F H Fe He wi c m) (X:Ext Fe He F H) (hm:(m.bind fun l=>W3 l b0 f).bind (fun x=>x.el A kk)=some r) (hP:∀ c,A c=some r->P c) (I:Hp->β->St->Hp->Hp->Prop)
  (h0:∀ F1 H1,Ext F H F1 H1->Ext Fe He F1 H1->I F1 b0 σ F1 H1) (hG:∀ F1 b σ F H,I F1 b σ F H->Ext Fe He F H/\Same F1 F)
  (hs:∀ F1 (S0:Same F F1) b s x v σ F H F' H',I F1 b σ F H->Ext F H F' H'->c.rep K F' x v->f b x=some s->(∀ c,s=.rt c->P c)->g v σ H' fun σ2 H2=>tb { D with nx:=fun σ H=>∃ b' F,s=.nx b'/\I F1 b' σ F H,ct:=fun σ H=>∃ b' F,s=.nx b'/\I F1 b' σ F H,bk:=u' D } σ2 H2)
  (hd:∀ F1 (S0:Same F F1) b σ F H,kk b=some r->I F1 b σ F H->u' D σ H):Gh (jdL wi g tb) u' D σ H:=
 je7 (D:={ D with nx:=u' D }) P hi X hm hP I h0 hG hs hd
theorem yG {N:St->Hp->Prop}{r:VK}{b e:St->Hp->Prop} (h:N σ H):jgh ⟨N,r,b,e⟩ σ H:=h
theorem qA {P:Program}{f:Addr}{E:XK}:(ZC CX P w K mg base N qual scope f cdv A outer s H E).nox.K=K:=rfl
end
section
variable {F:Hp}{t tb:TE}{c:Cd α}{d:Cd β}{p:Pm α}{q:Pm β}{rs:Rs γ}{i j:Int}{a:α}{b:β}
theorem jfb {r:R2} (ho:Op2 K r p q rs op) (ha:Ev K σ F H ta p.rs (some a)) (hb:Ev K σ F H tb q.rs (some b)):Ev K σ F H (tOp r ta tb) rs (op a b):=U6 ho ha hb
theorem jfc {r:V->Hp->VK->Prop}{op:α->Option γ} (ho:Op1 K r p rs op) (ha:Ev K σ F H ta p.rs (some a)):Ev K σ F H (tUn r ta) rs (op a):=jgA ho ha
theorem jcA {r:List V->Hp->VK->Prop}{op:α->Option γ} (ho:Op1 K (fun x=>r [x]) p rs op) (ha:Ev K σ F H ta p.rs (some a)):Ev K σ F H (tCB r (jF ta qD)) rs (op a):=jdS ho ha
theorem jcB {r:List V->Hp->VK->Prop} (ho:Op2 K (fun x y=>r [x,y]) p q rs op) (ha:Ev K σ F H ta p.rs (some a)) (hb:Ev K σ F H tb q.rs (some b)):Ev K σ F H (tCB r (jF ta (jF tb qD))) rs (op a b):=jgB ho ha hb
theorem jcC {a:Bool} (h:Ev K σ F H t (rF cB) (some a)):Ev K σ F H (ZM t) (rF cB) (some (!a)):=jdV h
theorem jcD {u:TT}{a:Bool} (h:Et K σ F H u (some a)):Et K σ F H (jgg u) (some (!a)):=jdT h
theorem jcE {a b:Bool} (h:Ev K σ F H ta (rF cB) (some a)) (h':Ev K σ F H tb (rF cB) (some b)):Ev K σ F H (UJ ta tb) (rF cB) (some (a&&b)):=jeY h h'
theorem jcF {u v:TT}{a b:Bool} (h:Et K σ F H u (some a)) (h':Et K σ F H v (some b)):Et K σ F H (jeC u v) (some (a&&b)):=jeX h h'
theorem jcG {a:Bool}{m:Option Bool} (h:Ev K σ F H ta (rF cB) (some a)) (h':Ev K σ F H tb (rF cB) m):Ev K σ F H (UJ ta tb) (rF cB) (bif a then m else some false):=jaf h h'
theorem jfd {a:Bool}{m:Option Bool} (h:Ev K σ F H ta (rF cB) (some a)) (h':Ev K σ F H tb (rF cB) m):Ev K σ F H (jhS ta tb) (rF cB) (bif a then some true else m):=jik h h'
theorem jcH {u v:TT}{a:Bool}{m:Option Bool} (h:Et K σ F H u (some a)) (h':Et K σ F H v m):Et K σ F H (jeC u v) (bif a then m else some false):=jdU h h'
theorem jfe {u v:TT}{a:Bool}{m:Option Bool} (h:Et K σ F H u (some a)) (h':Et K σ F H v m):Et K σ F H (tOr u v) (bif a then some true else m):=jgF h h'
theorem YQ {x y:Int}{mc:Option Int} (ha:Ev K σ F H ta (rF cI) (some x)) (hb:Ev K σ F H tb (rF cI) (some y)) (hc:Ev K σ F H tc (rF cI) mc) :
  Ev K σ F H (G2 (rI0 fun i j=>.bl (g i j)) (rI0 fun i j=>.bl (g' i j)) ta tb tc) (rF cB) (bif g x y then mc.bind fun z=>some (g' y z) else some false):=WZ ha hb hc
theorem jff {u:TT}{b:Bool}{ma mb:Option γ} (hc:Et K σ F H u (some b)) (ha:Ev K σ F H ta rs ma) (hb:Ev K σ F H tb rs mb):Ev K σ F H (tIf u ta tb) rs (bif b then ma else mb):=jil hc ha hb
theorem jay (ha:Ev K σ F H ta (rF c) (some a)) (hr:El K σ F H tr c n (some l)):El K σ F H (jF ta tr) c (n+1) (some (a::l)):=jah ha hr
theorem jaz (ha:Ev K σ F H ta (rF c) (some a)) (hb:Ev K σ F H tb (rF d) (some b)):Ev K σ F H (jcd (jF ta (jF tb qD))) (rF (cP c d)) (some (a,b)):=jai ha hb
theorem jaA {e:Cd γ}{z:γ} (ha:Ev K σ F H ta (rF c) (some a)) (hb:Ev K σ F H tb (rF d) (some b)) (hc:Ev K σ F H tc (rF e) (some z)):Ev K σ F H (jcd (jF ta (jF tb (jF tc qD)))) (rF (cQ c d e)) (some (a,b,z)):=jeZ ha hb hc
theorem jaB (h:Ev K σ F H t (rF cI) (some i)):Eo K σ F H (jch t) (some (some i)):=jeV h
theorem jcI {x y:Option Int} (h:Ev K σ F H t (pR c).rs (some l)) (hl:Eo K σ F H tl (some x)) (hh:Eo K σ F H th (some y)):Ev K σ F H (tSl (jhV K) t tl th) (rO c) (some (cut l x y)):=jgE h hl hh
theorem jcJ {f:Str}{g:α->β} (hf:jaj K c f d g) (h:Ev K σ F H t (rF c) (some a)):Ev K σ F H (jgl K t f) (rF d) (some (g a)):=jgG hf h
theorem jcK {n:String}{tv:Value}{b:Bool} (hc:∀ u,RelV (.ty n) u->u=cv) (ht:∀ {F H a x},Same F H->p.rel K F H a x->TyOf K H x tv) (hk:W.kitOne K tv cv=some b) (ha:Ev K σ F H ta p.rs (some a)) :
  Ev K σ F H (tCB (fun xs H Q=>∃ x c cv t b,xs=[x,c]/\(∀ u,RelV c u->u=cv)/\TyOf K H x t/\W.kitOne K t cv=some b/\Q (.bl b) H) (jF ta (jF (tC (.ty n)) qD))) (rF cB) (some b):=jgK hc ht hk ha
theorem jaC (h:-(2 ^ 64)<j/\j<2 ^ 64) (ha:Ev K σ F H ta (rF cI) (some i)) (hb:Ev K σ F H tb (rF cI) (some j)):Ev K σ F H (tOp (rI CMul fun i j=>.int (i * j)) ta tb) (rF cI) (some (i * j)):=je8 h ha hb
theorem jaD (h:-(2 ^ 64)<i/\i<2 ^ 64) (ha:Ev K σ F H ta (rF cI) (some i)) (hb:Ev K σ F H tb (rF cI) (some j)):Ev K σ F H (tOp (rI CMul fun i j=>.int (i * j)) ta tb) (rF cI) (some (i * j)):=je9 h ha hb
theorem jaE (h:0<j) (ha:Ev K σ F H ta (rF cI) (some i)) (hb:Ev K σ F H tb (rF cI) (some j)):Ev K σ F H (tOp (rI (fun _ j=>0<j) fun i j=>.int (i % j)) ta tb) (rF cI) (some (i % j)):=jas h ha hb
theorem jaF (h:0<j/\j<2 ^ 250) (ha:Ev K σ F H ta (rF cI) (some i)) (hb:Ev K σ F H tb (rF cI) (some j)):Ev K σ F H (tOp (rI YM fun i j=>.int (i / j)) ta tb) (rF cI) (some (i / j)):=jat h ha hb
theorem V7 (h:Ev K σ F H t (rF cI) (some i)):Ev K σ F H (jhW K "int" (fun x vs H Q=>∃ i,x=.int i/\vs=[]/\Q (.int (Builtin.Int.intBits i)) H) t) (rF cI) (some ((Builtin.Int.intBits i:Nat):Int)):=jau h
theorem jaG (h:Ev K σ F H t (rF cI) (some j)):Ei K σ F H Fe He (QQ (jF t qD)) cI (yg 0 j):=jao h
theorem jaH (h:Ev K σ F H t (rF cI) (some i)) (h':Ev K σ F H ta (rF cI) (some j)):Ei K σ F H Fe He (VW (jF t (jF ta qD))) cI (yg i j):=je5 h h'
theorem jaI (h:Ev K σ F H t (rF cI) (some j)):Ec K σ F H (QQ (jF t qD)) cI (yg 0 j):=jap h
theorem jaJ (h:Ev K σ F H t (rF cI) (some i)) (h':Ev K σ F H ta (rF cI) (some j)):Ec K σ F H (VW (jF t (jF ta qD))) cI (yg i j):=je6 h h'
theorem YR {tc:Blk->TT}{te:Blk->TE}{l:List Int} (hi:Ec K σ F H wi cI (some l)) (fr:St) (hfr:(ix.map fun i=>(σ[i]?).join)=fr)
  (hc:∀ b x F' H',Ext F H F' H'->Et K (some (.int x)::fr) F' H' (tc b) (mc x)) (he:∀ b x F' H',Ext F H F' H'->Ev K (some (.int x)::fr) F' H' (te b) (rF d) (me x)) :
  Ev K σ F H (Gj wi 1 ix (fun _=>kF 0) tc te) (rO d) (qa l mc me):=W4 hi fr hfr hc he
theorem YS {tc:Blk->TT}{te:Blk->TE}{d1:Cd β}{e:Cd γ}{l:List (α×β)}{mc:α×β->Option Bool}{me:α×β->Option γ} (hi:Ec K σ F H wi (cP c d1) (some l)) (fr:St) (hfr:(ix.map fun i=>(σ[i]?).join)=fr)
  (hc:∀ b x y u v F' H',Ext F H F' H'->c.rep K F' x u->d1.rep K F' y v->Et K (some u::some v::fr) F' H' (tc b) (mc (x,y))) (he:∀ b x y u v F' H',Ext F H F' H'->c.rep K F' x u->d1.rep K F' y v->Ev K (some u::some v::fr) F' H' (te b) (rF e) (me (x,y))) :
  Ev K σ F H (Gj wi 2 ix (fun _=>jb3 K 2 (x4 (kF 0) (x4 (kF 1) jb2))) tc te) (rO e) (qa l mc me):=jcv hi fr hfr hc he
theorem W9 {g:TG}{tb:TS}{f:β->α->Option β} (hi:Ei K σ F H Fe He wi c (some l)) (X:Ext Fe He F H) (hm:(forM l b0 f).bind kk=some r) (I:Hp->β->St->Hp->Hp->Prop)
  (h0:∀ F1 H1,Ext F H F1 H1->Ext Fe He F1 H1->I F1 b0 σ F1 H1) (hG:∀ F1 b σ F H,I F1 b σ F H->Ext Fe He F H/\Same F1 F)
  (hs:∀ F1 (S0:Same F F1) b b' x v σ F H F' H',I F1 b σ F H->Ext F H F' H'->c.rep K F' x v->f b x=some b'->g v σ H' fun σ2 H2=>tb { D with nx:=fun σ H=>∃ F,I F1 b' σ F H,ct:=fun σ H=>∃ F,I F1 b' σ F H,bk:=D.nx } σ2 H2)
  (hd:∀ F1 (S0:Same F F1) b σ F H,kk b=some r->I F1 b σ F H->D.nx σ H):jdL wi g tb D σ H:=GE (m:=some l) hi X hm I h0 hG hs hd
theorem Q_ {g:TG}{tb:TS}{f:β->α->Option β} (hi:Ei K σ F H Fe He wi c (some l)) (X:Ext Fe He F H) (hm:(forM l b0 f).bind kk=some r) (I:Hp->β->St->Hp->Hp->Prop)
  (h0:∀ F1 H1,Ext F H F1 H1->Ext Fe He F1 H1->I F1 b0 σ F1 H1) (hG:∀ F1 b σ F H,I F1 b σ F H->Ext Fe He F H/\Same F1 F)
  (hs:∀ F1 (S0:Same F F1) b b' x v σ F H F' H',I F1 b σ F H->Ext F H F' H'->c.rep K F' x v->f b x=some b'->g v σ H' fun σ2 H2=>tb { D with nx:=fun σ H=>∃ F,I F1 b' σ F H,ct:=fun σ H=>∃ F,I F1 b' σ F H,bk:=u' D } σ2 H2)
  (hd:∀ F1 (S0:Same F F1) b σ F H,kk b=some r->I F1 b σ F H->u' D σ H):Gh (jdL wi g tb) u' D σ H:=Jf (m:=some l) hi X hm I h0 hG hs hd
theorem jcL {g:TG}{tb:TS}{f:β->α->Option (Fl β γ)}{A:γ->Option δ} (P:γ->Prop) (hi:Ei K σ F H Fe He wi c (some l)) (X:Ext Fe He F H) (hm:(W3 l b0 f).bind (fun x=>x.el A kk)=some r) (hP:∀ c,A c=some r->P c) (I:Hp->β->St->Hp->Hp->Prop)
  (h0:∀ F1 H1,Ext F H F1 H1->Ext Fe He F1 H1->I F1 b0 σ F1 H1) (hG:∀ F1 b σ F H,I F1 b σ F H->Ext Fe He F H/\Same F1 F)
  (hs:∀ F1 (S0:Same F F1) b s x v σ F H F' H',I F1 b σ F H->Ext F H F' H'->c.rep K F' x v->f b x=some s->(∀ c,s=.rt c->P c)->g v σ H' fun σ2 H2=>tb { D with nx:=fun σ H=>∃ b' F,s=.nx b'/\I F1 b' σ F H,ct:=fun σ H=>∃ b' F,s=.nx b'/\I F1 b' σ F H,bk:=u' D } σ2 H2)
  (hd:∀ F1 (S0:Same F F1) b σ F H,kk b=some r->I F1 b σ F H->u' D σ H):Gh (jdL wi g tb) u' D σ H:=jd0 (m:=some l) P hi X hm hP I h0 hG hs hd
theorem YT {p1:Pm α1}{m:α1->Option γ} (h1:Ev K σ F H t1 p1.rs (some x1)):Ev K σ F H (Gi (sp1 K p1 rs m) [] E0 (jF t1 qD)) rs (m x1):=W0 h1
theorem YU {c1:Cd α1}{m:α1->Option γ} (ob:jhY c1 C nm) (h1:Ev K σ F H t1 (rF c1) (some x1)):Ev K σ F H (ZZ C nm (sp1 K (pF c1) rs m) [] E0 t1 qD) rs (m x1):=jcq ob h1
theorem YV {p1:Pm α1}{p2:Pm α2}{m:α1->α2->Option γ} (h1:Ev K σ F H t1 p1.rs (some x1)) (h2:Ev K σ F H t2 p2.rs (some x2)):Ev K σ F H (Gi (sp2 K p1 p2 rs m) [] E0 (jF t1 (jF t2 qD))) rs (m x1 x2):=W1 h1 h2
theorem YW {p1:Pm α1}{p2:Pm α2}{p3:Pm α3}{m:α1->α2->α3->Option γ}{x3:α3} (h1:Ev K σ F H t1 p1.rs (some x1)) (h2:Ev K σ F H t2 p2.rs (some x2)) (h3:Ev K σ F H t3 p3.rs (some x3)):Ev K σ F H (Gi (sp3 K p1 p2 p3 rs m) [] E0 (jF t1 (jF t2 (jF t3 qD)))) rs (m x1 x2 x3):=jcr h1 h2 h3
end
section
variable {F:Hp}{t tb:TE}{c:Cd α}{d:Cd β}{p:Pm α}{q:Pm β}{rs:Rs γ} 
variable {ma:Option α}{a:α}{b:β}
theorem jy {r:R2}  {mm_:_} (ho:Op2 K r p q rs op) (ha:Ev K σ F H ta p.rs ma) (hb:Ev K σ F H tb q.rs mb) (e':mm_=(ma.bind fun a=>mb.bind fun b=>op a b)):Ev K σ F H (tOp r ta tb) rs mm_:=by
 subst e';exact U6 ho ha hb
theorem jf {r:R2}  {mm_:_} (ho:Op2 K r p q rs op) (ha:Ev K σ F H ta p.rs (some a)) (hb:Ev K σ F H tb q.rs (some b)) (e':mm_=(op a b)):Ev K σ F H (tOp r ta tb) rs mm_:=by
 subst e';exact jfb ho ha hb
theorem jaK {r:V->Hp->VK->Prop}{op:α->Option γ}  {mm_:_} (ho:Op1 K r p rs op) (ha:Ev K σ F H ta p.rs (some a)) (e':mm_=(op a)):Ev K σ F H (tUn r ta) rs mm_:=by
 subst e';exact jfc ho ha
theorem xF {r:List V->Hp->VK->Prop}{op:α->Option γ}  {mm_:_} (ho:Op1 K (fun x=>r [x]) p rs op) (ha:Ev K σ F H ta p.rs ma) (e':mm_=(ma.bind op)):Ev K σ F H (tCB r (jF ta qD)) rs mm_:=by
 subst e';exact jdS ho ha
theorem jR {r:List V->Hp->VK->Prop}{op:α->Option γ}  {mm_:_} (ho:Op1 K (fun x=>r [x]) p rs op) (ha:Ev K σ F H ta p.rs (some a)) (e':mm_=(op a)):Ev K σ F H (tCB r (jF ta qD)) rs mm_:=by
 subst e';exact jcA ho ha
theorem Qu {r:List V->Hp->VK->Prop}  {mm_:_} (ho:Op2 K (fun x y=>r [x,y]) p q rs op) (ha:Ev K σ F H ta p.rs (some a)) (hb:Ev K σ F H tb q.rs (some b)) (e':mm_=(op a b)):Ev K σ F H (tCB r (jF ta (jF tb qD))) rs mm_:=by
 subst e';exact jcB ho ha hb
theorem Ua {m:Option Bool}  {mm_:_} (h:Ev K σ F H t (rF cB) m) (e':mm_=(m.bind fun b=>some (!b))):Ev K σ F H (ZM t) (rF cB) mm_:=by
 subst e';exact jdV h
theorem Qv {a:Bool}  {mm_:_} (h:Ev K σ F H t (rF cB) (some a)) (e':mm_=(some (!a))):Ev K σ F H (ZM t) (rF cB) mm_:=by
 subst e';exact jcC h
theorem xn {u:TT}{m:Option Bool}  {mm_:_} (h:Et K σ F H u m) (e':mm_=(m.bind fun b=>some (!b))):Et K σ F H (jgg u) mm_:=by
 subst e';exact jdT h
theorem Qw {u:TT}{a:Bool}  {mm_:_} (h:Et K σ F H u (some a)) (e':mm_=(some (!a))):Et K σ F H (jgg u) mm_:=by
 subst e';exact jcD h
theorem W_ {m:Option Bool}  {mm_:_} (h:Ev K σ F H ta (rF cB) m) (h':Ev K σ F H tb (rF cB) n') (e':mm_=(m.bind fun b=>bif b then n' else some false)):Ev K σ F H (UJ ta tb) (rF cB) mm_:=by
 subst e';exact jaf h h'
theorem YX {a b:Bool}  {mm_:_} (h:Ev K σ F H ta (rF cB) (some a)) (h':Ev K σ F H tb (rF cB) (some b)) (e':mm_=(some (a&&b))):Ev K σ F H (UJ ta tb) (rF cB) mm_:=by
 subst e';exact jcE h h'
theorem YY {u v:TT}{a b:Bool}  {mm_:_} (h:Et K σ F H u (some a)) (h':Et K σ F H v (some b)) (e':mm_=(some (a&&b))):Et K σ F H (jeC u v) mm_:=by
 subst e';exact jcF h h'
theorem jaL {u v:TT}{m:Option Bool}  {mm_:_} (h:Et K σ F H u m) (h':Et K σ F H v n') (e':mm_=(m.bind fun b=>bif b then some true else n')):Et K σ F H (tOr u v) mm_:=by
 subst e';exact jgF h h'
theorem U_ {u:TT}{b:Bool}{ma mb:Option γ}  {mm_:_} (hc:Et K σ F H u (some b)) (ha:Ev K σ F H ta rs ma) (hb:Ev K σ F H tb rs mb) (e':mm_=(bif b then ma else mb)):Ev K σ F H (tIf u ta tb) rs mm_:=by
 subst e';exact jff hc ha hb
theorem xM  {mm_:_} (ha:Ev K σ F H ta (rF c) ma) (hr:El K σ F H tr c n mr) (e':mm_=(ma.bind fun a=>mr.bind fun l=>some (a::l))):El K σ F H (jF ta tr) c (n+1) mm_:=by
 subst e';exact jah ha hr
theorem jx  {mm_:_} (ha:Ev K σ F H ta (rF c) (some a)) (hr:El K σ F H tr c n (some l)) (e':mm_=(some (a::l))):El K σ F H (jF ta tr) c (n+1) mm_:=by
 subst e';exact jay ha hr
theorem yj  {mm_:_} (ha:Ev K σ F H ta (rF c) ma) (hb:Ev K σ F H tb (rF d) mb) (e':mm_=(ma.bind fun a=>mb.bind fun b=>some (a,b))):Ev K σ F H (jcd (jF ta (jF tb qD))) (rF (cP c d)) mm_:=by
 subst e';exact jai ha hb
theorem kW  {mm_:_} (ha:Ev K σ F H ta (rF c) (some a)) (hb:Ev K σ F H tb (rF d) (some b)) (e':mm_=(some (a,b))):Ev K σ F H (jcd (jF ta (jF tb qD))) (rF (cP c d)) mm_:=by
 subst e';exact jaz ha hb
theorem zA {e:Cd γ}{z:γ}  {mm_:_} (ha:Ev K σ F H ta (rF c) (some a)) (hb:Ev K σ F H tb (rF d) (some b)) (hc:Ev K σ F H tc (rF e) (some z)) (e':mm_=(some (a,b,z))):Ev K σ F H (jcd (jF ta (jF tb (jF tc qD)))) (rF (cQ c d e)) mm_:=by
 subst e';exact jaA ha hb hc
theorem kX {i:Int}  {mm_:_} (h:Ev K σ F H t (rF cI) (some i)) (e':mm_=(some (some i))):Eo K σ F H (jch t) mm_:=by
 subst e';exact jaB h
theorem YZ {x y:Option Int}  {mm_:_} (h:Ev K σ F H t (pR c).rs (some l)) (hl:Eo K σ F H tl (some x)) (hh:Eo K σ F H th (some y)) (e':mm_=(some (cut l x y))):Ev K σ F H (tSl (jhV K) t tl th) (rO c) mm_:=by
 subst e';exact jcI h hl hh
theorem zh {f:Str}{g:α->β}  {mm_:_} (hf:jaj K c f d g) (h:Ev K σ F H t (rF c) (some a)) (e':mm_=(some (g a))):Ev K σ F H (jgl K t f) (rF d) mm_:=by
 subst e';exact jcJ hf h
theorem Qx {n:String}{tv:Value}{b:Bool}  {mm_:_} (hc:∀ u,RelV (.ty n) u->u=cv) (ht:∀ {F H a x},Same F H->p.rel K F H a x->TyOf K H x tv) (hk:W.kitOne K tv cv=some b) (ha:Ev K σ F H ta p.rs (some a)) (e':mm_=(some b)):Ev K σ F H (tCB (fun xs H Q=>∃ x c cv t b,xs=[x,c]/\(∀ u,RelV c u->u=cv)/\TyOf K H x t/\W.kitOne K t cv=some b/\Q (.bl b) H) (jF ta (jF (tC (.ty n)) qD))) (rF cB) mm_:=by
 subst e';exact jcK hc ht hk ha
theorem Jg {i j:Int}  {mm_:_} (h:-(2 ^ 64)<j/\j<2 ^ 64) (ha:Ev K σ F H ta (rF cI) (some i)) (hb:Ev K σ F H tb (rF cI) (some j)) (e':mm_=(some (i * j))):Ev K σ F H (tOp (rI CMul fun i j=>.int (i * j)) ta tb) (rF cI) mm_:=by
 subst e';exact jaC h ha hb
theorem V8 {i j:Int}  {mm_:_} (h:-(2 ^ 64)<i/\i<2 ^ 64) (ha:Ev K σ F H ta (rF cI) (some i)) (hb:Ev K σ F H tb (rF cI) (some j)) (e':mm_=(some (i * j))):Ev K σ F H (tOp (rI CMul fun i j=>.int (i * j)) ta tb) (rF cI) mm_:=by
 subst e';exact jaD h ha hb
theorem q9 {ma:Option Int}{j:Int}  {mm_:_} (h:0<j) (ha:Ev K σ F H ta (rF cI) ma) (hb:Ev K σ F H tb (rF cI) (some j)) (e':mm_=(ma.bind fun a=>some (a % j))):Ev K σ F H (tOp (rI (fun _ j=>0<j) fun i j=>.int (i % j)) ta tb) (rF cI) mm_:=by
 subst e';exact jas h ha hb
theorem qi {i j:Int}  {mm_:_} (h:0<j) (ha:Ev K σ F H ta (rF cI) (some i)) (hb:Ev K σ F H tb (rF cI) (some j)) (e':mm_=(some (i % j))):Ev K σ F H (tOp (rI (fun _ j=>0<j) fun i j=>.int (i % j)) ta tb) (rF cI) mm_:=by
 subst e';exact jaE h ha hb
theorem Jh {ma:Option Int}{j:Int}  {mm_:_} (h:0<j/\j<2 ^ 250) (ha:Ev K σ F H ta (rF cI) ma) (hb:Ev K σ F H tb (rF cI) (some j)) (e':mm_=(ma.bind fun a=>some (a / j))):Ev K σ F H (tOp (rI YM fun i j=>.int (i / j)) ta tb) (rF cI) mm_:=by
 subst e';exact jat h ha hb
theorem qT {i j:Int}  {mm_:_} (h:0<j/\j<2 ^ 250) (ha:Ev K σ F H ta (rF cI) (some i)) (hb:Ev K σ F H tb (rF cI) (some j)) (e':mm_=(some (i / j))):Ev K σ F H (tOp (rI YM fun i j=>.int (i / j)) ta tb) (rF cI) mm_:=by
 subst e';exact jaF h ha hb
theorem Ub {i:Int}  {mm_:_} (h:Ev K σ F H t (rF cI) (some i)) (e':mm_=(some ((Builtin.Int.intBits i:Nat):Int))):Ev K σ F H (jhW K "int" (fun x vs H Q=>∃ i,x=.int i/\vs=[]/\Q (.int (Builtin.Int.intBits i)) H) t) (rF cI) mm_:=by
 subst e';exact V7 h
theorem Va {m:Option Int}  {mm_:_} (h:Ev K σ F H t (rF cI) m) (e':mm_=(m.bind fun j=>yg 0 j)):Ei K σ F H Fe He (QQ (jF t qD)) cI mm_:=by
 subst e';exact jao h
theorem kI {j:Int}  {mm_:_} (h:Ev K σ F H t (rF cI) (some j)) (e':mm_=(yg 0 j)):Ei K σ F H Fe He (QQ (jF t qD)) cI mm_:=by
 subst e';exact jaG h
theorem V9 {i j:Int}  {mm_:_} (h:Ev K σ F H t (rF cI) (some i)) (h':Ev K σ F H ta (rF cI) (some j)) (e':mm_=(yg i j)):Ei K σ F H Fe He (VW (jF t (jF ta qD))) cI mm_:=by
 subst e';exact jaH h h'
theorem Vb {m:Option Int}  {mm_:_} (h:Ev K σ F H t (rF cI) m) (e':mm_=(m.bind fun j=>yg 0 j)):Ec K σ F H (QQ (jF t qD)) cI mm_:=by
 subst e';exact jap h
theorem zB {j:Int}  {mm_:_} (h:Ev K σ F H t (rF cI) (some j)) (e':mm_=(yg 0 j)):Ec K σ F H (QQ (jF t qD)) cI mm_:=by
 subst e';exact jaI h
theorem V_ {i j:Int}  {mm_:_} (h:Ev K σ F H t (rF cI) (some i)) (h':Ev K σ F H ta (rF cI) (some j)) (e':mm_=(yg i j)):Ec K σ F H (VW (jF t (jF ta qD))) cI mm_:=by
 subst e';exact jaJ h h'
theorem qb {tc:Blk->TT}{te:Blk->TE}{m:Option (List Int)}  {mm_:_} (hi:Ec K σ F H wi cI m) (fr:St) (hfr:(ix.map fun i=>(σ[i]?).join)=fr)
  (hc:∀ b x F' H',Ext F H F' H'->Et K (some (.int x)::fr) F' H' (tc b) (mc x)) (he:∀ b x F' H',Ext F H F' H'->Ev K (some (.int x)::fr) F' H' (te b) (rF d) (me x)) (e':mm_=(m.bind fun l=>qa l mc me)):Ev K σ F H (Gj wi 1 ix (fun _=>kF 0) tc te) (rO d) mm_:=by
 subst e';exact W4 hi fr hfr hc he
theorem GG {tc:Blk->TT}{te:Blk->TE}{l:List Int}  {mm_:_} (hi:Ec K σ F H wi cI (some l)) (fr:St) (hfr:(ix.map fun i=>(σ[i]?).join)=fr)
  (hc:∀ b x F' H',Ext F H F' H'->Et K (some (.int x)::fr) F' H' (tc b) (mc x)) (he:∀ b x F' H',Ext F H F' H'->Ev K (some (.int x)::fr) F' H' (te b) (rF d) (me x)) (e':mm_=(qa l mc me)):Ev K σ F H (Gj wi 1 ix (fun _=>kF 0) tc te) (rO d) mm_:=by
 subst e';exact YR hi fr hfr hc he
theorem Vc {tc:Blk->TT}{te:Blk->TE}{d1:Cd β}{e:Cd γ}{l:List (α×β)}{mc:α×β->Option Bool}{me:α×β->Option γ}  {mm_:_} (hi:Ec K σ F H wi (cP c d1) (some l)) (fr:St) (hfr:(ix.map fun i=>(σ[i]?).join)=fr)
  (hc:∀ b x y u v F' H',Ext F H F' H'->c.rep K F' x u->d1.rep K F' y v->Et K (some u::some v::fr) F' H' (tc b) (mc (x,y))) (he:∀ b x y u v F' H',Ext F H F' H'->c.rep K F' x u->d1.rep K F' y v->Ev K (some u::some v::fr) F' H' (te b) (rF e) (me (x,y))) (e':mm_=(qa l mc me)):Ev K σ F H (Gj wi 2 ix (fun _=>jb3 K 2 (x4 (kF 0) (x4 (kF 1) jb2))) tc te) (rO e) mm_:=by
 subst e';exact YS hi fr hfr hc he
theorem Y0 {p1:Pm α1}{m:α1->Option γ}  {mm_:_} (h1:Ev K σ F H t1 p1.rs m1) (e':mm_=(m1.bind fun x1=>m x1)):Ev K σ F H (Gi (sp1 K p1 rs m) [] E0 (jF t1 qD)) rs mm_:=by
 subst e';exact W0 h1
theorem kH {p1:Pm α1}{m:α1->Option γ}  {mm_:_} (h1:Ev K σ F H t1 p1.rs (some x1)) (e':mm_=(m x1)):Ev K σ F H (Gi (sp1 K p1 rs m) [] E0 (jF t1 qD)) rs mm_:=by
 subst e';exact YT h1
theorem qv {p1:Pm α1}{p2:Pm α2}{m:α1->α2->Option γ}  {mm_:_} (h1:Ev K σ F H t1 p1.rs m1) (h2:Ev K σ F H t2 p2.rs m2) (e':mm_=(m1.bind fun x1=>m2.bind fun x2=>m x1 x2)):Ev K σ F H (Gi (sp2 K p1 p2 rs m) [] E0 (jF t1 (jF t2 qD))) rs mm_:=by
 subst e';exact W1 h1 h2
theorem ju {p1:Pm α1}{p2:Pm α2}{m:α1->α2->Option γ}  {mm_:_} (h1:Ev K σ F H t1 p1.rs (some x1)) (h2:Ev K σ F H t2 p2.rs (some x2)) (e':mm_=(m x1 x2)):Ev K σ F H (Gi (sp2 K p1 p2 rs m) [] E0 (jF t1 (jF t2 qD))) rs mm_:=by
 subst e';exact YV h1 h2
theorem xu {p1:Pm α1}{p2:Pm α2}{p3:Pm α3}{m:α1->α2->α3->Option γ}{x3:α3}  {mm_:_} (h1:Ev K σ F H t1 p1.rs (some x1)) (h2:Ev K σ F H t2 p2.rs (some x2)) (h3:Ev K σ F H t3 p3.rs (some x3)) (e':mm_=(m x1 x2 x3)):Ev K σ F H (Gi (sp3 K p1 p2 p3 rs m) [] E0 (jF t1 (jF t2 (jF t3 qD)))) rs mm_:=by
 subst e';exact YW h1 h2 h3
theorem qY {c1:Cd α1}{m:α1->Option γ}  {mm_:_} (ob:jhY c1 C nm) (h1:Ev K σ F H t1 (rF c1) (some x1)) (e':mm_=(m x1)):Ev K σ F H (ZZ C nm (sp1 K (pF c1) rs m) [] E0 t1 qD) rs mm_:=by
 subst e';exact YU ob h1
theorem Y1 {a:Bool}{m:Option Bool}  {mm_:_} (h:Ev K σ F H ta (rF cB) (some a)) (h':Ev K σ F H tb (rF cB) m) (e':mm_=(bif a then m else some false)):Ev K σ F H (UJ ta tb) (rF cB) mm_:=by
 subst e';exact jcG h h'
theorem jaM {a:Bool}{m:Option Bool}  {mm_:_} (h:Ev K σ F H ta (rF cB) (some a)) (h':Ev K σ F H tb (rF cB) m) (e':mm_=(bif a then some true else m)):Ev K σ F H (jhS ta tb) (rF cB) mm_:=by
 subst e';exact jfd h h'
theorem yk {u v:TT}{a:Bool}{m:Option Bool}  {mm_:_} (h:Et K σ F H u (some a)) (h':Et K σ F H v m) (e':mm_=(bif a then m else some false)):Et K σ F H (jeC u v) mm_:=by
 subst e';exact jcH h h'
theorem Ji {u v:TT}{a:Bool}{m:Option Bool}  {mm_:_} (h:Et K σ F H u (some a)) (h':Et K σ F H v m) (e':mm_=(bif a then some true else m)):Et K σ F H (tOr u v) mm_:=by
 subst e';exact jfe h h'
theorem GH {x y:Int}{mc:Option Int}  {mm_:_} (ha:Ev K σ F H ta (rF cI) (some x)) (hb:Ev K σ F H tb (rF cI) (some y)) (hc:Ev K σ F H tc (rF cI) mc) (e':mm_=(bif g x y then mc.bind fun z=>some (g' y z) else some false)):Ev K σ F H (G2 (rI0 fun i j=>.bl (g i j)) (rI0 fun i j=>.bl (g' i j)) ta tb tc) (rF cB) mm_:=by
 subst e';exact YQ ha hb hc
theorem Jj {x y z:Int}  {mm_:_} (ha:Ev K σ F H ta (rF cI) (some x)) (hb:Ev K σ F H tb (rF cI) (some y)) (hc:Ev K σ F H tc (rF cI) (some z)) (e':mm_=(some (g x y&&g' y z))):Ev K σ F H (G2 (rI0 fun i j=>.bl (g i j)) (rI0 fun i j=>.bl (g' i j)) ta tb tc) (rF cB) mm_:=by
 subst e';exact jag ha hb hc
theorem Vd {x y z w:Int}  {mm_:_} (ha:Ev K σ F H ta (rF cI) (some x)) (hb:Ev K σ F H tb (rF cI) (some y)) (hc:Ev K σ F H tc (rF cI) (some z)) (hd:Ev K σ F H td (rF cI) (some w)) (e':mm_=(some (g x y&&(g' y z&&g'' z w)))):Ev K σ F H (V1 (rI0 fun i j=>.bl (g i j)) (rI0 fun i j=>.bl (g' i j)) (rI0 fun i j=>.bl (g'' i j)) ta tb tc td) (rF cB) mm_:=by
 subst e';exact YO ha hb hc hd
theorem xN {i:Int}  {mm_:_} (h:(0:Int)<=(j:Int)/\(j:Int)<=1000000/\i.natAbs<2 ^ 64) (ha:Ev K σ F H ta (rF cI) (some i)) (hb:Ev K σ F H tb (rF cI) (some (j:Int))) (e':mm_=(some (i ^ j))):Ev K σ F H (tOp (rI jf7 fun i j=>.int (i ^ j.toNat)) ta tb) (rF cI) mm_:=by
 subst e';exact je_ h ha hb
end
section
variable {F:Hp}{t tb:TE}{c:Cd α}{d:Cd β}{p:Pm α}{q:Pm β}{rs:Rs γ}{i j:Int}
theorem Wa {f:Str}{v:V}{fs:List (Str×V)} (h:fs.length<=n):(GR f v fs).length<=n+1:=XI (zy f v fs) (Nat.succ_le_succ h)
structure OwnI (He F H:Hp) (C x dx:Addr) (fs:List (Str×V)):Prop where
 e:He x=none
 f:F x=none
 h:H x=some (.ins C dx fs)
theorem OwnI.mono {x:Addr}{fs:List (Str×V)} (o:OwnI He F H C x dx fs) (E:Ext F H F' H'):OwnI He F' H' C x dx fs:=by
 refine⟨o.e,?_,E.h _ _ o.h⟩;cases e:F' x with
 | none=>rfl
 | some u=>
  rcases E.new x u e with z | z
  ·rw[o.f] at z; cases z
  ·rw[o.h] at z; cases z
theorem OwnI.freeze {x:Addr}{fs:List (Str×V)} (o:OwnI He F H C x dx fs) (X:Ext Fe He F H):∃ F',Ext Fe He F' H/\Chg x F H F' H/\F' x=some (.ins C dx fs):=
 ⟨upd F x (.ins C dx fs),X.frz o.e o.f o.h,⟨kn o.f,fun _ _ _ h=>h,fun b u e hb=>by rw[jz e] at hb; exact .inl hb⟩,jB⟩
theorem jfg {k:Nat}{x:Addr}{fs:List (Str×V)}{f:Str}{v:V}{a:α} (hi:σ[k]?=some (some (.ref x))) (o:OwnI He F H C x dx fs) (cl:Cls K C) (na:NoAttr K C f) (hl:fs.lookup f=some v) (h:p.rel K F H a v):Ev K σ F H (jgl K (GM k) f) p.rs (some a):=by
 intro F1 H1 E b e Q k;cases e;exact⟨_,hi,x,C,dx,fs,v,rfl,E.h _ _ o.h,cl,na,hl,k v F1 H1 (Ext.refl E.sub) (p.mono E h)⟩
theorem jd1 {x:Addr}{fs:List (Str×V)}{f:Str}{m:Option α}{g:α->Option δ} (hi:σ[k']?=some (some (.ref x))) (o:OwnI He F H C x dx fs) (cl:Cls K C) (na:NoAttr K C f) (hn:fs.length<1000) (he:Ev K σ F H te (rF c) m) (X:Ext Fe He F H) (hm:m.bind g=some r)
  (k:∀ a v F' H',g a=some r->Chg x F H F' H'->Ext Fe He F' H'->c.rep K F' a v->OwnI He F' H' C x dx (GR f v fs)->D.nx σ H'):jib K (GM k') te f D σ H:=by
 obtain⟨a,ea,hm⟩:=bind_some hm;refine he F H (Ext.refl X.sub) a ea _ fun v F2 H2 E hv=>⟨_,hi,x,C,dx,fs,rfl,E.h _ _ o.h,cl,na,hn,?_⟩;have o2:=o.mono E;exact k a v F2 _ hm (Jd E) ((X.trans E).upd o2.e o2.f) hv ⟨o2.e,o2.f,jB⟩
theorem jgN {x:Addr}{fs:List (Str×V)}{f:Str}{m:Option α}{g:α->Option δ} (hi:σ[k']?=some (some (.ref x))) (o:OwnI He F H C x dx fs) (cl:Cls K C) (na:NoAttr K C f) (hn:fs.length<1000) (he:Ev K σ F H te (rF c) m) (X:Ext Fe He F H) (hm:m.bind g=some r)
  (k:∀ a v F' H',g a=some r->Chg x F H F' H'->Ext Fe He F' H'->c.rep K F' a v->OwnI He F' H' C x dx (GR f v fs)->u' D σ H'):Gh (jib K (GM k') te f) u' D σ H:=jd1 (D:={ D with nx:=u' D }) hi o cl na hn he X hm k
theorem Y2 {x:Addr} (s:Same F He) (h1:He x=none) (h2:He dx=none) (hne:dx≠x):Ext F He F (upd (upd He dx (.own x)) x (.ins C dx []))/\OwnI He F (upd (upd He dx (.own x)) x (.ins C dx [])) C x dx []:=by
 have e1:Ext F He F (upd He dx (.own x)):=Ext.newO s h2;have h3:(upd He dx (.own x)) x=none:=by rw[jz (Ne.symm hne)]; exact h1
 exact⟨e1.trans (Ext.newO e1.sub h3),h1,s.free h1,jB⟩
def jhZ (K:W.Frag) (C:Addr) (p1:Pm α1) (p2:Pm α2) (c:Cd γ) (m:α1->α2->Option γ):Sp:=fun vs H Q _=>∃ (x1:α1) (x2:α2) (v1 v2:V) (F H1:Hp) (x dx:Addr) (r:γ),vs=[.ref x,v1,v2]/\H=upd (upd H1 dx (.own x)) x (.ins C dx [])/\H1 x=none/\H1 dx=none/\dx≠x/\Same F H1/\p1.rel K F H1 x1 v1/\p2.rel K F H1 x2 v2/\m x1 x2=some r/\∀ F' H',Ext F H1 F' H'->c.rep K F' r (.ref x)->Q .non H'
theorem Ve {c:Cd γ}{p1:Pm α1}{p2:Pm α2}{m:α1->α2->Option γ}{mm_:Option γ} (h1:Ev K σ F H t1 p1.rs (some x1)) (h2:Ev K σ F H t2 p2.rs (some x2)) (e':mm_=(m x1 x2)):Ev K σ F H (jeF C (jhZ K C p1 p2 c m) [] E0 (jF t1 (jF t2 qD))) (rF c) mm_:=by
 subst e';intro F0 H0 E0' z e Q k;refine h1 F0 H0 (E0') x1 rfl _ fun v1 F1 H1 E1 r1=>?_;refine h2 F1 H1 ((E0').trans E1) x2 rfl _ fun v2 F2 H2 E2 r2=>?_;intro x dx n1 n2 n3;exact⟨x1,x2,v1,v2,F2,H2,x,dx,z,rfl,rfl,n1,n2,n3,E2.sub,p1.mono (E2) r1,r2,e,fun F' H' E' hu=>⟨rfl,k _ F' H' ((E1.trans (E2)).trans E') hu⟩⟩
end
section
variable {F:Hp}{t tb:TE}{c:Cd α}{d:Cd β}{p:Pm α}{q:Pm β}{rs:Rs γ}{i j:Int}
theorem Paired.ofGet:∀ {l:List α}{xs:List β},l.length=xs.length->(∀ (i:Nat) a x,l[i]?=some a->xs[i]?=some x->R a x)->Paired R l xs
 | [],[],_,_=>.nil
 | [],_::_,h,_=>by simp at h
 | _::_,[],h,_=>by simp at h
 | a::l,x::xs,h,k=>.cons (k 0 a x rfl rfl) (Paired.ofGet (by simpa using h) fun i a' x' h1 h2=>k (i+1) a' x' (by simpa using h1) (by simpa using h2))
theorem Paired.right {xs:List β}{x:β} (h:Paired R l xs) (hx:x∈xs):∃ a,R a x:=by
 obtain⟨i,hi,e⟩:=List.mem_iff_getElem.mp hx;have h1:i<l.length:=by rw[h.length]; exact hi
 exact⟨l[i],Paired.getP h (Xg h1) (by rw[Xg hi,e])⟩
theorem zU {b:Addr} (E:Ext F H F' H') (hf:F b=none) (hh:H b=some (.lst ys)):F' b=none:=by
 cases e:F' b with
 | none=>rfl
 | some u=>
  rcases E.new b u e with z | z
  ·rw[hf] at z; cases z
  ·rw[hh] at z; cases z
def InnerR (K:W.Frag) (H0 F H:Hp) (a:Addr) (c:Cd α) (l:List α) (v:V):Prop:=∃ b ys,v=.ref b/\b≠a/\H0 b=none/\F b=none/\H b=some (.lst ys)/\Paired (c.rep K F) l ys
structure Own2 (K:W.Frag) (He F H:Hp) (c:Cd α) (ll:List (List α)) (a:Addr):Prop where
 e:He a=none
 f:F a=none
 h:∃ xs,H a=some (.lst xs)/\Paired (InnerR K He F H a c) ll xs/\xs.Nodup
theorem InnerR.mono {H0:Hp}{v:V} (E:Ext F H F' H') (r:InnerR K H0 F H a c l v):InnerR K H0 F' H' a c l v:=by
 obtain⟨b,ys,h1,h0,h2,h3,h4,h5⟩:=r;exact⟨b,ys,h1,h0,h2,zU E h3 h4,E.h _ _ h4,Paired.mapP h5 fun _ _=>c.mono E.f⟩
theorem Own2.mono (o:Own2 K He F H c ll a) (E:Ext F H F' H'):Own2 K He F' H' c ll a:=by
 obtain⟨xs,h1,h2,h3⟩:=o.h;exact⟨o.e,zU E o.f h1,xs,E.h _ _ h1,Paired.mapP h2 fun _ _=>InnerR.mono E,h3⟩
def rO2 (c:Cd α):Rs (List (List α)):=⟨fun K H F2 H2 ll v=>∃ a xs,v=.ref a/\H a=none/\F2 a=none/\H2 a=some (.lst xs)/\Paired (InnerR K H F2 H2 a c) ll xs/\xs.Nodup,
 fun s ⟨a,xs,h1,h2,h3,h4,h5,h6⟩=>⟨a,xs,h1,s.free h2,h3,h4,Paired.mapP h5 fun _ _ ⟨b,ys,e1,e0,e2,e3⟩=>⟨b,ys,e1,e0,s.free e2,e3⟩,h6⟩⟩
theorem jcM {g:Blk->TG}{tc:Blk->TT}{te:Blk->TE}{mc:α->Option Bool}{me:α->Option (List β)}{fr:St} (Bd:Hp->α->St->Prop) (hi:Ec K σ F H wi c m)
  (hfr:(ix.map fun i=>(σ[i]?).join)=fr) (hg:∀ b,Bds K c (g b) n fr Bd)
  (hc:∀ b x own F' H',Ext F H F' H'->Bd F' x own->Et K (own++fr) F' H' (tc b) (mc x)) (he:∀ b x own F' H',Ext F H F' H'->Bd F' x own->Ev K (own++fr) F' H' (te b) (rO d) (me x)) :
  Ev K σ F H (Gj wi n ix g tc te) (rO2 d) (m.bind fun l=>qa l mc me):=by
 intro F1 H1 E z ez Q k;obtain⟨l,el,ez⟩:=bind_some ez;obtain⟨hlen,ez⟩:l.length<=16777216/\J0 l mc me=some z:=by
  unfold qa at ez;by_cases h:l.length<=16777216
  ·rw[if_pos h] at ez; exact ⟨h,ez⟩
  ·rw[if_neg h] at ez; cases ez
 refine hi F1 H1 E l el _ fun J F2 H2 E2 hJ b D hD=>?_;have hz:sizeLine=16777216:=XH;have E02:=E.trans E2;refine⟨fun i m ys σ' H'=>m=l.length-i/\i<=l.length/\ys.length<=i/\∃ zs rest F' own,own.length=n/\σ'=own++fr/\Ext F2 H2 F' H'/\F' D=none/\H' D=some (.lst ys)/\Paired (InnerR K H2 F' H' D d) zs ys/\ys.Nodup/\J0 (l.drop i) mc me=some rest/\zs++rest=z,?_,?_⟩
 ·refine⟨l.length,by simp,wC _,Xh _,[],z,F2,List.replicate n none,by simp,by rw[QX,hfr],Ext.newO E2.sub hD,E2.sub.free hD,jB,.nil,List.nodup_nil,by simpa using ez,rfl⟩
 rintro i m ys σ' H' ⟨rfl,hi',hys,zs,rest,F',own,hown,rfl,X,fD,hHD,hp,hnd,hrest,hzr⟩;by_cases hlt:i<l.length
 ·have ed:l.drop i=l[i]::l.drop (i+1):=List.drop_eq_getElem_cons hlt;rw[ed] at hrest;obtain⟨bb,hbb,hrest⟩:=bind_some hrest;refine .inr ⟨hJ.go i F' H' X hlt,fun ys' σ2 H2'=>ys'.length<=i+1/\∃ zs rest F' own,own.length=n/\σ2=own++fr/\Ext F2 H2 F' H2'/\F' D=none/\H2' D=some (.lst ys')/\Paired (InnerR K H2 F' H2' D d) zs ys'/\ys'.Nodup/\J0 (l.drop (i+1)) mc me=some rest/\zs++rest=z,
   fun ys' σ2 H2' h=>⟨l.length-(i+1),by omega,rfl,hlt,h⟩,fun x H3 y=>?_⟩
  obtain⟨F3,E3,r3⟩:=hJ.yld i F' H' x H3 X y _ (Xg hlt);have X3:=X.trans E3;refine hg b F3 H3 l[i] x own _ hown r3 X3.sub fun own' hown' hbd=>?_;refine hc b l[i] own' F3 H3 (E02.trans X3) hbd F3 H3 (Ext.refl X3.sub) bb hbb _ fun F4 H4 E4=>?_;have X4:=X3.trans E4;have f3:=zU E3 fD hHD;have g3:=E3.h _ _ hHD;have f4:=zU E4 f3 g3;have g4:=E4.h _ _ g3;cases bb with
  | true=>
   obtain⟨y',hy,hrest⟩:=bind_some hrest;obtain⟨ys2,hys2,hrest⟩:=bind_some hrest;cases hrest;refine VZ (he b l[i] own' F3 H3 (E02.trans X3) hbd F4 H4 E4 y' hy _ fun w F5 H5 E5 hw=>?_);have f5:=zU E5 f4 g4;have g5:=E5.h _ _ g4;refine⟨g5,by omega,?_⟩;have X5:=X4.trans E5;obtain⟨bw,yw,rfl,n1,n2,n3,n4⟩:=hw;have hbD:bw≠D:=fun e=>by rw[e,g4] at n1; cases n1
   have hp4:Paired (InnerR K H2 F4 H4 D d) zs ys:=Paired.mapP hp fun _ _=>InnerR.mono (E3.trans E4);have old:Paired (InnerR K H2 F5 (upd H5 D (.lst (ys++[.ref bw]))) D d) zs ys:=Paired.mapP hp4 fun l' v' r'=>by
    obtain⟨b',ys',e1,e0,e2,e3,e4,e5⟩:=InnerR.mono E5 r';exact⟨b',ys',e1,e0,e2,e3,by rw[jz e0]; exact e4,e5⟩
   have hnb:V.ref bw∉ys:=fun h=>by
    obtain⟨_,b',ys',e1,_,_,_,e4,_⟩:=Paired.right hp4 h;cases e1;rw[n1] at e4;cases e4
   refine⟨by simp; omega,zs++[y'],ys2,F5,own',hown',rfl,X5.upd hD f5,f5,jB,Paired.app old (.cons ⟨bw,yw,rfl,hbD,(X4.h).free n1,n2,by rw[jz hbD]; exact n3,n4⟩ .nil),?_,hys2,by rw[<- hzr]; simp⟩;rw[List.nodup_append];refine⟨hnd,by simp,fun a ha b hb=>?_⟩;have:b=V.ref bw:=by simpa using hb
   subst this;exact fun e=>hnb (e ▸ ha)
  | false=>
   exact VY ⟨by omega,zs,rest,F4,own',hown',rfl,X4,f4,g4,Paired.mapP hp fun _ _=>InnerR.mono (E3.trans E4),hnd,hrest,hzr⟩
 ·have e:i=l.length:=by omega
  subst e;rw[List.drop_length] at hrest;cases hrest;rw[XU] at hzr;subst hzr;refine .inl ⟨hJ.stop F' H' X,k _ F' H' (E2.trans X) ⟨D,ys,rfl,E2.h.free hD,fD,hHD,Paired.mapP hp fun _ _ ⟨b,ys,e1,e0,e2,e3⟩=>⟨b,ys,e1,e0,E2.h.free e2,e3⟩,hnd⟩⟩
theorem Wb {mm_:Option (List (List β))}{tc:Blk->TT}{te:Blk->TE}{m:Option (List Int)}{me:Int->Option (List β)} (hi:Ec K σ F H wi cI m) (fr:St) (hfr:(ix.map fun i=>(σ[i]?).join)=fr)
  (hc:∀ b x F' H',Ext F H F' H'->Et K (some (.int x)::fr) F' H' (tc b) (mc x)) (he:∀ b x F' H',Ext F H F' H'->Ev K (some (.int x)::fr) F' H' (te b) (rO d) (me x)) (e':mm_=(m.bind fun l=>qa l mc me)) :
  Ev K σ F H (Gj wi 1 ix (fun _=>kF 0) tc te) (rO2 d) mm_:=by
 subst e';refine jcM (Bd1 K cI) hi hfr (fun _=>jiS) (fun b x own F' H' E ⟨v,e,r⟩=>?_) fun b x own F' H' E ⟨v,e,r⟩=>?_
 ·have e2:v=.int x:=r;subst e e2;exact hc b x F' H' E
 ·have e2:v=.int x:=r;subst e e2;exact he b x F' H' E
theorem jcN {m:Option (List (List α))}{f:List (List α)->Option δ} (he:Ev K σ F H te (rO2 c) m) (X:Ext Fe He F H) (hm:m.bind f=some r) (k:∀ l a F' H',f l=some r->Ext F H F' H'->Ext Fe He F' H'->H a=none->Own2 K He F' H' c l a->D.nx (σ.set k' (some (.ref a))) H'):GN te (kF k') D σ H:=by
 obtain⟨a,ea,hm⟩:=bind_some hm;refine he F H (Ext.refl X.sub) a ea _ ?_;rintro v F2 H2 E ⟨b,xs,rfl,h1,h2,h3,h4,h5⟩;exact k a b F2 H2 hm E (X.trans E) h1 ⟨X.h.free h1,h2,xs,h3,Paired.mapP h4 fun _ _ ⟨b,ys,e1,e0,e2,e3⟩=>⟨b,ys,e1,e0,X.h.free e2,e3⟩,h5⟩
theorem jfh {m:Option (List (List α))}{f:List (List α)->Option δ} (he:Ev K σ F H te (rO2 c) m) (X:Ext Fe He F H) (hm:m.bind f=some r) (k:∀ l a F' H',f l=some r->Ext F H F' H'->Ext Fe He F' H'->H a=none->Own2 K He F' H' c l a->u' D (σ.set k' (some (.ref a))) H'):Gh (GN te (kF k')) u' D σ H:=
 jcN (D:={ D with nx:=u' D }) he X hm k
theorem jcO (hi:σ[k']?=some (some (.ref a))) (o:Own2 K He F H c ll a) (hj:Ev K σ F H ta (rF cI) mi) (e':mm_=(mi.bind fun i=>pAt ll i)):Ev K σ F H (tOp (jgp K) (GM k') ta) (pB c).rs mm_:=by
 subst e';intro F1 H1 E z e Q k;obtain⟨i,ei,e⟩:=bind_some e;refine⟨_,hi,hj F1 H1 E i ei _ fun w F2 H2 E2 hw=>?_⟩;have ew:w=.int i:=hw;subst ew;obtain⟨xs,h1,h2,h3⟩:=(o.mono (E.trans E2)).h;unfold pAt at e;obtain⟨v,hv,r⟩:=Paired.atI h2 e;obtain⟨b,ys,rfl,_,_,_,g4,g5⟩:=r;exact⟨a,xs,i,_,rfl,rfl,SqL.of h1,hv,k _ F2 H2 E2 ⟨b,ys,rfl,g4,g5⟩⟩
theorem Qy {i:Int} (hi:σ[k']?=some (some (.ref a))) (o:Own2 K He F H c ll a) (hj:Ev K σ F H ta (rF cI) (some i)) (e':mm_=pAt ll i):Ev K σ F H (tOp (jgp K) (GM k') ta) (pB c).rs mm_:=jcO hi o hj e'
open Classical in
theorem jcP {r:List (List α)} (hi:σ[k']?=some (some (.ref a))) (o:Own2 K He F H c ll a) (X:Ext Fe He F H) (hm:some ll=some r) (k:∀ v F' H',Ext Fe He F' H'->(rO (cL c)).rel K He F' H' r v->D.rt v H'):jgi (GM k') D σ H:=by
 cases hm;obtain⟨xs,h1,h2,h3⟩:=o.h;refine⟨_,hi,k _ (fun b=>if V.ref b∈xs then H b else F b) H ⟨fun b u hb=>?_,X.h,fun b u hb=>?_,fun b u hb=>?_⟩ ⟨a,xs,rfl,o.e,?_,h1,?_⟩⟩
 ·by_cases e:V.ref b∈xs
  ·obtain⟨_,b',ys,e1,_,_,g3,_,_⟩:=Paired.right h2 e;cases e1;have:=X.f b u hb;rw[g3] at this;cases this
  ·rw[if_neg e]; exact X.f b u hb
 ·by_cases e:V.ref b∈xs
  ·obtain⟨_,b',ys,e1,_,g2,_,_,_⟩:=Paired.right h2 e;cases e1;exact .inr (Ja g2)
  ·rw[if_neg e] at hb; exact X.new b u hb
 ·by_cases e:V.ref b∈xs
  ·rw[if_pos e] at hb; exact hb
  ·rw[if_neg e] at hb; exact X.sub b u hb
 ·have:¬ V.ref a∈xs:=fun e=>by
   obtain⟨_,b',ys,e1,g0,_⟩:=Paired.right h2 e;cases e1;exact g0 rfl
  show (if V.ref a∈xs then H a else F a)=none;rw[if_neg this]; exact o.f
 ·have hs:Same F (fun b=>if V.ref b∈xs then H b else F b):=fun b u hb=>by
   by_cases e:V.ref b∈xs
   ·obtain⟨_,b',ys,e1,_,_,g3,_,_⟩:=Paired.right h2 e;cases e1;rw[hb] at g3;cases g3
   ·show (if V.ref b∈xs then H b else F b)=some u;rw[if_neg e]; exact hb
  refine Paired.ofGet h2.length fun q l1 x1 hl1 hx1=>?_;obtain⟨b1,ys1,eb1,k0,k2,k3,k4,k5⟩:=Paired.getP h2 hl1 hx1;subst eb1;refine⟨b1,ys1,rfl,?_,Paired.mapP k5 fun _ _=>c.mono hs⟩;show (if V.ref b1∈xs then H b1 else F b1)=_;rw[if_pos (XA hx1)];exact k4
end
section
variable {F:Hp}{t tb:TE}{c:Cd α}{d:Cd β}{p:Pm α}{q:Pm β}{rs:Rs γ}{i j:Int}
theorem jaN {f:List α->Option δ} (hi:σ[k']?=some (some (.ref a))) (o:Own K He F H c l a) (he:Ev K σ F H te (pB c).rs m) (X:Ext Fe He F H) (hm:(m.bind fun y=>JT l y).bind f=some r)
  (k:∀ l' F' H',f l'=some r->Chg a F H F' H'->Ext Fe He F' H'->Own K He F' H' c l' a->D.nx σ H'):JV (tBM K "list" Z3 (GM k') (jF te qD)) D σ H:=by
 obtain⟨l',el,hm⟩:=bind_some hm;obtain⟨y,ey,el⟩:=bind_some el;unfold JT at el;obtain⟨hl,rfl⟩:=ki el;obtain⟨xs,h1,h2⟩:=o.h;refine⟨_,hi,.inl ⟨rfl,_,SqL.of h1⟩,he F H (Ext.refl X.sub) y ey _ ?_⟩;rintro v F2 H2 E ⟨b,ys,rfl,g1,g2⟩;have o2:=o.mono E;have h3:Paired (c.rep K F2) l xs:=Paired.mapP h2 fun _ _=>c.mono E.f;refine⟨a,b,xs,ys,rfl,rfl,E.h _ _ h1,g1,by rw[XH,<- h2.length,<- g2.length]; exact hl,?_⟩;obtain⟨X',o'⟩:=jam (K:=K) (c:=c) (X.trans E) o.e o2.f (Paired.app h3 g2);exact k _ F2 _ hm (Jd E) X' o'
@[irreducible] def Jk (n:Int):Option (List Int):=if (-(2 ^ 62)<=n/\n<2 ^ 62)/\n<=16777216 then some (yR 0 n) else none
theorem Vf {mm_:Option (List Int)}{m:Option Int} (h:Ev K σ F H t (rF cI) m) (e':mm_=(m.bind fun n=>Jk n)) :
  Ev K σ F H (tCB (fun xs H Q=>∃ p lo hi,xs=[.ref p]/\H p=some (.rng lo hi)/\(-(2 ^ 62)<=lo/\lo<2 ^ 62/\-(2 ^ 62)<=hi/\hi<2 ^ 62)/\(hi-lo).toNat<=2 ^ 24/\∀ l,H l=none->Q (.ref l) (upd H l (.lst ((xV lo hi).map V.int))))
   (jF (fun σ H Q=>(jF t qD) σ H fun vs H1=>∃ j:Int,vs=[.int j]/\∀ x,H1 x=none->Q (.ref x) (upd H1 x (.rng 0 j))) qD)) (rO cI) mm_:=by
 subst e';intro F1 H1 E z e Q k;obtain⟨n,en,e⟩:=bind_some e;unfold Jk at e;obtain⟨⟨⟨h1,h2⟩,h3⟩,rfl⟩:=ki e;refine h F1 H1 E n en _ fun v F2 H2 E2 hv=>?_;have ev:v=.int n:=hv;subst ev;refine⟨n,rfl,fun x hx=>⟨x,0,n,rfl,jB,⟨by omega,by omega,h1,h2⟩,by omega,fun l hl=>?_⟩⟩;have E3:Ext F2 H2 F2 (upd H2 x (.rng 0 n)):=Ext.newO E2.sub hx;exact zg (c:=cI) E3.sub (yi (yR 0 n)) (fun v F5 H5 E5 hr=>k v F5 H5 (E2.trans (E3.trans E5)) ((rO cI).back (E2.h.trans E3.h) hr)) l hl
theorem Wc {mm_:Option (List Int)}{n:Int} (h:Ev K σ F H t (rF cI) (some n)) (e':mm_=Jk n) :
  Ev K σ F H (tCB (fun xs H Q=>∃ p lo hi,xs=[.ref p]/\H p=some (.rng lo hi)/\(-(2 ^ 62)<=lo/\lo<2 ^ 62/\-(2 ^ 62)<=hi/\hi<2 ^ 62)/\(hi-lo).toNat<=2 ^ 24/\∀ l,H l=none->Q (.ref l) (upd H l (.lst ((xV lo hi).map V.int))))
   (jF (fun σ H Q=>(jF t qD) σ H fun vs H1=>∃ j:Int,vs=[.int j]/\∀ x,H1 x=none->Q (.ref x) (upd H1 x (.rng 0 j))) qD)) (rO cI) mm_:=Vf h e'
end
section
variable {F:Hp}{t tb:TE}{c:Cd α}{d:Cd β}{p:Pm α}{q:Pm β}{rs:Rs γ}{i j:Int}
theorem Qz:∀ {l:List α}{xs:List β},Paired R l xs->Paired R l.reverse xs.reverse
 | _,_,.nil=>.nil
 | a::l,x::xs,.cons r s=>by
  rw[List.reverse_cons,List.reverse_cons];exact Paired.app (Qz s) (.cons r .nil)
end
section
variable {F:Hp}{t tb:TE}{c:Cd α}{d:Cd β}{p:Pm α}{q:Pm β}{rs:Rs γ}{i j:Int}
def whM (c:β->Option Bool) (f:β->Option β):Nat->β->Option β
 | 0,_=>none
 | n+1,b=>(c b).bind fun t=>bif t then (f b).bind fun b'=>whM c f n b' else some b
@[irreducible] def pWh (c:β->Option Bool) (f:β->Option β) (b:β):Option β:=whM c f 100000 b
theorem jcQ {tc:TT}{tb:TS}{cM:β->Option Bool} (X:Ext Fe He F H) (hm:(pWh cM fM b0).bind kk=some r) (I:Hp->β->St->Hp->Hp->Prop)
  (h0:I F b0 σ F H) (hG:∀ F1 b σ F H,I F1 b σ F H->Ext Fe He F H/\Same F1 F)
  (hc:∀ b σ' F' H',I F b σ' F' H'->Et K σ' F' H' tc (cM b))
  (hb:∀ b b' σ' F' H' F2 H2,I F b σ' F' H'->Ext F' H' F2 H2->fM b=some b'->tb { D with nx:=fun σ H=>∃ F3,I F b' σ F3 H,ct:=fun σ H=>∃ F3,I F b' σ F3 H,bk:=D.nx } σ' H2)
  (hd:∀ b σ' F' H' F2 H2,I F b σ' F' H'->Ext F' H' F2 H2->kk b=some r->D.nx σ' H2):ZO tc tb D σ H:=by
 obtain⟨b1,hb1,hk⟩:=bind_some hm;unfold pWh at hb1;refine⟨fun m σ H=>∃ b F',whM cM fM m b=some b1/\I F b σ F' H,⟨_,b0,F,hb1,h0⟩,?_⟩;rintro m σ' H' ⟨b,F',hrun,hI⟩;cases m with
 | zero=>cases hrun
 | succ k=>
  obtain⟨t,et,hrun⟩:=bind_some hrun;have g:=hG F b σ' F' H' hI;refine hc b σ' F' H' hI F' H' (Ext.refl g.1.sub) t et _ fun F2 H2 E=>?_;cases t with
  | true=>
   obtain⟨b',eb,hrun⟩:=bind_some hrun;rw[if_pos rfl];exact⟨fun σ H=>∃ F3,I F b' σ F3 H,fun σ'' H'' ⟨F3,h3⟩=>⟨k,Nat.lt_succ_self _,b',F3,hrun,h3⟩,hb b b' σ' F' H' F2 H2 hI E eb⟩
  | false=>
   have e:b=b1:=Option.some.inj hrun;subst e;rw[if_neg (by decide)];exact hd b σ' F' H' F2 H2 hI E hk
theorem jaO {tc:TT}{tb:TS}{cM:β->Option Bool} (X:Ext Fe He F H) (hm:(pWh cM fM b0).bind kk=some r) (I:Hp->β->St->Hp->Hp->Prop)
  (h0:I F b0 σ F H) (hG:∀ F1 b σ F H,I F1 b σ F H->Ext Fe He F H/\Same F1 F)
  (hc:∀ b σ' F' H',I F b σ' F' H'->Et K σ' F' H' tc (cM b))
  (hb:∀ b b' σ' F' H' F2 H2,I F b σ' F' H'->Ext F' H' F2 H2->fM b=some b'->tb { D with nx:=fun σ H=>∃ F3,I F b' σ F3 H,ct:=fun σ H=>∃ F3,I F b' σ F3 H,bk:=u' D } σ' H2)
  (hd:∀ b σ' F' H' F2 H2,I F b σ' F' H'->Ext F' H' F2 H2->kk b=some r->u' D σ' H2):Gh (ZO tc tb) u' D σ H:=
 jcQ (D:={ D with nx:=u' D }) X hm I h0 hG hc hb hd
end
end L3
variable {c:L3.Cd α}{q:L3.Pm β}{p1:L3.Pm α1}{p2:L3.Pm α2}
namespace L2
open PySem PySem.Spec PyProof.Rows
section
def srt (l:List Int):List Int:=l.mergeSort fun a b=>decide (a<=b)
theorem GT (l:List Int):(srt l).Perm l:=List.mergeSort_perm l _
theorem jgO (l:List Int):(srt l).Pairwise (·<=·):=by
 have:=List.pairwise_mergeSort (le:=fun a b:Int=>decide (a<=b)) (fun a b c h1 h2=>by simp at *; omega) (fun a b=>by simp; omega) l;exact this.imp fun h=>by simpa using h
theorem jaP {l m:List Int} (h:m.Perm l) (hs:m.Pairwise (·<=·)):m=srt l:=
 List.Perm.eq_of_pairwise (le:=(·<=·)) (fun a b _ _ h1 h2=>Int.le_antisymm h1 h2) hs (jgO l) (h.trans (GT l).symm)
theorem GI:∀ {us:List Value}{ns:List Int},IntsAre us ns->Vals (ns.map V.int) us
 | _,_,.nil=>.nil
 | _,_,.cons n t h=>.cons ⟨t,rfl⟩ (GI h)
end
end L2
namespace L3
open PySem PySem.Spec L2
section
variable {F:Hp}{t tb:TE}{d:Cd β}{p:Pm α}{rs:Rs γ}{i j:Int}
@[irreducible] def Y3 (l:List Int):Option (List Int):=if l.length<64 then some (srt l) else none
theorem zC {F:Hp}:∀ {l:List Int}{xs:List V},Paired (cI.rep K F) l xs->xs=l.map V.int
 | _,_,.nil=>rfl
 | a::l,x::xs,.cons r s=>by
  have e:x=.int a:=r;rw[e,zC s,Xl]
end
end L3
namespace L2
open PySem
def Up (xs:Array Nat):Prop:=xs.toList.Pairwise (· < ·)
theorem Up.lt {xs:Array Nat} (h:Up xs) {a b:Nat} (hij:i<j) (ha:xs[i]?=some a) (hb:xs[j]?=some b):a<b:=by
 rw[<- Array.getElem?_toList] at ha hb;obtain⟨hi,rfl⟩:=List.getElem?_eq_some_iff.mp ha;obtain⟨hj,rfl⟩:=List.getElem?_eq_some_iff.mp hb;exact List.pairwise_iff_getElem.mp h i j hi hj hij
def Cut (xs:Array Nat) (j p:Nat):Prop:=p<=xs.size/\(∀ i v,i<p->xs[i]?=some v->v<j)/\(∀ i v,p<=i->xs[i]?=some v->j<=v)
theorem jaQ {xs:Array Nat} (h:Up xs):∀ f lo hi,hi-lo<=f->lo<=hi->hi<=xs.size->(∀ i v,i<lo->xs[i]?=some v->v<j)->(∀ i v,hi<=i->xs[i]?=some v->j<=v)->Cut xs j (SetTable.below.go xs j f lo hi)
 | 0,lo,hi,hf,hl,hz,h1,h2=>by
  have e:lo=hi:=by omega
  subst e;exact⟨hz,h1,h2⟩
 | f+1,lo,hi,hf,hl,hz,h1,h2=>by
  unfold SetTable.below.go;by_cases hlt:lo<hi
  ·rw[if_pos hlt];have hm:(lo+hi) / 2<xs.size:=by omega
   have em:xs[(lo+hi) / 2]?=some xs[(lo+hi) / 2]:=Array.getElem?_eq_getElem hm;have eg:xs.getD ((lo+hi) / 2) j=xs[(lo+hi) / 2]:=by simp[Array.getD,hm]
   dsimp only;rw[eg];by_cases hc:xs[(lo+hi) / 2]<j
   ·rw[if_pos hc];refine jaQ h f _ _ (by omega) (by omega) hz (fun i v hi' ev=>?_) h2;by_cases q:i=(lo+hi) / 2
    ·subst q; rw[em] at ev; cases ev; exact hc
    ·exact Nat.lt_trans (h.lt (by omega) ev em) hc
   ·rw[if_neg hc];refine jaQ h f _ _ (by omega) (by omega) (by omega) h1 (fun i v hi' ev=>?_);by_cases q:i=(lo+hi) / 2
    ·subst q; rw[em] at ev; cases ev; omega
    ·have:=h.lt (by omega:(lo+hi) / 2<i) em ev; omega
  ·rw[if_neg hlt];have e:lo=hi:=by omega
   subst e;exact⟨hz,h1,h2⟩
theorem jaR {xs:Array Nat} (h:Up xs) (j:Nat):Cut xs j (SetTable.below xs j):=
 jaQ h xs.size 0 xs.size (by omega) (by omega) (Xh _) (fun i _ hi _=>absurd hi (Nat.not_lt_zero i)) fun i v hi ev=>by
  obtain⟨q,_⟩:=Array.getElem?_eq_some_iff.mp ev;omega
def jin (L:Bool) (t:SetTable):Prop:=t.led=L/\(t.plain=true->Up t.place)
end L2
namespace L2
open PySem PySem.Spec PyProof.Rows
abbrev jio (w:World):Bool:=!w.params.followText "set-order"
structure SetT (prog:Program) (w:World) (h:Heap) (a:Addr) (S:Int->Bool) (n:Nat) (o:Obj) (es:Array (Int×Value)) (ep:Nat) (t:SetTable):Prop where
 loc:h.get? a=some o
 ex:o.ExactSet
 dat:o.data=.set es ep t
 el:ElemsOf (intKind prog w) es.toList
 mem:∀ k,S k=true ↔ ∃ e∈es.toList,(intKind prog w).is k e.2=true
 bd:es.size<scanBound
 fit:t.fits es.size=true
 num:es.size=n
 tab:jin (jio w) t
def SetX (prog:Program) (w:World) (h:Heap) (a:Addr) (S:Int->Bool) (n:Nat):Prop:=∃ o es ep t,SetT prog w h a S n o es ep t
section
variable {S':Int->Bool}{es es1:Array (Int×Value)}{t t1:SetTable}
theorem SetX.keep (x:SetX prog w h a S n) (k:∀ o,h.get? a=some o->h'.get? a=some o):SetX prog w h' a S n:=by
 obtain⟨o,es,ep,t,x⟩:=x;exact⟨o,es,ep,t,{ x with loc:=k _ x.loc }⟩
theorem SetX.congr {n':Nat} (x:SetX prog w h a S n) (e:∀ k,S k=S' k) (en:n=n'):SetX prog w h a S' n':=by
 have q:S=S':=funext e;subst q; subst en; exact x
end
section
variable {es:Array (Int×Value)}{t:SetTable}
inductive Mode (w:World) (a:Addr) (es:Array (Int×Value)) (ep:Nat) (t:SetTable) (tp:Addr) (h:Heap) (ws:List Value) (i:Nat) (first:Value):Prop where
 | text (ht:w.params.followText "set-order"=true) (f:Nat) (e:first=.int f 0) (ew:ws=(pickOrder (w.params.setOrder a ep) es).toList.map (·.2))
 | plain (ht:w.params.followText "set-order"=false) (nd:(!t.plain&&decide (es.size > 1))=false) (up:Up t.place) (f:Nat) (e:first=.int f 0) (ef:SetTable.below t.place f=i) (ew:ws=es.toList.map (·.2))
 | drawn (ps:List Nat) (e:first=.ref tp) (ot:Obj) (nt:Nat) (et:h.get? tp=some ot) (ed:ot.data=.seq (ps.map fun (i:Nat)=>rawInt i).toArray nt) (pp:ps.Perm (List.range es.size)) (ew:ws=ps.map fun p=>(es.getD p (0,.none)).2)
theorem Mode.keep {tp:Addr}{ws:List Value}{first:Value} (m:Mode w a es ep t tp h ws i first) (k:∀ o,h.get? tp=some o->h'.get? tp=some o):Mode w a es ep t tp h' ws i first:=by
 cases m with
 | text ht f e ew=>exact .text ht f e ew
 | plain ht nd up f e ef ew=>exact .plain ht nd up f e ef ew
 | drawn ps e ot nt et ed pp ew=>exact .drawn ps e ot nt (k _ et) ed pp ew
end
section
def dd (l:List Int):List Int:=l.foldl step_dedup []
theorem Jl:∀ {l ms:List Int},l.Nodup->(∀ z,z∈l->z∈ms)->ms.length=l.length->ms.Perm l
 | [],ms,_,_,h=>by
  have e:ms=[]:=List.length_eq_zero_iff.mp h;subst e; exact List.Perm.refl _
 | y::l,ms,nd,sub,h=>by
  have hy:=sub y Xn;obtain⟨ny,nl⟩:=XL.mp nd;refine(List.perm_cons_erase hy).trans (List.Perm.cons _ (Jl nl (fun z hz=>?_) ?_))
  ·exact(List.mem_erase_of_ne (a:=z) (b:=y) (fun e=>ny (by rw[<- e]; exact hz))).mpr (sub z (Xj _ hz))
  ·rw[List.length_erase_of_mem hy,h]; rfl
theorem ints_of {P:Program}{w:World}:∀ {ws:List Value},(∀ v∈ws,∃ k,(intKind P w).is k v=true)->∃ ms,IntsAre ws ms/\∀ z,z∈ms ↔ ∃ v∈ws,(intKind P w).is z v=true
 | [],h=>⟨[],.nil,fun z=>by simp⟩
 | v::ws,h=>by
  obtain⟨ms,h1,h2⟩:=ints_of (P:=P) (w:=w) (ws:=ws) fun v hv=>h v (Xj _ hv);obtain⟨k,hk⟩:=h v Xn;obtain⟨t,rfl⟩:=Value.isInt_shape hk;refine⟨k::ms,.cons k t h1,fun z=>?_⟩;rw[XB,h2 z];constructor
  ·rintro (rfl | ⟨v,m,i⟩)
   ·exact⟨_,Xn,hk⟩
   ·exact⟨v,Xj _ m,i⟩
  ·rintro⟨v,m,i⟩;rcases XB.mp m with rfl | m
   ·exact .inl ((intKind P w).inj _ _ _ i hk)
   ·exact .inr ⟨v,m,i⟩
end
section
theorem Vg {l:Addr}{vs:List Value}{Q:List Value->Shared->Prop} (ho:s.heap.get? l=some o) (hc:o.cls=.type "tuple") (hd:o.data=.seq vs.toArray n)
  (h:Q vs { s with heap:=(s.heap.push (seqObj "list" #[] 0)).update s.heap.objs.size (Obj.mapSeq (·++vs.toArray)) }) (hsz:vs.length<=sizeLine) :
  wpAny (model prog w) A (collect (.ref l)) Q E s:=by
 unfold collect;refine Xa (wpAny_runValue (codeAny_builtin entry_proto_collect' ?_));show wpAny _ _ (do again (.builtin "list.__iadd__" ⟨[<- newList [],.ref l],[]⟩)) _ _ s;refine Xa (wpAny_newList (Xd ⟨Code.quiet_builtin _ (by decide +kernel),codeAny_builtin entry_list_iadd' ?_⟩));show wpAny _ _ (Builtin.List.listExtendWith (.ref s.heap.objs.size) (.ref l) (.ref s.heap.objs.size)) _ _ { s with heap:=s.heap.push (seqObj "list" #[] 0) }
 unfold Builtin.List.listExtendWith;have ho':(s.heap.push (seqObj "list" #[] 0)).get? l=some o:=Xb _ ho;refine Xa (wpAny_typeOf (T:="tuple") ⟨o,ho',hc⟩ ?_);have ht:(Value.type "tuple"==Value.type "tuple")=true:=by rfl
 rw[if_pos (by rw[ht]; simp)];refine Xa (listItems_at ho' hd ?_);refine Xa (listItems_at (xs:=#[]) (n:=0) (Xo _ rfl) rfl ?_);rw[if_neg (by simp)];refine Xa (listUpdate_at (xs:=#[]) (n:=0) (Xo _ rfl) rfl ?_ (wC _) (by show (#[]++vs.toArray).size<=sizeLine+1; simp only[Array.size_append,Xs,List.length_nil]; omega));refine Xd ?_;show wpAny (model prog w) A (load s.heap.objs.size >>= _) Q E _;refine Xa (wpAny_load (get?_update_seq (Xo _ rfl) _) ?_);show wpAny _ _ (pure ((#[]:Array Value)++vs.toArray).toList) Q E _;rw[show ((#[]:Array Value)++vs.toArray).toList=vs by simp];exact Xd h
theorem Wd {l:Addr}{vs:List Value}{ns:List Int} (ho:s.heap.get? l=some o) (hc:o.cls=.type "tuple") (hd:o.data=.seq vs.toArray n) (hI:IntsAre vs ns) (h64:vs.length<64)
  (h:∀ (out:Array Value) (ns':List Int),IntsAre out.toList ns'->ns'.Perm ns->ns'.Pairwise (·<=·)->Q (.ref (s.heap.objs.size+1)) { s with heap:=sortedAll s.heap vs out }) :
  wpAny (model prog w) A (call (.builtin "sorted") [.ref l]) Q E s:=by
 refine Calls.call_function_entry kind_sorted plain_sorted entry_sorted (args_sorted1 _) ?_;unfold Builtin.«sorted»;refine Xa (m:=checkCount "sorted" 1 1 _) (Xd ?_);refine Xa (Vg ho hc hd ?_ (by rw[XH]; omega));refine Xa (wpAny_newList ?_);have sz:((s.heap.push (seqObj "list" #[] 0)).update s.heap.objs.size (Obj.mapSeq (·++vs.toArray))).objs.size=s.heap.objs.size+1:=by
  rw[Heap.size_update,size_push']
 have hL:(((s.heap.push (seqObj "list" #[] 0)).update s.heap.objs.size (Obj.mapSeq (·++vs.toArray))).push (seqObj "list" vs.toArray 0)).get? (s.heap.objs.size+1)=some (seqObj "list" vs.toArray 0):=by
  rw[<- sz]; exact Xo _ rfl
 show wpAny _ _ _ _ _ { s with heap:=((s.heap.push (seqObj "list" #[] 0)).update s.heap.objs.size (Obj.mapSeq (·++vs.toArray))).push (seqObj "list" vs.toArray 0) }
 rw[sz];refine Xa (wA (wx slot_list_sort ⟨_,hL,rfl⟩ entry_list_sort (list_sort_tree hL hI h64 fun out ns' a1 a2 a3=>⟨_,rfl,?_⟩) (args_list_sort _)));exact Xd ⟨_,rfl,h out ns' a1 a2 a3⟩
end
section
theorem yT:zw X (.builtin "sorted") (fun xs H Q=>∃ p ns,xs=[.ref p]/\SqT X.K H p (ns.map V.int)/\ns.length<64/\∀ l,H l=none->Q (.ref l) (upd H l (.lst ((srt ns).map V.int)))):=by
 intro pins s σ H xs us Q I r h;obtain⟨p,ns,rfl,hq,hn,q⟩:=h;obtain⟨u,rfl,rx⟩:=YC r;cases rx;obtain⟨its,rv,pl,hz⟩:=I.tuple hq;have hlen:=rv.length;rw[Xp] at hlen;obtain⟨o,ho,hc,n,hd⟩:=pl;refine Wd ho hc hd (Qp rv) (by omega) fun out ns' a1 a2 a3=>?_;obtain⟨e,he⟩:=sortedAll_at s.heap its out;have e':=jaP a2 a3;subst e';refine⟨.ref _,_,I.laid (o:=.lst ((srt ns).map V.int)) (t':=s.toks) (fun b o eb=>sortedAll_old eb) (Nat.le_succ _) ⟨?_,out.toList,e,GI a1,by simpa using he⟩,rfl,q _ (I.hok.fresh (Nat.le_succ _))⟩;rw[Xp,(GT ns).length_eq];rw[Xp] at hz;exact hz
end
end L2
namespace L3
open PySem PySem.Spec L2
section
variable {F:Hp}{t tb:TE}{d:Cd β}{p:Pm α}{rs:Rs γ}{i j:Int}
theorem Jm:Op1 K (fun x H Q=>∃ p ns,[x]=[V.ref p]/\SqT K H p (ns.map V.int)/\ns.length<64/\∀ l,H l=none->Q (.ref l) (upd H l (.lst ((srt ns).map V.int)))) (pF (cT cI)) (rO cI) (fun l=>Y3 l):=by
 intro F H l x s hx z hz Q k;obtain⟨p,xs,rfl,h1,h2⟩:=hx;unfold Y3 at hz;obtain⟨hn,rfl⟩:=ki hz;rw[zC h2] at h1;exact⟨p,l,rfl,SqT.of (s _ _ h1),hn,fun a ha=>zg s (yi (srt l)) k a ha⟩
@[irreducible] def mn2 (i j:Int):Int:=if j<i then j else i
theorem jd2:Op2 K (fun x y H Q=>∃ i j,[x,y]=[V.int i,.int j]/\Q (.int (if j<i then j else i)) H) (pF cI) (pF cI) (rF cI) (fun i j=>some (mn2 i j)):=by
 intro F H a b x y s hx hy c hc Q k;cases hx; cases hy; cases hc;refine⟨a,b,rfl,?_⟩;have:=k _ F H (Ext.refl s) (show (cI.rep K F (mn2 a b) (.int (mn2 a b))) from rfl);unfold mn2 at this;exact this
end
end L3
namespace HT
open PySem PyProof.Rows
section
theorem cat_tup0 {t b:Addr}{vs ws:List Value} (ht:IsTup s.heap t vs.toArray) (hb:IsTup s.heap b ws.toArray) (hv:vs=[]) (h:Q (.ref b) s) :
  wpAny (model prog w) A (binaryOp .Add (.ref t) (.ref b)) Q E s:=by
 obtain⟨⟨cls,dd,data,sl⟩,ho,hc,n,hd⟩:=id ht;obtain⟨⟨cls2,dd2,data2,sl2⟩,ho2,hc2,n2,hd2⟩:=id hb;simp only at hc hd hc2 hd2;subst hc hd hc2 hd2;exact concat_meets ⟨_,ho,rfl⟩ ⟨_,ho2,rfl⟩ noFill_tuple_add seq_tuple_add PySem.F.slot_tuple_add PySem.F.entry_tuple_add (PySem.F.args_tuple_add_2 _ _)
  (tuple_addW0 t b vs.toArray ws.toArray n n2 dd dd2 sl sl2 (by simp[hv])) ⟨ho,ho2,h⟩
theorem getItem_tuple_whole {t:Addr} (ht:IsTup s.heap t items) (hs:s.heap.IsSliceOf sl vl vu .none) (pl:IsPart vl lo) (pu:IsPart vu hi)
  (hw:sIx items.size 0 lo=0/\sIx items.size items.size hi=items.size) (h:Q (.ref t) s):wpAny (model prog w) A (getItem (.ref t) (.ref sl)) Q E s:=by
 obtain⟨os,hos,hcs,hds⟩:=id hs;have hTs:s.TypeIs (.ref sl) "slice":=⟨os,hos,hcs⟩;unfold getItem
 try with_reducible refine wpAny_holding ?_
 first | refine wpAny_bind (wpAny_pure ?_) | skip
 refine wpAny_bind (wpAny_sequenceKey ht.typeIs (by decide) ?_);refine wpAny_bind (wpAny_callSpecial?_slot (name:=Str.ofString "__getitem__") ht.typeIs PyProof.Rows.slot_tuple_getitem
  (wpAny_call_entry PyProof.Rows.slot_tuple_getitem ht.typeIs entry_tuple_getitem ?_ (args_tuple_getitem _ _)))
 show wpAny _ _ (Builtin.Tuple.tupleItemsOf (.ref t) >>= _) _ _ s;refine wpAny_bind (tupleItemsOf_ ht ?_);refine wpAny_bind (wpAny_typeOf hTs ?_);rw[if_pos (by decide)];refine wpAny_bind (yF hs pl pu ?_);have hyes:(((sIx items.size 0 lo:Nat):Int)==0&&(1:Int)==1&&(sIx items.size items.size hi-sIx items.size 0 lo)==items.size)=true:=by
  rw[hw.1,hw.2,Nat.sub_zero];simp
 show wpAny _ _ (if (((sIx items.size 0 lo:Nat):Int)==0&&(1:Int)==1&&(sIx items.size items.size hi-sIx items.size 0 lo)==items.size)=true then _ else _) _ _ s;rw[if_pos hyes];refine wpAny_bind ?_;unfold Builtin.Tuple.tupleIsExact;refine wpAny_bind (wpAny_typeOf ht.typeIs (wpAny_pure ?_));rw[if_pos (by decide)];exact wpAny_bind (wpAny_rule (wpAny_pure ⟨_,rfl,wpAny_pure h⟩))
end
end HT
namespace L2
open PySem PySem.Spec PyProof.Rows
section
def jd3 (K:W.Frag):R2:=fun x y H Q=>∃ a b xs ys,x=.ref a/\y=.ref b/\SqT K H a xs/\SqT K H b ys/\xs.length+ys.length<=sizeLine /\
 (xs=[]->Q (.ref b) H)/\(ys=[]->Q (.ref a) H)/\∀ p,H p=none->Q (.ref p) (upd H p (.tup (xs++ys)))
theorem xo:OpR X (binaryOp .Add) (jd3 X.K):=by
 intro pins s σ H x y v u Q I rx ry h;obtain⟨a,b,xs,ys,rfl,rfl,ha,hb,hz,q0,q1,q2⟩:=h;by_cases hx:xs=[]
 ·cases rx;cases ry;obtain⟨its,r1,p1,_⟩:=I.tuple ha;obtain⟨its2,r2,p2,_⟩:=I.tuple hb;exact HT.cat_tup0 p1 p2 (r1.nil_iff.mpr hx) ⟨.ref b,H,I,rfl,q0 hx⟩
 ·exact jeI pins s σ H (.ref a) (.ref b) v u Q I rx ry ⟨a,b,xs,ys,rfl,rfl,ha,hb,hx,hz,q1,fun _=>q2⟩
def jfi (K:W.Frag):V->Option Int->Option Int->Hp->VK->Prop:=fun x lo hi H Q=>∃ a xs,x=.ref a/\SqT K H a xs /\
 ((HT.sIx xs.length 0 lo=0/\HT.sIx xs.length xs.length hi=xs.length)->Q (.ref a) H)/\∀ p,H p=none->Q (.ref p) (upd H p (.tup (jci xs lo hi)))
theorem yt:SlR X (jfi X.K):=by
 intro pins s σ H x v vl vu lo hi sl Q I rx hs pl pu h;obtain⟨a,xs,rfl,hx,q0,q⟩:=h;by_cases hw:HT.sIx xs.length 0 lo=0/\HT.sIx xs.length xs.length hi=xs.length
 ·cases rx;obtain⟨its,r,ht,hz⟩:=I.tuple hx;have hlen:its.toArray.size=xs.length:=by rw[Xs]; exact r.length.symm
  refine⟨"tuple",_,PyProof.Rows.slot_tuple_getitem.lookup,ht.typeIs,?_⟩;exact HT.getItem_tuple_whole ht hs pl pu (by rw[hlen]; exact hw) ⟨.ref a,H,I,rfl,q0 hw⟩
 ·exact jgo pins s σ H (.ref a) v vl vu lo hi sl Q I rx hs pl pu ⟨a,xs,rfl,hx,hw,q⟩
end
end L2
namespace L3
open PySem PySem.Spec L2
section
variable {F:Hp}{t tb:TE}{d:Cd β}{p:Pm α}{rs:Rs γ}{i j:Int}
theorem zq:Op2 K (jd3 K) (pF (cT c)) (pF (cT c)) (rF (cT c)) JT:=by
 intro F H l m x y s hx hy z hz Q k;obtain⟨a,xs,rfl,h1,h2⟩:=hx;obtain⟨b,ys,rfl,h3,h4⟩:=hy;unfold JT at hz;obtain⟨hc,rfl⟩:=ki hz;rw[h2.length,h4.length] at hc;refine⟨a,b,xs,ys,rfl,rfl,SqT.of (s _ _ h1),SqT.of (s _ _ h3),by rw[XH]; exact hc,fun e=>?_,fun e=>?_,fun p hp=>Q5 s (Paired.app h2 h4) k p hp⟩
 ·have el:l=[]:=List.length_eq_zero_iff.mp (by rw[h2.length,e]; rfl);subst el;exact k _ F H (Ext.refl s) ⟨b,ys,rfl,h3,h4⟩
 ·have el:m=[]:=List.length_eq_zero_iff.mp (by rw[h4.length,e]; rfl);subst el;rw[XU] at k;exact k _ F H (Ext.refl s) ⟨a,xs,rfl,h1,h2⟩
theorem jaS (h:HT.sIx l.length 0 lo=0/\HT.sIx l.length l.length hi=l.length):cut l lo hi=l:=by
 unfold cut;rw[h.1,h.2,List.drop_zero,Nat.sub_zero,List.take_length]
theorem jcR {ml:Option (Option Int)} (h:Ev K σ F H t (pF (cT c)).rs m) (hl:Eo K σ F H tl ml) (hh:Eo K σ F H th mh)
  (e':mm_=(m.bind fun l=>ml.bind fun i=>mh.bind fun j=>some (cut l i j))):Ev K σ F H (tSl (jfi K) t tl th) (rF (cT c)) mm_:=by
 subst e';intro F1 H1 E z hz Q k;obtain⟨l,el,hz⟩:=bind_some hz;obtain⟨i,ei,hz⟩:=bind_some hz;obtain⟨j,ej,hz⟩:=bind_some hz;cases hz;refine h F1 H1 E l el _ ?_;intro v F2 H2 E2 hv;refine hl F2 H2 (E.trans E2) i ei _ fun F3 H3 E3=>hh F3 H3 ((E.trans E2).trans E3) j ej _ fun F4 H4 E4=>?_;obtain⟨a,xs,rfl,h1,h2⟩:=(pF (cT c)).mono (E3.trans E4) hv;refine⟨a,xs,rfl,SqT.of (E4.sub _ _ h1),fun hw=>?_,fun p hp=>?_⟩
 ·rw[<- h2.length] at hw;rw[jaS hw] at k;exact k _ F4 H4 (E2.trans (E3.trans E4)) ⟨a,xs,rfl,h1,h2⟩
 ·exact Q5 (c:=c) E4.sub (Paired.cutP i j h2) (fun v F5 H5 E5 hr=>k v F5 H5 (E2.trans (E3.trans (E4.trans E5))) ((rF (cT c)).back (E2.h.trans (E3.h.trans E4.h)) hr)) p hp
theorem qH {x y:Option Int} (h:Ev K σ F H t (pF (cT c)).rs (some l)) (hl:Eo K σ F H tl (some x)) (hh:Eo K σ F H th (some y)) (e':mm_=(some (cut l x y))) :
  Ev K σ F H (tSl (jfi K) t tl th) (rF (cT c)) mm_:=jcR h hl hh e'
end
end L3
namespace L2
open PySem PySem.Spec PyProof.Rows
def Exc (h:Heap) (e C:Addr) (d:Option Addr) (T:Option (Addr×Value)):Prop:=
 ∃ oe vs,h.get? e=some oe/\oe.cls=.ref C/\oe.dict=d/\oe.data=.fields vs/\vs[1]?=some (T.elim .none fun p=>.ref p.1) /\
  ∀ p,T=some p->p.1≠e/\∃ oT ts,h.get? p.1=some oT/\oT.data=.fields ts/\ts[3]?=some p.2
structure Mv (fs ch:List Addr) (h h':Heap):Prop where
 keep:∀ b o,h.get? b=some o->b∉fs->b∉ch->h'.get? b=some o
 slot:∀ b o,h.get? b=some o->b∉ch->∃ sl,h'.get? b=some { o with slots:=sl }
 there:∀ b o,h.get? b=some o->∃ o',h'.get? b=some o'
theorem Mv.trans {fs:List Addr}{h2:Heap} (x:Mv fs ch h h1) (y:Mv fs ch h1 h2):Mv fs ch h h2:=
 ⟨fun b o e m n=>y.keep b o (x.keep b o e m n) m n,fun b o e n=>by
  obtain⟨s1,e1⟩:=x.slot b o e n;obtain⟨s2,e2⟩:=y.slot b _ e1 n;exact⟨s2,e2⟩,fun b o e=>by
  obtain⟨o1,e1⟩:=x.there b o e;exact y.there b o1 e1⟩
theorem Mv.mono {fs ch':List Addr} (x:Mv fs ch h h1) (k:∀ b∈ch,b∈ch'):Mv fs ch' h h1:=
 ⟨fun b o e m n=>x.keep b o e m fun z=>n (k b z),fun b o e n=>x.slot b o e fun z=>n (k b z),x.there⟩
theorem Mv.fields {fs:List Addr}{vs:Array Value} (f:Array Value->Array Value) (e:h.get? a=some o) (d:o.data=.fields vs) :
  Mv fs [a] h (h.update a (Obj.mapFields f)):=by
 have self:=wj (Obj.mapFields f) e (Obj.isFreed_of_fields (wp d f));refine⟨fun b o' e' _ n=>?_,fun b o' e' n=>⟨o'.slots,?_⟩,fun b o' e'=>?_⟩
 ·rw[wc _ _ (fun q=>n (by simp[q]))]; exact e'
 ·rw[wc _ _ (fun q=>n (by simp[q]))]; exact e'
 ·by_cases q:a=b
  ·subst q; exact ⟨_,self⟩
  ·exact⟨o',by rw[wc _ _ q]; exact e'⟩
theorem Mv.of_slots {S:List Addr} (x:Heap.SlotsOnly S h h'):Mv S ch h h':=
 ⟨fun b o e m _=>(x.2.1 b m).trans e,fun b o e _=>x.2.2 b o e,fun b o e=>let ⟨_,q⟩:=x.2.2 b o e; ⟨_,q⟩⟩
theorem Mv.push {fs:List Addr} (o:Obj):Mv fs ch h (h.push o):=
 ⟨fun b u e _ _=>Xb _ e,fun b u e _=>⟨u.slots,Xb _ e⟩,fun b u e=>⟨u,Xb _ e⟩⟩
theorem Mv.frames {fs:List Addr}{l:List Env} (x:Mv fs ch h h') (hc:∀ b∈ch,∀ o,h.get? b=some o->∃ vs,o.data=.fields vs) (hl:h.FunFrames base l):h'.FunFrames base l:=
 hl.of_keeps fun b o e d=>by
  obtain⟨sl,q⟩:=x.slot b o e fun z=>by
   obtain⟨vs,q⟩:=hc b z o e;exact d vs q
  exact⟨_,q,rfl⟩
section
theorem Vh {L e:Addr}{oe:Obj}{vs:Array Value}{head:Value}{hadNext:Bool}{Q:Unit->Shared->Prop}
  (hfr:A.frames=some (env::outer)) (hl:s.heap.FunFrames base (env::outer)) (hf:env.frame=some L)
  (he:s.heap.get? e=some oe) (hc:oe.cls=.ref C) (hdc:oe.dict=d) (hd:oe.data=.fields vs) (hsz:1<vs.size)
  (k:∀ h' t,Exc h' e C d (some (t,rawInt L))->Mv (frs (env::outer)) [e] s.heap h'->s.heap.objs.size<=t->Q () { s with heap:=h' }) :
  wpAny M A (do let a <- frameOf env; let pl <- entryPlaceOf L hadNext; let b <- EntryCells.newEntry head a .none (rawInt L) .none pl; setField (.ref e) 1 b) Q E s:=by
 have hene:e∉(env::outer).filterMap (·.frame):=fun hm=>by
  obtain⟨_,o,ho,hnf⟩:=hl.mem hm;rw[he] at ho; injection ho with ho; subst ho; exact hnf vs hd
 refine Xa (wpAny_frameOf_fun hfr hl hf fun h₁ hs₁=>?_);refine Xa (wpAny_entryPlaceOf fun pl hpl=>?_);unfold EntryCells.newEntry newFields;refine Xa (XN ?_ (hpl.sizeOk5 _ _ _ _ _));have he₁:h₁.get? e=some oe:=(hs₁.2.1 e hene).trans he;generalize hO:({ cls:=.type "traceback",dict:=none,data:=.fields ([head,.ref L,.none,rawInt L,.none]++(if pl.isEmpty then List.replicate 6 Value.none else pl)).toArray }:Obj)=oT;have he₂:=Xb (h:=h₁) oT he₁;have m1:Mv (frs (env::outer)) [e] s.heap h₁:=Mv.of_slots hs₁;have m2:Mv (frs (env::outer)) [e] h₁ (h₁.push oT):=Mv.push oT;refine wpAny_setField he₂ hd hsz (k _ h₁.objs.size ?_ ((m1.trans m2).trans (Mv.fields _ he₂ hd)) (by rw[hs₁.1]; exact Xh _));have hTe:h₁.objs.size≠e:=Nat.ne_of_gt (Xu he₁);have hd₃:=wp hd (·.setIfInBounds 1 (Value.ref h₁.objs.size));have he₃:=wj (Obj.mapFields (·.setIfInBounds 1 (Value.ref h₁.objs.size))) he₂ (Obj.isFreed_of_fields hd₃);have hnf:oT.isFreed=false:=by rw[<- hO]; rfl
 have hT₃:=(wc (h₁.push oT) (Obj.mapFields (·.setIfInBounds 1 (Value.ref h₁.objs.size))) (Ne.symm hTe)).trans (Xo h₁ hnf);refine⟨_,_,he₃,(Obj.cls_mapFields _ _).trans hc,?_,hd₃,by simp[hsz],fun p hp=>?_⟩
 ·obtain⟨c0,d0,dt0,s0⟩:=oe;cases dt0 <;> first | exact hdc | (cases hd)
 ·cases hp;refine⟨hTe,_,_,hT₃,by rw[<- hO],?_⟩
  first | (simp; done) | (rcases hpl with rfl | ⟨_,_,_,_,_,_,_,rfl⟩ <;> simp)
theorem jcS {L e:Addr}{Q:Unit->Shared->Prop}
  (hfr:A.frames=some (env::outer)) (hl:s.heap.FunFrames base (env::outer)) (hf:env.frame=some L) (x:Exc s.heap e C d T) (hT:∀ p,T=some p->p.2=.none)
  (k:∀ h' t,Exc h' e C d (some (t,rawInt L))->Mv (frs (env::outer)) (e::(T.map (·.1)).toList) s.heap h'->s.heap.objs.size<=t->Q () { s with heap:=h' }) :
  wpAny M A (noteFrame (.ref e) env) Q E s:=by
 obtain⟨oe,vs,he,hc,hdc,hd,h1,hp⟩:=x;have hsz:1<vs.size:=(Array.getElem?_eq_some_iff.mp h1).1;unfold noteFrame;simp only[hf];refine Xa (wv he hd h1 ?_);cases T with
 | none=>
  show wpAny M A (if (Value.none != Value.none)=true then _ else _) Q E s;rw[if_neg (by decide)];exact Vh hfr hl hf he hc hdc hd hsz fun h' t x m n=>k h' t x (m.mono (by simp)) n
 | some p=>
  obtain⟨hTe,oT,ts,hT₀,hdT,h3⟩:=hp p rfl;have hp2:=hT p rfl;obtain⟨T,fl⟩:=p;cases hp2;show wpAny M A (if (Value.ref T != Value.none)=true then _ else _) Q E s;rw[if_pos (show (Value.ref T != Value.none)=true from by simp)];refine Xa (wv hT₀ hdT h3 ?_);rw[if_neg (show ¬ ((Value.none==rawInt L)=true) from by simp[rawInt])];have m1:=Mv.fields (fs:=frs (env::outer)) (·.setIfInBounds 3 Value.none) hT₀ hdT;refine Xa (wpAny_setField hT₀ hdT (Array.getElem?_eq_some_iff.mp h3).1 ?_);refine Vh hfr (m1.frames (fun b hb o ho=>?_) hl) hf ((wc _ _ hTe).trans he) hc hdc hd hsz fun h' t x m n=>k h' t x ((m1.mono (by simp)).trans (m.mono (by simp))) ?_
  ·have e0:b=T:=by simpa using hb
   subst e0;rw[hT₀] at ho; cases ho;exact⟨ts,hdT⟩
  ·rw[Heap.size_after_update] at n; exact n
theorem J1 {L e T:Addr}{Q:Unit->Shared->Prop} (hf:env.frame=some L) (x:Exc s.heap e C d (some (T,rawInt L))) (k:Q () s) :
  wpAny M A (noteFrame (.ref e) env) Q E s:=by
 obtain⟨oe,vs,he,hc,hdc,hd,h1,hp⟩:=x;obtain⟨hTe,oT,ts,hT₀,hdT,h3⟩:=hp _ rfl;unfold noteFrame;simp only[hf];refine Xa (wv he hd h1 ?_);show wpAny M A (if (Value.ref T != Value.none)=true then _ else _) Q E s;rw[if_pos (show (Value.ref T != Value.none)=true from by simp)];refine Xa (wv hT₀ hdT h3 ?_);rw[if_pos (show (rawInt L==rawInt L)=true from by simp)];exact Xd k
theorem Y4 {e T:Addr}{fl:Value}{fr:Option Addr}{fs:List Addr}{Q:Unit->Shared->Prop} (x:Exc s.heap e C d (some (T,fl)))
  (k:∀ h',Exc h' e C d (some (T,fr.elim .none fun f=>rawInt f))->Mv fs [T] s.heap h'->Q () { s with heap:=h' }):wpAny M A (setFlight (.ref e) fr) Q E s:=by
 obtain⟨oe,vs,he,hc,hdc,hd,h1,hp⟩:=x;obtain⟨hTe,oT,ts,hT₀,hdT,h3⟩:=hp _ rfl;have hsz3:3<ts.size:=(Array.getElem?_eq_some_iff.mp h3).1;unfold setFlight;refine Xa (wv he hd h1 ?_);show wpAny M A (if (Value.ref T != Value.none)=true then _ else _) Q E s;rw[if_pos (show (Value.ref T != Value.none)=true from by simp)];refine wpAny_setField hT₀ hdT hsz3 (k _ ⟨oe,vs,(wc _ _ hTe).trans he,hc,hdc,hd,h1,fun p hp=>?_⟩ (Mv.fields _ hT₀ hdT));cases hp;exact⟨hTe,_,_,wj _ hT₀ (Obj.isFreed_of_fields (wp hdT _)),wp hdT _,by simp[hsz3]⟩
end
section
theorem Inv.nopins (I:Inv X pins σ H s) (hpn:X.pn=[]):Inv X [] σ H s:=
 ⟨I.ok,I.os,I.bare,I.base,I.loc,I.cell,I.free,I.freeC,fun p hp=>by rw[hpn] at hp; exact absurd hp (by simp),I.hok,I.len⟩
theorem Inv.mv (I:Inv X [] σ H s) (hpn:X.pn=[]) (m:Mv (frs X.stack) ch s.heap h')
  (hch:∀ b∈ch,X.s₀.heap.get? b=none/\H b=none/\∃ o vs,s.heap.get? b=some o/\o.data=.fields vs):Inv X [] σ H { s with heap:=h' }:=by
 have neL:∀ b o,X.s₀.heap.get? b=some o->b≠X.env.locals:=fun b o e=>XF (Xx (Xu e) I.ok.above);have neC:∀ b o,X.s₀.heap.get? b=some o->b∉ch:=fun b o e hb=>by
  have:=(hch b hb).1;rw[e] at this; cases this
 have data:∀ b o,s.heap.get? b=some o->(∀ vs,o.data≠.fields vs)->b∉ch:=fun b o e d hb=>by
  obtain⟨_,_,o',vs,e',d'⟩:=hch b hb;rw[e] at e'; cases e';exact d vs d'
 have cellK:∀ c v,s.heap.IsCell c v->h'.IsCell c v:=fun c v ⟨o,ho,hd⟩=>by
  obtain⟨sl,q⟩:=m.slot c o ho (data c o ho fun vs z=>by rw[hd] at z; cases z);exact⟨_,q,hd⟩
 refine⟨I.ok,I.os,I.bare,⟨fun b o e n hb hx=>?_,fun b o e n hb hx=>?_,fun b o e n hx=>I.base.free b o e n hx,fun b o e hx=>?_,I.base.tups,I.base.frzs,I.base.tbls⟩,?_,fun x c e=>?_,I.free,I.freeC,fun p hp=>?_,fun b u e=>?_,I.len⟩
 ·refine m.keep b o (I.base.keep b o e n hb hx) (fun z=>?_) (neC b o e);rcases XB.mp (I.stkSub b z) with q | q
  ·exact neL b o e q
  ·exact hb q
 ·obtain⟨sl,e1⟩:=I.base.slot b o e n hb hx;obtain⟨sl',e2⟩:=m.slot b _ e1 (neC b o e);exact⟨sl',e2⟩
 ·obtain⟨o',e1⟩:=I.base.there b o e hx;exact m.there b o' e1
 ·obtain⟨mm,⟨o,es,ep,ho,hd,r⟩,hl⟩:=I.loc;obtain⟨sl,q⟩:=m.slot _ o ho (data _ o ho fun vs z=>by rw[hd] at z; cases z);refine⟨mm,⟨_,es,ep,q,hd,r⟩,fun i x v e1 e2 e3=>?_⟩;obtain⟨u,rr,l⟩:=hl i x v e1 e2 e3;refine⟨u,rr,?_⟩;rcases l with l | ⟨k,c,e,z⟩
  ·exact .inl l
  ·exact .inr ⟨k,c,e,cellK c _ z⟩
 ·obtain⟨v,z⟩:=I.cell x c e;exact⟨v,cellK c v z⟩
 ·rw[hpn] at hp; exact absurd hp (by simp)
 ·refine(I.hok b u e).stay (fun c v hc q=>m.keep c v q (fun z=>?_) fun z=>?_) (fun _ q=>q) fun _ _ q=>q
  ·have n:=I.stkFree c z;rcases hc with hc | hc
   ·rw[hc,e] at n; cases n
   ·rw[hc] at n; cases n
  ·have n:=(hch c z).2.1;rcases hc with hc | hc
   ·rw[hc,e] at n; cases n
   ·rw[hc] at n; cases n
end
def CX1 (P:Program) (w:World):CXT:=fun outer H s E e s'=>
 ∃ a C d t H',e=.ref a/\Exc s'.heap a C d (some (t,.none))/\s.heap.get? a=none/\s.heap.get? t=none/\H' a=none/\H' t=none /\
  s'.os=s.os/\AllBare s'.gens/\Un (frs outer) [] H H' s.heap s'.heap/\HOk P w H' s'.heap/\E (.ref C) d H'
def Fly (X:Cx) (E:St->XK) (e:Value) (s':Shared):Prop:=
 ∃ a C d T σ H,e=.ref a/\Exc s'.heap a C d T/\(∀ p,T=some p->p.2=.none \/ p.2=rawInt X.env.locals)/\X.s₀.heap.get? a=none/\H a=none /\
  (∀ p,T=some p->X.s₀.heap.get? p.1=none/\H p.1=none)/\Inv X [] σ H s'/\E σ (.ref C) d H
structure Cx.Def (X:Cx):Prop where
 st:X.stack=X.env::X.outer
 fr:X.env.frame=some X.env.locals
 pn:X.pn=[]
 ex:X.ex=[]
section
variable {E:St->XK}{e:Value} 
theorem Exc.fieldsE (x:Exc h a C d T):∃ o vs,h.get? a=some o/\o.data=.fields vs:=by
 obtain⟨oe,vs,he,_,_,hd,_⟩:=x;exact⟨oe,vs,he,hd⟩
theorem Exc.fieldsT {p:Addr×Value} (x:Exc h a C d (some p)):∃ o vs,h.get? p.1=some o/\o.data=.fields vs:=by
 obtain⟨oe,vs,he,_,_,hd,_,k⟩:=x;obtain⟨_,oT,ts,h1,h2,_⟩:=k p rfl;exact⟨oT,ts,h1,h2⟩
theorem Inv.old (I:Inv X pins σ H s) (hex:X.ex=[]) {b:Addr} (n:s.heap.get? b=none):X.s₀.heap.get? b=none:=by
 cases q:X.s₀.heap.get? b with
 | none=>rfl
 | some o=>obtain⟨o',e'⟩:=I.base.there b o q (by rw[hex]; simp); rw[n] at e'; cases e'
theorem Ya (D:X.Def) {Q:Unit->Shared->Prop} (x:Exc s.heap a C d T) (hT:∀ p,T=some p->p.2=.none \/ p.2=rawInt X.env.locals)
  (ha:X.s₀.heap.get? a=none) (hn:H a=none) (ht:∀ p,T=some p->X.s₀.heap.get? p.1=none/\H p.1=none) (I:Inv X [] σ H s)
  (k:∀ h' t,Exc h' a C d (some (t,rawInt X.env.locals))->X.s₀.heap.get? t=none->H t=none->Inv X [] σ H { s with heap:=h' }->Q () { s with heap:=h' }) :
  wpAny (model X.prog X.w) X.A (noteFrame (.ref a) X.env) Q Ex s:=by
 by_cases c:∃ t,T=some (t,rawInt X.env.locals)
 ·obtain⟨t,rfl⟩:=c;exact J1 D.fr x (k s.heap t x (ht _ rfl).1 (ht _ rfl).2 I)
 ·have hfr:X.A.frames=some (X.env::X.outer):=by rw[<- D.st]; exact I.ok.frames
  have hl:s.heap.FunFrames X.base (X.env::X.outer):=by rw[<- D.st]; exact I.stack
  refine jcS hfr hl D.fr x (fun p hp=>?_) fun h' t x' m n=>k h' t x' (I.old D.ex (Heap.get?_none_of_le n)) (I.hok.fresh n) (I.mv D.pn (by rw[D.st]; exact m) fun b hb=>?_)
  ·rcases hT p hp with q | q
   ·exact q
   ·exact absurd ⟨p.1,by rw[hp,<- q]⟩ c
  ·rcases XB.mp hb with q | q
   ·subst q; exact ⟨ha,hn,x.fieldsE⟩
   ·cases T with
    | none=>simp at q
    | some p=>
     have e0:b=p.1:=by simpa using q
     subst e0;exact⟨(ht p rfl).1,(ht p rfl).2,x.fieldsT⟩
theorem Go (D:X.Def) {t:Addr}{fl:Value}{fr:Option Addr}{Q:Unit->Shared->Prop} (x:Exc s.heap a C d (some (t,fl))) (h1:X.s₀.heap.get? t=none) (h2:H t=none) (I:Inv X [] σ H s)
  (k:∀ h',Exc h' a C d (some (t,fr.elim .none fun f=>rawInt f))->Inv X [] σ H { s with heap:=h' }->Q () { s with heap:=h' }) :
  wpAny (model X.prog X.w) X.A (setFlight (.ref a) fr) Q Ex s:=by
 refine Y4 (fs:=frs X.stack) x fun h' x' m=>k h' x' (I.mv D.pn m fun b hb=>?_);have e0:b=t:=by simpa using hb
 subst e0;exact⟨h1,h2,x.fieldsT⟩
theorem Y5 {E:XK} (D:X.Def) (f:Fly X (fun _=>E) e s):wpAny (model X.prog X.w) X.A (leaving X.env e) (fun _ s'=>CX1 X.prog X.w X.outer X.H₀ X.s₀ E e s') Ex s:=by
 obtain⟨a,C,d,T,σ,H,rfl,x,hT,ha,hn,ht,I,q⟩:=f;unfold leaving;refine Xa (Ya D x hT ha hn ht I fun h' t x1 n1 n2 I1=>?_);refine Go (s:={ s with heap:=h' }) (fr:=none) D x1 n1 n2 I1 fun h2 x2 I2=>?_
 refine⟨a,C,d,t,H,rfl,x2,ha,n1,hn,n2,I2.os,I2.bare,?_,I2.hok,q⟩;have u:=I2.base;rw[D.ex] at u;exact u
theorem jcT {E:XK} (D:X.Def) (I:Inv X pins σ H s) (c:CX1 X.prog X.w X.stack H s E e s'):Fly X (fun σ' cl d H'=>σ'=σ/\E cl d H') e s':=by
 obtain⟨a,C,d,t,H',rfl,x,h1,h2,n1,n2,os,bare,un,hok,q⟩:=c;exact⟨a,C,d,some (t,.none),σ,H',rfl,x,fun p hp=>by cases hp; exact .inl rfl,I.old D.ex h1,n1,fun p hp=>by cases hp; exact ⟨I.old D.ex h2,n2⟩,
  (I.call' os un hok bare (fun b z=>absurd z (by simp))).nopins D.pn,rfl,q⟩
theorem Fly.imp {E':St->XK} (k:∀ σ c d H,E σ c d H->E' σ c d H) (f:Fly X E e s):Fly X E' e s:=by
 obtain⟨a,C,d,T,σ,H,rfl,x,hT,ha,hn,ht,I,q⟩:=f;exact⟨a,C,d,T,σ,H,rfl,x,hT,ha,hn,ht,I,k _ _ _ _ q⟩
end
def jh0:Value->Bool
 | .ref _=>true
 | _=>false
def mroVE:List Value:=[.type "ValueError",.type "Exception",.type "BaseException",.type "object"]
def Vi (l:List Value):Bool:=l.dropWhile jh0==mroVE
theorem Jn (self:Value) (what:Str):∀ l:List Value,refuseLoop self what l=refuseLoop self what (l.dropWhile jh0)
 | []=>rfl
 | v::r=>by
  rw[List.dropWhile_cons];by_cases h:jh0 v=true
  ·rw[if_pos h];cases v with
   | ref c=>rw[refuseLoop_ref]; exact Jn self what r
   | _=>cases h
  ·rw[if_neg h]
theorem Uc (self:Value) {l:List Value} (e:Vi l=true):refuseLoop self "__setattr__" l=pure ():=by
 rw[Jn,wD.mp e]; exact PySem.F.store_ValueError.passes self
theorem Gp (hv:mroVE.contains v=true) {l:List Value} (e:Vi l=true):l.contains v=true:=by
 have h:v∈l.dropWhile jh0:=by rw[wD.mp e]; exact List.contains_iff_mem.mp hv
 exact List.contains_iff_mem.mpr ((List.dropWhile_sublist _).subset h)
structure XCls (K:W.Frag) (C:Addr):Prop where
 over:(W.clsIn K C).any (fun cd=>Vi cd.mro)=true
 hd:W.hasDictIn K C=true
 sa:W.findIn K (.ref C) "__setattr__"=some (some (.builtin "object.__setattr__"))
section
variable {R:Result->Shared->Prop}{x:Addr}
open PySem.W in
theorem Yb {tk:Tok} (X:K.In s.heap) (I:InstAt s.heap x ox C od) (c:XCls K C) (n:NoAttr K C name)
  (h:∀ b,wpAny (model prog w) A.in1 (Builtin.ObjectAttr.storeInOwnDict (.ref x) (.ref C) (.str name tk) name v b)
   (fun fin s'=>match fin with | .done f=>R (.ok f) s' | .again c'=>c'.quiet=true/\codeAny (model prog w) A c' R s') (fun e s'=>R (.error e) s') s) :
  codeAny (model prog w) A (.call (.builtin "object.__setattr__") ⟨[.ref x,.str name tk,v],[]⟩) R s:=by
 have SF:=PySem.F.store_object;obtain⟨cd,hc,ho⟩:=any_some c.over;have ht:=n.taker;have ne:cd.mro.isEmpty=false:=by cases q:cd.mro with | nil=>rw[q] at ho; cases ho | cons _ _=>rfl
 have sub:Looks (model prog w) s.heap (isInstance (.ref x) (.type "object")) true:=I.type.andThen (looks_mroIn X (by unfold mroIn; rw[hc,Option.bind_some,if_neg (by rw[ne]; decide),Gp (v:=.type "object") (by decide) ho]));refine codeAny_call_builtin SF.slot.plain SF.entry (@check_slot (model prog w) _ _ s "object.__setattr__" "object" "__setattr__" (.ref x) [.str name tk,v] [] _ SF.kind SF.split sub (SF.args (.ref x) (.str name tk) v) ?_);obtain⟨attr,ha,hr⟩:=Option.bind_eq_some_iff.mp ht;have hm:Looks (model prog w) s.heap (mroOf (.ref C)) cd.mro:=(looks_clsIn X hc).andThen .now;have L3:Looks (model prog w) s.heap (Builtin.ObjectAttr.storeTaker? attr) none:=by
  cases attr with
  | none=>exact .now
  | some a=>
   obtain⟨b,hb,q⟩:=Option.map_eq_some_iff.mp hr;refine(looks_takesIn X hb).andThen ?_;cases b
   ·exact .now
   ·cases q
 rw[osa_eq,refuse_eq];refine Xa (Xa (I.type.here (Xa (hm.here ?_))));rw[Uc _ ho];refine Xd (Xa (I.type.here (Xa ((looks_findIn X ha).here (Xa (L3.here ?_))))));exact h _
theorem Y6 {Q:Unit->Shared->Prop} (X:K.In s.heap) (hx:s.heap.get? x=some ox) (hcl:ox.cls=.ref C) (hdn:ox.dict=none) (hnc:W.notCls ox=true) (c:XCls K C) (n:NoAttr K C name)
  (h:∀ h',h'.get? x=some { ox with dict:=some s.heap.objs.size }->h'.Ns1 s.heap.objs.size (fun y=>if y=name then some v else none)->(∀ b o,b≠x->s.heap.get? b=some o->h'.get? b=some o) ->
   Q () { s with heap:=h',toks:=s.toks+2 }):wpAny (model prog w) A (setAttr (.ref x) name v) Q E s:=by
 have J:W.InstAt s.heap x ox C none:=⟨hx,hcl,hnc,by rw[hdn]; trivial⟩;refine W.set_plain X J c.sa (Yb (s:={ s with toks:=s.toks+1 }) X J c n fun b=>?_)
 obtain⟨cd,hc,hd'⟩:=W.any_some c.hd;obtain⟨oc,odi,oda,osl⟩:=ox;dsimp only at hcl hdn;subst hcl hdn;obtain⟨hp,g,dr,tk,os⟩:=s;refine Xa (Xd (Xa (Xa (wpAny_loadPart hx (Xa (W.Looks.here (s:=⟨hp,g,dr,tk+1,os⟩) (W.looks_clsIn X hc) ?_))))));rw[hd'];have hxs:x≠hp.objs.size:=XF (Xu hx);have hfr:=(Heap.get?_some_iff.mp hx).2;have hx₁:(hp.push { cls:=.type "dict",data:=.dict #[] }).get? x=some ⟨.ref C,none,oda,osl⟩:=Xb _ hx;have hfr':(⟨.ref C,some hp.objs.size,oda,osl⟩:Obj).isFreed=false:=by cases oda <;> first | rfl | exact hfr
 have hx₂:=wj (fun o=>{ cls:=o.cls,dict:=some hp.objs.size,data:=o.data,slots:=o.slots }) hx₁ hfr';have hgd:((hp.push { cls:=.type "dict",data:=.dict #[] }).update x fun o=>{ cls:=o.cls,dict:=some hp.objs.size,data:=o.data,slots:=o.slots }).get? hp.objs.size
  =some { cls:=.type "dict",data:=.dict #[] }:=(Heap.get?_update_ne _ _ _ _ hxs.symm).trans (Heap.get?_push_at rfl rfl)
 have hnd:((hp.push { cls:=.type "dict",data:=.dict #[] }).update x fun o=>{ cls:=o.cls,dict:=some hp.objs.size,data:=o.data,slots:=o.slots }).Ns hp.objs.size (fun _=>none):=
  ⟨_,#[],_,hgd,rfl,fun e he=>absurd he (by simp),fun _=>rfl⟩
 have go:wpAny (model prog w) A.in1 (Builtin.ObjectAttr.storeInDict hp.objs.size (.str name tk) name v)
   (fun fin s'=>match fin with | .done f=>(match (Except.ok f:Result) with | .ok (.ret _)=>Q () s' | .ok _=>False | .error e=>E e s') | .again c'=>c'.quiet=true/\codeAny (model prog w) A c' (fun r s'=>match r with | .ok (.ret _)=>Q () s' | .ok _=>False | .error e=>E e s') s') (fun e s'=>E e s')
   ⟨(hp.push { cls:=.type "dict",data:=.dict #[] }).update x fun o=>{ cls:=o.cls,dict:=some hp.objs.size,data:=o.data,slots:=o.slots },g,dr,tk+1,os⟩:=by
  unfold Builtin.ObjectAttr.storeInDict Builtin.ObjectAttr.newKeyGuard;refine Xa (Xd (Xa (wpAny_nsSet1 (Heap.Ns1.of_empty hnd) fun h' hn' hs=>?_)));obtain⟨oD,esD,epD,hoD,hdD,hcD⟩:=hn'.count (Within.cons name v Within.nil);refine Xa (wpAny_lookBehind hoD (by rw[hdD]; exact pastItsLine_dict (XI hcD (by rw[XQ,List.length_nil,XH]; omega))) ?_);refine Xd (h h' ((hs.2 x hxs).trans hx₂) hn' fun b ob hbx hb=>?_);exact(hs.2 b (XF (Xu hb))).trans ((Heap.get?_update_ne _ _ _ _ hbx).trans (Xb _ hb))
 rw[if_neg (by decide)];show wpAny _ _ (if (!true||!typeHasDict (Value.ref C))=true then _ else _) _ _ _
 rw[if_neg (by simp[typeHasDict])];cases oda with
 | cls k=>cases hnc
 | _=>exact Xa (wpAny_alloc' (Xa (wpAny_update' hx₁ (Xd go))))
theorem jaT {Q:Unit->Shared->Prop} (X:K.In s.heap) (hx:s.heap.get? x=some ox) (hcl:ox.cls=.ref C) (hdn:ox.dict=some dx) (hnc:W.notCls ox=true)
  (c:XCls K C) (n:NoAttr K C name) (hn:s.heap.Ns1 dx mA) (hw:PySem.Within mA ns) (hsz:ns.length<sizeLine)
  (h:∀ h',h'.Ns1 dx (fun y=>if y=name then some v else mA y)->Heap.SameBut dx s.heap h'->Q () { s with heap:=h',toks:=s.toks+2 }):wpAny (model prog w) A (setAttr (.ref x) name v) Q E s:=by
 obtain⟨od,ho,_⟩:=zR hn;have J:W.InstAt s.heap x ox C (some od):=⟨hx,hcl,hnc,by rw[hdn]; exact ho⟩;refine W.set_plain X J c.sa (Yb (s:={ s with toks:=s.toks+1 }) X J c n fun b=>?_)
 obtain⟨cd,hc,hd'⟩:=W.any_some c.hd;obtain⟨oc,odi,oda,osl⟩:=ox;dsimp only at hcl hdn;subst hcl hdn;refine Xa (Xd (Xa (Xa (wpAny_loadPart hx (Xa (W.Looks.here (s:={ s with toks:=s.toks+1 }) (W.looks_clsIn X hc) ?_))))))
 rw[hd'];refine Xd (a:=some dx) (Xa (Xd (Xa ?_)));refine wpAny_nsSet1 (s:={ s with toks:=s.toks+1 }) hn fun h' hn2 hs2=>?_
 obtain⟨oD,esD,epD,hoD,hdD,hcD⟩:=hn2.count (PySem.Within.cons name v hw);refine Xa (wpAny_lookBehind hoD (by rw[hdD]; exact pastItsLine_dict (XI hcD (by rw[XQ]; omega))) ?_);exact Xd (h _ hn2 hs2)
end
def XO (x C:Addr) (d:Option Addr) (fr:Bool):HO:=.ext fun h=>∃ o vs,h.get? x=some o/\o.cls=.ref C/\o.dict=d/\o.data=.fields vs/\(fr=true->vs[1]?=some .none)
def XD (dx:Addr) (fs:List (Str×V)):HO:=.ext fun h=>∃ mA,h.Ns1 dx mA/\(∀ f,RelO (fs.lookup f) (mA f))/\PySem.Within mA (fs.map (·.1))
theorem XO.ok {P:Program}{x:Addr}{fr:Bool}{vs:Array Value} (e:h.get? x=some o) (h1:o.cls=.ref C) (h2:o.dict=d) (h3:o.data=.fields vs) (h4:fr=true->vs[1]?=some .none) :
  ObjOk P w H h x (XO x C d fr):=⟨⟨o,vs,e,h1,h2,h3,h4⟩,⟨o,e⟩,fun _ _ ⟨o,vs,e,r⟩ k=>⟨o,vs,k o e,r⟩⟩
theorem XD.ok {P:Program}{fs:List (Str×V)} (n:h.Ns1 dx mA) (r:∀ f,RelO (fs.lookup f) (mA f)) (wi:PySem.Within mA (fs.map (·.1))) :
  ObjOk P w H h dx (XD dx fs):=⟨⟨mA,n,r,wi⟩,let ⟨o,_,_,e,_⟩:=n; ⟨o,e⟩,fun _ _ ⟨mA,n,r⟩ k=>⟨mA,n.at k,r⟩⟩
section
variable {fs:List (Str×V)}{f:Str}{v:V}{fr:Bool}
theorem q_ {vs:Array Value} (d:o.data=.fields vs):W.notCls o=true:=by unfold W.notCls; rw[d]
theorem We {Q:Unit->Shared->Prop} (I:Inv X pins σ H s) (e:H a=some (XO a C none fr)) (c:XCls X.K C) (n:NoAttr X.K C f) (ry:RelV y u)
  (h:∀ dx s',H dx=none->dx≠a->Inv X pins σ (upd (upd H dx (XD dx [(f,y)])) a (XO a C (some dx) fr)) s'->Q () s'):wpAny (model X.prog X.w) A (setAttr (.ref a) f u) Q E s:=by
 obtain⟨⟨o,vs,ho,h1,h2,h3,h4⟩,_⟩:=I.hok a _ e;have ne:s.heap.objs.size≠a:=Nat.ne_of_gt (Xu ho);have hf:=I.hok.fresh (Xh s.heap.objs.size);refine Y6 I.kIn ho h1 h2 (q_ h3) c n fun h' e1 e2 e3=>h s.heap.objs.size _ hf ne ?_;have kp:∀ b q,b≠a->s.heap.get? b=some q->h'.get? b=some q:=fun b q nb z=>e3 b q nb z;have wi:PySem.Within (fun g=>if g=f then some u else none) (([(f,y)]:List (Str×V)).map (·.1)):=fun g hg=>by
  by_cases q:g=f
  ·rw[q]; simp
  ·exact absurd (if_neg q) hg
 have rl:∀ g,RelO (([(f,y)]:List (Str×V)).lookup g) (if g=f then some u else none):=fun g=>by
  have z:=ku f g y [];rw[show ([(f,y)]:List (Str×V)).lookup g=if g=f then some y else none from z];by_cases q:g=f
  ·rw[if_pos q,if_pos q]; exact ry
  ·rw[if_neg q,if_neg q]; exact True.intro
 have mu:Mut (H a):=by rw[e]; exact True.intro
 have I1:Inv X pins σ (upd H a (XO a C (some s.heap.objs.size) fr)) { s with heap:=h',toks:=s.toks+2 }:=
  I.write (x:=a) (e:=a) mu (.inl rfl) kp ⟨_,e1⟩ (XO.ok e1 h1 rfl h3 h4)
 have ok2:HOk X.prog X.w (upd (upd H s.heap.objs.size (XD s.heap.objs.size [(f,y)])) a (XO a C (some s.heap.objs.size) fr)) h':=fun b q z=>by
  by_cases hb:b=a
  ·subst hb; rw[jB] at z; cases z; exact XO.ok e1 h1 rfl h3 h4
  ·rw[jz hb] at z;by_cases hb2:b=s.heap.objs.size
   ·subst hb2; rw[jB] at z; cases z; exact XD.ok e2 rl wi
   ·rw[jz hb2] at z;have:=I1.hok b q (by rw[jz hb]; exact z);refine this.stay (fun _ _ _ r=>r) (fun c' r=>?_) fun c' xs r=>?_
    ·by_cases q1:c'=a
     ·subst q1; rw[jB] at r ⊢; exact r
     ·rw[jz q1] at r ⊢;have q2:c'≠s.heap.objs.size:=fun z2=>by rw[z2,hf] at r; cases r
      rw[jz q2]; exact r
    ·by_cases q1:c'=a
     ·subst q1; rw[jB] at r ⊢; exact r
     ·rw[jz q1] at r ⊢;have q2:c'≠s.heap.objs.size:=fun z2=>by rw[z2,hf] at r; cases r
      rw[jz q2]; exact r
 refine I.un (t':=s.toks+2) (H':=upd (upd H s.heap.objs.size (XD s.heap.objs.size [(f,y)])) a (XO a C (some s.heap.objs.size) fr)) (h':=h') ⟨fun b q z nb _ _=>?_,fun b q z nb _ _=>⟨q.slots,?_⟩,fun b q z nb _=>?_,fun b q z _=>?_,fun b xs z=>?_,fun b q u z=>?_,fun b ps z=>⟨#[],?_⟩⟩ ok2
 ·exact kp b q (fun z2=>by rw[z2,e] at nb; cases nb) z
 ·exact kp b q (fun z2=>by rw[z2,e] at nb; cases nb) z
 ·rw[jz (fun z2=>by rw[z2,e] at nb; cases nb),jz (XF (Xu z))]; exact nb
 ·by_cases hb:b=a
  ·rw[hb]; exact ⟨_,e1⟩
  ·exact⟨q,kp b q hb z⟩
 ·rw[jz (fun z2=>by rw[z2,e] at z; cases z),jz (fun z2=>by rw[z2,hf] at z; cases z)]; exact z
 ·rw[jz (fun z2=>by rw[z2,e] at z; cases z),jz (fun z2=>by rw[z2,hf] at z; cases z)]; exact z
 ·rw[jz (fun z2=>by rw[z2,e] at z; cases z),jz (fun z2=>by rw[z2,hf] at z; cases z),z]; simp
theorem Y7 {Q:Unit->Shared->Prop} (I:Inv X pins σ H s) (e:H a=some (XO a C (some dx) fr)) (ed:H dx=some (XD dx fs)) (nd:dx≠a) (c:XCls X.K C) (n:NoAttr X.K C f) (hl:fs.length<1000) (ry:RelV y u)
  (h:∀ s',Inv X pins σ (upd H dx (XD dx (GR f y fs))) s'->Q () s'):wpAny (model X.prog X.w) A (setAttr (.ref a) f u) Q E s:=by
 obtain⟨⟨o,vs,ho,h1,h2,h3,h4⟩,_⟩:=I.hok a _ e;obtain⟨⟨mA,hn,r,wi⟩,_⟩:=I.hok dx _ ed;refine jaT I.kIn ho h1 h2 (q_ h3) c n hn wi (by rw[Xp,XH]; omega) fun h' e1 e2=>h _ ?_;have mu:Mut (H dx):=by rw[ed]; exact True.intro
 refine I.write (x:=dx) (e:=dx) mu (.inl rfl) (fun b q hb z=>(e2.2 b hb).trans z) (let ⟨o,_,_,e',_⟩:=e1; ⟨o,e'⟩) (XD.ok e1 (fun g=>?_) fun g hg=>?_)
 ·rw[ku];by_cases q:g=f
  ·rw[if_pos q,if_pos q]; exact ry
  ·rw[if_neg q,if_neg q]; exact r g
 ·by_cases q:g=f
  ·rw[q]; exact (yM f y fs).1
  ·refine(yM f y fs).2 g (wi g fun z=>hg ?_);show (if g=f then some u else mA g)=none;rw[if_neg q]; exact z
end
def sX (K:W.Frag) (ta tv:TE) (f:Str):TS:=fun D σ H=>tv σ H fun y H1=>ta σ H1 fun x H2=>∃ a C,x=.ref a/\XCls K C/\NoAttr K C f /\
  ((H2 a=some (XO a C none true)/\∀ dx,H2 dx=none->dx≠a->D.nx σ (upd (upd H2 dx (XD dx [(f,y)])) a (XO a C (some dx) true))) \/
   ∃ dx fs,H2 a=some (XO a C (some dx) true)/\H2 dx=some (XD dx fs)/\dx≠a/\fs.length<1000/\D.nx σ (upd H2 dx (XD dx (GR f y fs))))
section
variable {f:Str}{o:Expr} 
theorem ji6 (ha:PE X o ta) (hv:PE X value tv) (hs:swapsWith value (some (.Attribute o f pos')) pos.line X.env=pure false):PS X (.Assign [.Attribute o f pos'] value pos) (sX X.K ta tv f):=by
 intro pins s σ H D I h;refine plainObj_wpAny_Assign_Attribute (thn (hv pins s σ H _ I h) fun u s1 ⟨y,H1,I1,ry,q⟩=>thn (ha pins s1 σ H1 _ I1 q) fun ov s2 ⟨x,H2,I2,rx,a,C,ex,c,n,q2⟩=>?_) hs;subst ex;obtain rfl:ov=Value.ref a:=rx;rcases q2 with⟨e,k⟩ | ⟨dx,fs,e,ed,nd,l,k⟩
 ·exact We I2 e c n ry fun dx s3 n1 n2 I3=>⟨σ,_,I3,k dx n1 n2⟩
 ·exact Y7 I2 e ed nd c n l ry fun s3 I3=>⟨σ,_,I3,k⟩
end
open PySem.W in
def yU (K:Frag) (C:Addr) (fo:Option Addr):Bool:=match K.lookup C with
 | some ⟨.type "type",_,.cls cd,sl⟩=>(match cd.mro,sl.toList with
  | .ref C'::bm,[_,_,_,_,some (.builtin n),_]=>C'==C&&n=="ValueError.__new__"&&!cd.hasDel&&tailIn K mroVE bm&&nsOkIn K cd.ns&&nsIn K cd.ns "__init__"==some (fo.map .ref)
  | _,_=>false)
 | _=>false
open PySem.W in
theorem jaU {K:Frag}{N:Addr}{n:Str}{r:Option Value} (X:K.In h) (G:h.Ns N mg) (e:nsIn K N n=some r):mg n=r:=by
 obtain⟨o,es,ep,ho,hd,_,hf⟩:=G;unfold nsIn at e;split at e
 ·rename_i c d es' n' sl q
  have:=X _ _ q;rw[ho] at this;cases this;cases hd;rw[<- hf];unfold nsFind findBy;rw[<- Array.find?_toList];split at e
  ·rename_i y he
   rw[he];cases e; rfl
  ·rename_i he
   rw[he]
   first | (cases e; rfl) | (split at e <;> first | (cases e; rfl) | cases e)
 ·cases e
structure ExcC (h:Heap) (C:Addr) (fo:Option Addr) (nm q:Str) (N:Addr) (bs bm:List Value) (hdct:Bool) (sn:List Str) (sub:List Value) (ab:Bool) (col:Option Bool) (dd:Option Addr) (k0 k1 k2 k3 k5:Option Value) (mN:Str->Option Value):Prop where
 obj:h.get? C=some (excClassObj nm q C N bs bm hdct sn sub ab col dd k0 k1 k2 k3 k5 "ValueError.__new__")
 ns:h.Ns N mN
 init:mN "__init__"=fo.map .ref
 tail:OwnTail h mroVE bm
open PySem.W in
theorem Gq {K:Frag} (X:K.In h) (e:yU K C fo=true):∃ nm q N bs bm hdct sn sub ab col dd k0 k1 k2 k3 k5 mN,ExcC h C fo nm q N bs bm hdct sn sub ab col dd k0 k1 k2 k3 k5 mN:=by
 unfold yU at e;split at e
 ·rename_i dd cd sl ho
  split at e
  ·rename_i C' bm k0 k1 k2 k3 n k5 hm hs
   simp only[X6,wD,Bool.not_eq_true'] at e;obtain⟨⟨⟨⟨⟨rfl,rfl⟩,hdel⟩,ht⟩,hok⟩,hni⟩:=e;obtain⟨nm,bs,mro,ns,qn,hd,sn,sub,ab,col,del⟩:=cd;dsimp only at hm hdel hok hni;subst hm hdel;have hsl:sl=#[k0,k1,k2,k3,some (.builtin "ValueError.__new__"),k5]:=by
    obtain⟨l⟩:=sl;simp only at hs;rw[hs]
   subst hsl;exact⟨nm,qn,ns,bs,bm,hd,sn,sub,ab,col,dd,k0,k1,k2,k3,k5,_,X _ _ ho,.of_isNs (isNs_of_in X hok),jaU X (.of_isNs (isNs_of_in X hok)) hni,tail_of_in X ht⟩
  ·cases e
 ·cases e
section
variable {g:Array GenState}{d:Drawn}{t:Nat}{os:OsState}
variable {q:Str}{N fI:Addr}{bs:List Value}{dd:Option Addr} 
abbrev jip (rest:List Value):Obj:={ cls:=.type "tuple",data:=.seq rest.toArray }
abbrev jfj (C t:Addr):Obj:={ cls:=.ref C,data:=.fields #[.ref t,.none,.none,.none,.bool false,.none] }
abbrev jb4 (h:Heap) (C:Addr) (rest:List Value):Heap:=(h.push (jip rest)).push (jfj C h.objs.size)
theorem jaV {rest:List Value}{oI:Obj}{Q:Fin->Shared->Prop} (c:ExcC h C (some fI) nm q N bs bm hdct sn sub ab col dd k0 k1 k2 k3 k5 mN)
  (hfI:h.get? fI=some oI) (hfc:oI.cls=.type "function")
  (hq:wpAny (model prog w) A (call (.ref fI) (.ref (h.objs.size+1)::rest)) (fun r s'=>r=.none/\Q (.done (.ret (.ref (h.objs.size+1)))) s') E ⟨jb4 h C rest,g,d,t,os⟩) (hrest:rest.length<=sizeLine) :
  wpAny (model prog w) A (Builtin.«type.__call__» ⟨.ref C::rest,[]⟩) Q E ⟨h,g,d,t,os⟩:=by
 have F:=PySem.F.excBase_ValueError;have hC:=c.obj;have T:OwnTail h [.type "ValueError",.type "Exception",.type "BaseException",.type "object"] bm:=c.tail
 repeat (first | with_reducible refine wt hC ?_ | with_reducible refine wpAny_madeBy_exc hC ?_ | wp_step)
 refine codeAny_call_builtin_code (Code.quiet_builtin _ F.quiet) (wpAny_check_new_subT F T hC ?_);refine codeAny_exc_new_subT F T hC ?_ hrest;show wpAny _ _ _ _ _ _;have kp:∀ b o,h.get? b=some o->(jb4 h C rest).get? b=some o:=fun b o e=>Xb _ (Xb _ e);have hC₁:=kp _ _ hC;have hfI₁:=kp _ _ hfI;have hn₁:(jb4 h C rest).Ns N mN:=c.ns.keeps kp;have hget:(jb4 h C rest).get? (h.objs.size+1)=some (jfj C h.objs.size):=by heap_get
 have hcC:(Value.ref C::bm).contains (.ref C)=true:=by simp
 have T₁:=T.keeps kp;unfold isInstance
 repeat (first | with_reducible refine wt hget ?_ | (with_reducible refine wpAny_isSubtype_exc hC₁ ?_; rw[hcC]) | wp_step)
 show wpAny _ _ (typeLookup (.ref C) _) _ _ _;refine wpAny_typeLookup_tail hC₁ hn₁ T₁ F.mroIs F.init.lookup ?_;rw[c.init];refine wA (Xa ?_);unfold bindSpecial;refine Xa (wpAny_typeOf (T:="function") ⟨_,hfI₁,hfc⟩ ?_);rw[if_pos (by decide)];refine Xd (Xa (XW hq (fun r s' hr=>?_) fun _ _ x=>x));obtain⟨rfl,hQ⟩:=hr
 wp_walk
 exact hQ
theorem jcU {rest:List Value}{oI:Obj} (c:ExcC h C (some fI) nm q N bs bm hdct sn sub ab col dd k0 k1 k2 k3 k5 mN)
  (hfI:h.get? fI=some oI) (hfc:oI.cls=.type "function")
  (hq:wpAny (model prog w) (A.under (.builtin "type.__call__" ⟨.ref C::rest,[]⟩)) (call (.ref fI) (.ref (h.objs.size+1)::rest)) (fun r s'=>r=.none/\Q (.ref (h.objs.size+1)) s') E ⟨jb4 h C rest,g,d,t,os⟩) (hrest:rest.length<=sizeLine) :
  wpAny (model prog w) A (call (.ref C) rest) Q E ⟨h,g,d,t,os⟩:=by
 have f1:=tc_lookup;have f2:=tc_bind (.ref C);have hC:=c.obj;have hT:(⟨h,g,d,t,os⟩:Shared).TypeIs (.ref C) "type":=⟨_,hC,rfl⟩;refine wpAny_call (codeAny_of_tree ?_);show wpAny _ _ (callAny (.ref C) _) _ _ _
 repeat (any_goals (first | assumption | with_reducible refine wt hC ?_ | wp_step))
 refine⟨rfl,?_⟩;refine codeAny_call_builtin_at (Code.quiet_builtin _ (by decide +kernel)) entry_typeCall (wpAny_check_type_call_sub hC (jaV c hfI hfc (XW hq (fun r s' z=>?_) fun _ _ z=>z) hrest));exact⟨z.1,z.2⟩
end
section
variable {q:Str}{N:Addr}{bs:List Value}{dd:Option Addr} 
theorem Y8 {x:Sem Value}{Q:Flow->Shared->Prop} (hh:A.handled=none)
  (h:wpAny M A x (fun v s₁=>∃ e oe vs,v=.ref e/\ExcC s₁.heap C fo nm q N bs bm hdct sn sub ab col dd k0 k1 k2 k3 k5 mN/\s₁.heap.get? e=some oe/\oe.cls=.ref C/\oe.data=.fields vs/\vs[1]?=some .none/\E (.ref e) s₁) E s) :
  wpAny M A (raiseStmt env (some x) none) Q E s:=by
 unfold raiseStmt;refine Xa (XW h (fun v s₁ h₁=>?_) fun _ _ x=>x);obtain⟨e,oe,vs,rfl,c,he,hcls,hdat,hv1,hE⟩:=h₁;have hC:=c.obj;have hcB:(Value.ref C::bm).contains (.type "BaseException")=true:=by rw[List.contains_cons,c.tail.hasType (X:="BaseException") (b:=true) (by decide),Bool.or_true]
 obtain⟨hp,g,d,tk,os⟩:=s₁;obtain⟨oc,od,odt,osl⟩:=oe;dsimp only at hcls hdat;subst hcls hdat
 repeat (first | with_reducible refine wt he ?_ | with_reducible refine wt hC ?_ | (with_reducible refine wpAny_isSubtype_exc hC ?_; rw[hcB]) | wp_step)
 rw[hv1];refine Xd ?_;rw[if_neg (by decide)];exact Xd (wpAny_raiseNew_none hh hE)
theorem QA {Q:Flow->Shared->Prop} (hh:A.handled=none)
  (h:wpAny M A (eval e env) (fun v s₁=>∃ e oe vs,v=.ref e/\ExcC s₁.heap C fo nm q N bs bm hdct sn sub ab col dd k0 k1 k2 k3 k5 mN/\s₁.heap.get? e=some oe/\oe.cls=.ref C/\oe.data=.fields vs/\vs[1]?=some .none/\E (.ref e) s₁) E s) :
  wpAny M A (exec (.Raise (some e) none pos) env) Q E s:=by
 rw[arm_exec_Raise];refine Xa (wpAny_standAt ?_);show wpAny M A (raiseStmt env (some (do let v <- eval e env; standAt pos; pure v)) none) Q E s;exact Y8 hh (Xa (XW h (fun v s₁ h₁=>Xa (wpAny_standAt (Xd h₁))) fun _ _ x=>x))
end
theorem ObjOk.there {P:Program}{o:HO} (x:ObjOk P w H h a o):∃ u,h.get? a=some u:=by
 cases o with
 | lst xs=>obtain⟨_,_,_,_,e⟩:=x; exact ⟨_,e⟩
 | tup xs=>obtain⟨_,_,_,o,e,_⟩:=x; exact ⟨_,e⟩
 | dK kvs=>obtain⟨_,_,_,_,o,_,_,e,_⟩:=x; exact ⟨_,e⟩
 | dT kvs=>obtain⟨_,_,_,_,o,_,_,e,_⟩:=x; exact ⟨_,e⟩
 | set S n=>obtain⟨o,_,_,_,e,_⟩:=x; exact ⟨_,e⟩
 | ins C dx fs=>obtain⟨_,_,_,e,_⟩:=x; exact ⟨_,e⟩
 | own y=>exact x
 | xd fs=>obtain⟨_,⟨_,_,_,e,_⟩,_⟩:=x; exact ⟨_,e⟩
 | rng lo hi=>obtain⟨_,_,_,e⟩:=x; exact ⟨_,e⟩
 | frz ob u=>obtain⟨e,_⟩:=x; exact ⟨_,e⟩
 | tbl ps=>exact ⟨_,x⟩
 | met f y=>exact ⟨_,x⟩
 | ext φ=>obtain⟨_,e,_⟩:=x; exact e
def J7 (H:Hp) (a:Addr):Hp:=fun b=>if b=a then none else H b
theorem yl:J7 H a a=none:=if_pos rfl
theorem xG {b:Addr} (h:b≠a):J7 H a b=H b:=if_neg h
section
variable {fr:Bool}
theorem Inv.dropX (I:Inv X pins σ H s) (e:H a=some (XO a C d fr)):Inv X pins σ (J7 H a) s:=by
 have no:∀ b u,H b=some u->(∀ φ,u≠.ext φ)->b≠a:=fun b u q n z=>by
  subst z; rw[q] at e; exact n _ (Option.some.inj e)
 have ok:HOk X.prog X.w (J7 H a) s.heap:=fun b u q=>by
  have hb:b≠a:=fun z=>by subst z; rw[yl] at q; cases q
  rw[xG hb] at q;exact(I.hok b u q).stay (fun _ _ _ r=>r) (fun c r=>by rw[xG (no c _ r fun φ z=>by cases z)]; exact r) fun c xs r=>by rw[xG (no c _ r fun φ z=>by cases z)]; exact r
 have:=I.un (t':=s.toks) (H':=J7 H a) (h':=s.heap) ⟨fun b q z _ _ _=>z,fun b q z _ _ _=>⟨q.slots,z⟩,fun b q z n _=>?_,fun b q z _=>⟨q,z⟩,fun b xs z=>?_,fun b o u z=>?_,fun b ps z=>⟨#[],?_⟩⟩ ok
 ·exact this
 ·by_cases hb:b=a
  ·subst hb; exact yl
  ·rw[xG hb]; exact n
 ·rw[xG (no b _ z fun φ q=>by cases q)]; exact z
 ·rw[xG (no b _ z fun φ q=>by cases q)]; exact z
 ·rw[xG (no b _ z fun φ q=>by cases q),z]; simp
end
structure XMk (K:W.Frag) (C f:Addr):Prop where
 exc:yU K C (some f)=true
 fn:W.isFn K (.ref f)=true
 kp:W.keepIn K (.ref C)=true
structure XMk0 (K:W.Frag) (C:Addr):Prop where
 exc:yU K C none=true
 kp:W.keepIn K (.ref C)=true
theorem jgP {f:Addr} (X:K.In h) (e:W.isFn K (.ref f)=true):∃ o,h.get? f=some o/\o.cls=.type "function":=by
 have e:=wD.mp e;unfold W.typeIn at e;cases q:K.lookup f with
 | none=>simp[q] at e
 | some o=>exact ⟨o,X _ _ q,by simpa [q] using e⟩
section
variable {k:Nat}{f:Addr}{t:TA}{Er:St->XK}
theorem jfk {Q:Addr->Hp->Prop}{vs:List V} (M:XMk X.K C f) (F:FnOk X.prog X.w X.K X.mg X.base CX0 k f fd ps sp) (hr:Room (k+1) X.A)
  (hb:Binds X.K fd ps []) (I:Inv X pins σ H s) (r:Vals vs us) (hl0:us.length<=sizeLine)
  (h:∀ x,H x=none->sp (.ref x::vs) (upd H x (XO x C none true)) (fun v H2=>v=.non/\Q x H2) E0) :
  wpAny (model X.prog X.w) X.A (call (.ref C) us) (fun u s'=>∃ a H',u=.ref a/\Inv X pins σ H' s'/\s.heap.objs.size<=a/\Q a H') Ex s:=by
 obtain⟨nm,q,N,bs,bm,hdct,sn,sub,ab,col,dd,k0,k1,k2,k3,k5,mN,c⟩:=Gq I.kIn M.exc;obtain⟨oI,hfI,hfc⟩:=jgP I.kIn M.fn;have hq:=h (s.heap.objs.size+1) (I.hok.fresh (Nat.le_succ _));have e2:(jb4 s.heap C us).get? (s.heap.objs.size+1)=some (jfj C s.heap.objs.size):=by
  have:=Xo (s.heap.push (jip us)) (o:=jfj C s.heap.objs.size) rfl
  rwa [wK] at this
 have I1:Inv X pins σ H { s with heap:=s.heap.push (jip us) }:=I.kept (t':=s.toks) fun b u q=>Xb _ q
 have I2:Inv X pins σ (upd H (s.heap.objs.size+1) (XO (s.heap.objs.size+1) C none true)) { s with heap:=jb4 s.heap C us }:=
  I1.laid (t':=s.toks) (fun b u q=>Xb _ q) (Nat.le_of_eq (wK _ _)) (XO.ok e2 rfl rfl rfl fun _=>rfl)
 have r2:Vals (V.ref (s.heap.objs.size+1)::vs) (Value.ref (s.heap.objs.size+1)::us):=.cons rfl r;have hl:(Value.ref (s.heap.objs.size+1)::us++[]).length=ps.length:=by
  have e:=r2.length;rw[F.len _ _ _ _ hq] at e;rw[XU];exact e.symm
 have hbd:=hb _ (Value.ref (s.heap.objs.size+1)::us) I2.kIn hl;rw[XU] at hbd;obtain⟨hp,g,dr,tk,os⟩:=s;refine jcU c hfI hfc (wpAny_call (codeAny_mono (F.run _ X.stack _ _ ⟨Value.ref (hp.objs.size+1)::us,[]⟩ (Value.ref (hp.objs.size+1)::us) _ _ E0 (hr.make C us [])
  (I2.env0.make C us []) hbd r2 hq) fun r s' hq'=>?_)) hl0
 cases r with
 | error e=>exact False.elim hq'
 | ok fl=>
  cases fl with
  | ret u=>
   obtain⟨v,H',I3,rv,ev,q3⟩:=I2.after hq';subst ev;exact⟨rv,hp.objs.size+1,H',rfl,I3,Nat.le_succ _,q3⟩
  | next=>exact False.elim hq'
  | brk=>exact False.elim hq'
  | cont=>exact False.elim hq'
def jd4 (C:Addr) (sp:Sp) (Er:St->XK) (t:TA):TS:=fun _ σ H=>t σ H fun vs H1=>vs.length<=1000/\∀ x,H1 x=none ->
 sp (.ref x::vs) (upd H1 x (XO x C none true)) (fun v H2=>v=.non/\∃ d,H2 x=some (XO x C d true)/\Er σ (.ref C) d (J7 H2 x)) E0
theorem jcV (D:X.Def) (hcm:X.calm=true) (hx:∀ e s,Fly X Er e s->X.xe e s) (M:XMk X.K C f) (F:FnOk X.prog X.w X.K X.mg X.base CX0 k f fd ps sp) (hr:Room (k+1) X.A) (hg:Gl X x) (hm:X.mg x=some (.ref C)) (hb:Binds X.K fd ps [])
  (ha:PA X (e::es) t) (hdb:(x==("__debug__":Str))=false:=by decide) (he:starEach (e::es) X.env=(false,eval e X.env)::starEach es X.env:=by rfl) (hpl:(backTo cpos (starEach es X.env)).any (·.1)=false:=by rfl) :
  PS X (.Raise (some (.Call (.Name x p) (e::es) [] cpos)) none pos) (jd4 C sp Er t):=by
 intro pins s σ H Dd I h;obtain⟨nm,q,N,bs,bm,hdct,sn,sub,ab,col,dd,k0,k1,k2,k3,k5,mN,c0⟩:=Gq I.ok.mod.kin M.exc;refine QA (C:=C) (fo:=some f) (nm:=nm) (q:=q) (N:=N) (bs:=bs) (bm:=bm) (hdct:=hdct) (sn:=sn) (sub:=sub) (ab:=ab) (col:=col) (dd:=dd) (k0:=k0) (k1:=k1) (k2:=k2) (k3:=k3) (k5:=k5) (mN:=mN) (I.ok.hd hcm) ?_;refine wpAny_Call_Name_kw (zv I hg hm ?_ hdb);refine W.callWith_K (h₀:=X.base) I.ok.mod.kin M.kp (thn (ha cpos pins s σ H _ I h) fun us s1 ⟨vs,H1,I1,r,hln,q⟩=>⟨I1.kIn,?_⟩) he hpl;refine thn (jfk (Q:=fun x H2=>∃ d,H2 x=some (XO x C d true)/\Er σ (.ref C) d (J7 H2 x)) M F hr hb I1 r (by have:=r.length; show us.length<=sizeLine; rw[<- this,XH]; omega) q) fun u s2 ⟨a,H2,eu,I2,hsz,d,ea,q2⟩=>?_;subst eu;obtain⟨⟨o,vs,ho,h1,h2,h3,h4⟩,_⟩:=I2.hok a _ ea;refine⟨a,o,vs,rfl,⟨I2.bk _ _ c0.obj,c0.ns.keeps I2.bk,c0.init,c0.tail.keeps I2.bk⟩,ho,h1,h3,h4 rfl,hx _ _ ?_⟩;refine⟨a,C,d,none,σ,J7 H2 a,rfl,⟨o,vs,ho,h1,h2,h3,h4 rfl,fun p hp=>(nomatch hp)⟩,fun p hp=>(nomatch hp),Heap.get?_none_of_le (XI I1.sz hsz),yl,fun p hp=>(nomatch hp),(I2.dropX ea).nopins D.pn,q2⟩
end
section
variable {E0':Value->Shared->Prop}{E E':St->XK}{e:Value} 
theorem Fly.unwish {W:Value->Shared->Prop} (f:Fly (X.wish W) E e s):Fly X E e s:=by
 obtain⟨a,C,d,T,σ,H,rfl,x,hT,ha,hn,ht,I,q⟩:=f;exact⟨a,C,d,T,σ,H,rfl,x,hT,ha,hn,ht,I.unwish,q⟩
theorem Cx.Def.wish (D:X.Def) (W:Value->Shared->Prop):(X.wish W).Def:=⟨D.st,D.fr,D.pn,D.ex⟩
abbrev Cx.fly (X:Cx) (E:XK):Cx:=X.wish (Fly X fun _=>E)
theorem jaW {E:XK}:∀ e s,Fly (X.fly E) (fun _=>E) e s->(X.fly E).xe e s:=fun _ _ f=>f.unwish
theorem PSs.wish {W:Value->Shared->Prop}{st:List Stmt}{t:TS} (k:∀ e s,W e s->X.xe e s) (h:PSs (X.wish W) st t):PSs X st t:=fun pins s σ H D I hw=>
 XW (h pins s σ H D (I.wish _) hw) (fun _ _ q=>q.unwish) fun _ _ z=>k _ _ z
end
section
variable {P:Program} 
theorem cxOf_def {f:Addr}{cd:Value}{E:XK}:(ZC CX P w K mg base N qual scope f cd A outer s H E).Def:=⟨rfl,rfl,rfl,rfl⟩
theorem Fun.okE {f:Addr}{k:Nat} (F:Fun K x qual st f fd) (S:FnScope N ps (jo st)) (len:∀ vs H Q E,sp vs H Q E->vs.length=ps.length)
  (hbody:∀ (cdv:Value) (A:Around) (outer:List Env) (s:Shared) (H:Hp) (vs:List V) (Q:VK) (E:XK),Room k (A.deeper (envOfC qual (jo st) s.heap.objs.size f cdv))->sp vs H Q E ->
   ∃ t,PSs ((ZC (CX1 P w) P w K mg base N qual (jo st) f cdv A outer s H E).fly E) (jT st) t/\t { nx:=fun _ H'=>Q .non H',rt:=Q } (G3 N vs) H):FnOk P w K mg base (CX1 P w) (k+1) f fd ps sp:=by
 obtain⟨oc,od,kV,doc,pm,an,cdv,ct,osl,rfl,lk,hcd⟩:=F.ex;refine jgm lk hcd S len fun A outer s H vs Q E hr hsp=>?_;obtain⟨t,h,q⟩:=hbody cdv A outer s H vs Q E hr hsp;exact⟨t,PSs.wish (fun e s' z=>Y5 cxOf_def z) h,q⟩
theorem FnOk.up {k:Nat}{f:Addr} (F:FnOk P w K mg base CX0 k f fd ps sp):FnOk P w K mg base (CX1 P w) k f fd ps sp:=
 ⟨F.len,fun A outer s H args us vs Q E hr he hb hv hs=>codeAny_mono (F.run A outer s H args us vs Q E hr he hb hv hs) fun r s' z=>by
  cases r with
  | error e=>exact False.elim z
  | ok fl=>cases fl <;> exact z⟩
theorem FnOk.or {k:Nat}{f:Addr} (F:FnOk P w K mg base CX k f fd ps sp) (G:FnOk P w K mg base CX k f fd ps sp') :
  FnOk P w K mg base CX k f fd ps (fun vs H Q E=>sp vs H Q E \/ sp' vs H Q E):=
 ⟨fun vs H Q E h=>h.elim (F.len vs H Q E) (G.len vs H Q E),fun A outer s H args us vs Q E hr he hb hv hs=>hs.elim (F.run A outer s H args us vs Q E hr he hb hv) (G.run A outer s H args us vs Q E hr he hb hv)⟩
end
abbrev Cx.mark (X:Cx) (v:Value):Cx:={ X with A:=X.A.mark (some v),calm:=false,xe:=fun _ _=>False }
section
theorem Cx.Ok.mark (ok:X.Ok) (v:Value):(X.mark v).Ok:=
 ⟨ok.mod,ok.kind,ok.glob,ok.blt,ok.above,ok.inj,ok.has,ok.cab,fun z=>(nomatch z),ok.frames,ok.stk,ok.exf,ok.bs,ok.bsz,ok.noex,ok.exfs,ok.funs,ok.frf⟩
theorem Inv.mark (I:Inv X pins σ H s) (v:Value):Inv (X.mark v) pins σ H s:=⟨I.ok.mark v,I.os,I.bare,I.base,I.loc,I.cell,I.free,I.freeC,I.pin,I.hok,I.len⟩
theorem Inv.unmark (ok:X.Ok) (I:Inv (X.mark v) pins σ H s):Inv X pins σ H s:=⟨ok,I.os,I.bare,I.base,I.loc,I.cell,I.free,I.freeC,I.pin,I.hok,I.len⟩
end
def jfl (K:W.Frag) (C CT:Addr):Bool:=(W.clsIn K C).any fun cd=>cd.mro.contains (.ref CT)
section
variable {oe:Obj}{Q:Bool->Shared->Prop}
theorem jcW (X:K.In h) {b:Bool} (hs:jfl K C CT=b) {q:Str}{N:Addr}{bs:List Value}{dd:Option Addr}{newId:String}
  (hK:∃ o,K.lookup C=some o) (hC:h.get? C=some (excClassObj nm q C N bs bm hdct sn sub ab col dd k0 k1 k2 k3 k5 newId)):(Value.ref C::bm).contains (.ref CT)=b:=by
 obtain⟨o,ho⟩:=hK;have:=X _ _ ho;rw[hC] at this;cases this;unfold jfl W.clsIn at hs;rw[ho] at hs;simpa using hs
open PySem.W in
theorem Vj (e:yU K C fo=true):∃ o,K.lookup C=some o:=by
 unfold yU at e;split at e
 ·rename_i ho; exact ⟨_,ho⟩
 ·cases e
theorem Wf {b:Bool} (X:K.In s.heap) (h1:yU K C fo=true) (h2:yU K CT fo'=true) (hs:jfl K C CT=b) (he:s.heap.get? a=some oe) (hc:oe.cls=.ref C) (q:Q b s) :
  wpAny M A (excMatches (.ref a) (.ref CT)) Q E s:=by
 obtain⟨nm,qn,N,bs,bm,hdct,sn,sub,ab,col,dd,k0,k1,k2,k3,k5,mN,c⟩:=Gq X h1;obtain⟨nm',qn',N',bs',bm',hdct',sn',sub',ab',col',dd',k0',k1',k2',k3',k5',mN',c'⟩:=Gq X h2;have hC:=c.obj;have hT:=c'.obj;have hcB:(Value.ref CT::bm').contains (.type "BaseException")=true:=by rw[List.contains_cons,c'.tail.hasType (X:="BaseException") (b:=true) (by decide),Bool.or_true]
 have hcC:=jcW X hs (Vj h1) hC;have f:=tc_notTuple;obtain⟨hp,g,d,tk,os⟩:=s;unfold excMatches
 repeat (first | (with_reducible refine wt he ?_; rw[hc]) | with_reducible refine wt hT ?_ | (with_reducible refine wpAny_isSubtype_exc hT ?_; rw[hcB]) | (with_reducible refine wpAny_isSubtype_exc hC ?_; rw[hcC]) | wp_step)
 cases b <;> (wp_walk; exact q)
end
section
theorem Inv.trackX (I:Inv X [] σ H s) (hpn:X.pn=[]) (x:Exc s.heap a C d T) (ha:X.s₀.heap.get? a=none) (hn:H a=none):Inv X [] σ (upd H a (XO a C d false)) s:=by
 obtain⟨oe,vs,he,hc,hdc,hd,h1,hp⟩:=x;have no:∀ b u,H b=some u->b≠a:=fun b u q z=>by subst z; rw[q] at hn; cases hn
 have nd:∀ b o,s.heap.get? b=some o->(∀ ws,o.data≠.fields ws)->b≠a:=fun b o e n z=>by subst z; rw[he] at e; cases e; exact n _ hd
 refine⟨I.ok,I.os,I.bare,⟨I.base.keep,I.base.slot,fun b o e n hx=>?_,I.base.there,fun b xs e=>?_,fun b o u e=>?_,fun b ps e=>?_⟩,I.loc,I.cell,?_,fun y c e=>?_,fun p hp=>?_,fun b u q=>?_,I.len⟩
 ·rw[jz (fun z=>by subst z; rw[ha] at e; cases e)]; exact I.base.free b o e n hx
 ·have:=I.base.tups b xs e; rw[jz (no b _ this)]; exact this
 ·have:=I.base.frzs b o u e; rw[jz (no b _ this)]; exact this
 ·obtain⟨more,q⟩:=I.base.tbls b ps e; exact ⟨more,by rw[jz (no b _ q)]; exact q⟩
 ·obtain⟨m,⟨o,es,ep,ho,hdd,_⟩,_⟩:=I.loc;rw[jz (nd _ o ho fun ws z=>by rw[hdd] at z; cases z)]; exact I.free
 ·obtain⟨w,o,ho,hdd⟩:=I.cell y c e;rw[jz (nd _ o ho fun ws z=>by rw[hdd] at z; cases z)]; exact I.freeC y c e
 ·rw[hpn] at hp; exact absurd hp (by simp)
 ·by_cases hb:b=a
  ·subst hb; rw[jB] at q; cases q; exact XO.ok he hc hdc hd fun z=>(nomatch z)
  ·rw[jz hb] at q;exact(I.hok b u q).stay (fun _ _ _ r=>r) (fun c r=>by rw[jz (no c _ r)]; exact r) fun c xs r=>by rw[jz (no c _ r)]; exact r
theorem Inv.unname {m:Str->Option Value}{u:Option Value} (I:Inv X [] σ H s) (hpn:X.pn=[]) (hN:X.N.Nodup) (hi:X.N[i]?=some x)
  (hm:∀ (i:Nat) (y:Str) (w:V),X.N[i]?=some y->σ[i]?=some (some w)->Vis X.env.scope y->∃ u,RelV w u/\jiK X.env s.heap m y u)
  (hn:h'.Ns X.env.locals (fun y=>if y=x then u else m y)) (hs:Heap.SameBut X.env.locals s.heap h') (hL:∃ o,s.heap.get? X.env.locals=some o):Inv X [] (σ.set i none) H { s with heap:=h' }:=by
 have ne:∀ b o,X.s₀.heap.get? b=some o->b≠X.env.locals:=fun b o e=>XF (Xx (Xu e) I.ok.above);have cl:∀ y c w,X.env.cells.lookup y=some c->s.heap.IsCell c w->h'.IsCell c w:=fun y c w e ⟨o,ho,hd⟩=>⟨o,(hs.2 c (I.cne y c e)).trans ho,hd⟩;refine⟨I.ok,I.os,I.bare,⟨fun b o e n hb hx=>(hs.2 b (ne b o e)).trans (I.base.keep b o e n hb hx),fun b o e n hb hx=>?_,I.base.free,fun b o e hx=>?_,I.base.tups,I.base.frzs,I.base.tbls⟩,⟨_,hn,fun j y w e1 e2 e3=>?_⟩,fun y c e=>?_,I.free,I.freeC,fun p hp=>?_,fun b q e=>?_,by simpa using I.len⟩
 ·obtain⟨sl,e1⟩:=I.base.slot b o e n hb hx;exact⟨sl,(hs.2 b (ne b o e)).trans e1⟩
 ·obtain⟨o',e1⟩:=I.base.there b o e hx;exact⟨o',(hs.2 b (ne b o e)).trans e1⟩
 ·have ji:j≠i:=fun z=>by
   subst z;rw[List.getElem?_set] at e2;split at e2
   ·split at e2 <;> cases e2
   ·rename_i q; exact q rfl
  rw[wa (Ne.symm ji)] at e2;obtain⟨uu,r,l⟩:=hm j y w e1 e2 e3;refine⟨uu,r,?_⟩;rcases l with⟨l1,l2⟩ | ⟨k,c,e,z⟩
  ·refine .inl ⟨l1,?_⟩;show (if y=x then u else m y)=some uu;rw[if_neg (fun z=>ji (QP hN e1 (by rw[hi,z])))]; exact l2
  ·exact .inr ⟨k,c,e,cl y c _ e z⟩
 ·obtain⟨w,z⟩:=I.cell y c e;exact⟨w,cl y c w e z⟩
 ·rw[hpn] at hp; exact absurd hp (by simp)
 ·have nL:∀ c w,H c=some w->c≠X.env.locals:=fun c w q z=>by rw[z,I.free] at q; cases q
  refine(I.hok b q e).stay (fun c w hc r=>(hs.2 c ?_).trans r) (fun _ r=>r) fun _ _ r=>r;rcases hc with hc | hc
  ·rw[hc]; exact nL b q e
  ·exact nL c _ hc
theorem jaX {Q:Unit->Shared->Prop} (I:Inv X [] σ H s) (hpn:X.pn=[]) (hN:X.N.Nodup) (hi:X.N[i]?=some x) (hk:X.env.scope.names.lookup x=some .local)
  (h:∀ s',Inv X [] (σ.set i none) H s'->Q () s'):wpAny M A (do bindName X.env x .none; unbindBehindTheSuite X.env x pos) Q E s:=by
 have hp:(X.env.scope.kind==.class||(X.env.scope.kind==.module&&X.env.locals != X.env.globals))=false:=by rw[I.ok.kind]; rfl
 refine Xa (wpAny_bindName (zM (v:=V.non) (u:=Value.none) I hN hi (.inl hk) rfl (fun s1 I1=>?_) (.inr hk)));obtain⟨m,hn,hm⟩:=id I1.loc;have hl:i < σ.length:=by rw[I.len]; exact (List.getElem?_eq_some_iff.mp hi).1
 have hx:m x=some Value.none:=by
  obtain⟨u,r,l⟩:=hm i x .non hi (by rw[wI hl]) (.inl hk);have hu:u=Value.none:=r;rcases l with⟨_,l2⟩ | ⟨k,_⟩
  ·rw[l2,hu]
  ·have kk:X.env.kindOf x=some .local:=hk;rcases k with k | k <;> (rw[kk] at k; cases k)
 unfold unbindBehindTheSuite;refine wpAny_onRaise (wpAny_unbindName_local hk hn hx hp fun h' u hn' hs=>h _ ?_);have:=I1.unname hpn hN hi hm hn' hs (let ⟨o,_,_,ho,_⟩:=hn; ⟨o,ho⟩);rw[List.set_set] at this;exact this
end
def PS0 (X:Cx) (st:Stmt) (t:TS):Prop:=∀ (s:Shared) (σ:St) (H:Hp) (D:Ends),Inv X [] σ H s->t D σ H->wpAny (model X.prog X.w) X.A (exec st X.env) (SP X [] D) X.xe s
def PSs0 (X:Cx) (st:List Stmt) (t:TS):Prop:=∀ (s:Shared) (σ:St) (H:Hp) (D:Ends),Inv X [] σ H s->t D σ H->wpAny (model X.prog X.w) X.A (execs st X.env) (SP X [] D) X.xe s
section
variable {rest:List Stmt}{t u:TS}
theorem PS.z (h:PS X st t):PS0 X st t:=fun s σ H D I q=>h [] s σ H D I q
theorem PSs.z (h:PSs X rest t):PSs0 X rest t:=fun s σ H D I q=>h [] s σ H D I q
theorem qr (h1:PS0 X st t) (h2:PSs0 X rest u):PSs0 X (st::rest) (Gh t u):=by
 intro s σ H D I h;refine wpAny_execs_cons (thn (h1 s σ H { D with nx:=u D } I h) fun f s1 q=>?_)
 cases f with
 | next=>
  obtain⟨σ',H',I',q⟩:=q;exact h2 s1 σ' H' D I' q
 | ret v=>exact q
 | brk=>exact q
 | cont=>exact q
theorem PSs0.nox (h:PSs0 X.nox rest t):PSs0 X rest t:=fun s σ H D I hw=>
 XW (h s σ H D (I.wish _) hw) (fun _ _ q=>q.unwish) fun _ _ z=>False.elim z
end
def jh1 (K:W.Frag) (CT:Addr) (i:Nat) (tb:(St->XK)->TS) (ts:TS):TS:=fun D σ H=>
 tb (fun σ' cl d H'=>∃ C fo,cl=.ref C/\yU K C fo=true/\jfl K C CT=true/\∀ a,H' a=none ->
  ts { nx:=fun σ2 H2=>D.nx (σ2.set i none) H2,rt:=fun _ _=>False } (σ'.set i (some (.ref a))) (upd H' a (XO a C d false))) D σ H
section
variable {suite:List Stmt}{b₀:Stmt}{cls:Str}{cp hp:Pos}{tb:(St->XK)->TS}{ts:TS}
theorem Wg (D:X.Def) (hN:X.N.Nodup) (hi:X.N[i]?=some x) (hk:X.env.scope.names.lookup x=some .local) (hg:Gl X cls) (hm:X.mg cls=some (.ref CT)) (hT:yU X.K CT fo'=true)
  (hb:∀ Er:St->XK,PSs (X.wish (Fly X Er)) body (tb Er)) (hs:∀ v,PSs (X.mark v) (b₀::suite) ts) (hdb:(cls==("__debug__":Str))=false:=by decide) :
  PS0 X (.Try body [.ExceptHandler (some (.Name cls cp)) (some x) (b₀::suite) hp] [] [] pos) (jh1 X.K CT i tb ts):=by
 intro s σ H Dd I h;refine wpAny_Try_except (XW (hb _ [] s σ H Dd (I.wish _) h) (fun f s1 q=>?_) fun e s1 fl=>?_)
 ·cases f with
  | next=>exact wpAny_execs_nil q.unwish
  | ret v=>exact q.unwish
  | brk=>exact q.unwish
  | cont=>exact q.unwish
 ·obtain⟨a,C,d,T,σ',H',rfl,x0,hT0,ha,hn,ht,I0,C',fo,eC,hx,hsub,k⟩:=fl;cases eC;refine Ya D x0 hT0 ha hn ht I0 fun h' t x1 n1 n2 I1=>?_;refine Go (s:={ s1 with heap:=h' }) (fr:=none) D x1 n1 n2 I1 fun h2 x2 I2=>?_
  have D':(X.mark (.ref a)).Def:=⟨D.st,D.fr,D.pn,D.ex⟩;have J2:=I2.mark (.ref a);refine wpAny_handleBy_cons (codeAny_handlers_test (zv (X:=X.mark (.ref a)) J2 hg hm ?_ hdb)) (by intro q; cases q);obtain⟨oe,vs,he,hc,_⟩:=id x2;refine Wf J2.kIn hx hT hsub he hc ?_;refine codeAny_handlers_suite_as ?_;refine Go (X:=X.mark (.ref a)) (s:={ s1 with heap:=h2 }) (fr:=none) D' x2 n1 n2 J2 fun h3 x3 J3=>?_
  have J3':=Inv.trackX J3 D.pn x3 ha hn;refine zM (X:=X.mark (.ref a)) (v:=V.ref a) (u:=Value.ref a) J3' hN hi (.inl hk) rfl (fun s4 J4=>?_) (.inr hk);refine XW (hs (.ref a) [] s4 _ _ _ J4 (k a hn)) (fun f s5 q=>?_) fun _ _ z=>False.elim z;cases f with
  | next=>
   obtain⟨σ5,H5,J5,q5⟩:=q;exact jaX (Inv.unmark I0.ok J5) D.pn hN hi hk fun s6 J6=>⟨_,H5,J6,q5⟩
  | ret v=>obtain⟨_,_,_,_,_,z⟩:=q; exact False.elim z
  | brk=>obtain⟨_,_,_,z⟩:=q; exact False.elim z
  | cont=>obtain⟨_,_,_,z⟩:=q; exact False.elim z
end
section
variable {P:Program} 
theorem Fun.ok0 {f:Addr}{k:Nat} (F:Fun K x qual st f fd) (S:FnScope N ps (jo st)) (len:∀ vs H Q E,sp vs H Q E->vs.length=ps.length)
  (hbody:∀ (cdv:Value) (A:Around) (outer:List Env) (s:Shared) (H:Hp) (vs:List V) (Q:VK) (E:XK),Room k (A.deeper (envOfC qual (jo st) s.heap.objs.size f cdv))->sp vs H Q E ->
   ∃ t,PSs0 (ZC CX0 P w K mg base N qual (jo st) f cdv A outer s H E).nox (jT st) t/\t { nx:=fun _ H'=>Q .non H',rt:=Q } (G3 N vs) H):FnOk P w K mg base CX0 (k+1) f fd ps sp:=by
 obtain⟨oc,od,kV,doc,pm,an,cdv,ct,osl,rfl,lk,hcd⟩:=F.ex;refine⟨len,fun A outer s H args us vs Q E hr e0 hb r hsp=>?_⟩;have hl:=len _ _ _ _ hsp;have KX:K.In s.heap:=e0.mod.kin.keeps fun b o e=>(e0.bs b o e).1;have lim:s.heap.NoLimit:=e0.mod.nolimit.keeps fun b o e=>(e0.bs b o e).1;have hkind:∀ y∈ps.zip us,(jo st).names.lookup y.1=some .local \/ ((jo st).names.lookup y.1=some .cell/\((cellsFrom (s.heap.objs.size+1) (jo st).names []).lookup y.1).isSome=true):=fun⟨n,v⟩ hy=>by
  rcases S.par n (List.of_mem_zip hy).1 with q | q
  ·exact .inl q
  ·exact .inr ⟨q,W.cellsFrom_some _ _ _ (.inl q)⟩
 refine codeAny_call_function hr.depth (KX _ _ lk) rfl S.co S.gen rfl (W.codeRec_of KX hcd) (hb _ _ _ _ ?_);refine wpAny_newFunctionEnv_cells S.kind hkind fun env he s1 x=>?_;subst he;refine⟨lim.keeps x.toInCall.keep,codeAny_func ?_⟩;obtain⟨t,ht,hq⟩:=hbody cdv A outer s H vs Q E (hr.deeper _) hsp;have I:=UW (CX:=CX0) (E:=E) S hr.hd e0 hl r x;refine XW (ht.nox s1 (G3 N vs) H _ I hq) (fun fl s' hs=>?_) fun e s' hs=>hs;have fin:∀ {σ':St}{H':Hp}{v:V}{u:Value},Inv (ZC CX0 P w K mg base N qual (jo st) f cdv A outer s H E) [] σ' H' s'->RelV v u->Q v H'->CE outer P w H s Q u s':=
  fun {σ' H' v u} J rv q=>⟨v,H',J.os,J.bare,J.base,J.hok,rv,q⟩
 cases fl with
 | ret u=>
  obtain⟨v,σ',H',J,rv,q⟩:=hs;exact fin J rv q
 | next=>
  obtain⟨σ',H',J,q⟩:=hs;exact fin (v:=V.non) (u:=Value.none) J rfl q
 | brk=>
  obtain⟨_,_,_,q⟩:=hs;exact False.elim q
 | cont=>
  obtain⟨_,_,_,q⟩:=hs;exact False.elim q
end
structure XGet (K:W.Frag) (C:Addr):Prop where
 over:(W.clsIn K C).any (fun cd=>Vi cd.mro)=true
 hd:W.hasDictIn K C=true
 ga:W.findIn K (.ref C) "__getattribute__"=some (some (.builtin "BaseException.__getattribute__"))
 hk:W.findIn K (.ref C) "__getattr__"=some none
section
variable {x:Addr} 
theorem Yc (o:Value):bindSpecial (.builtin "BaseException.__getattribute__") o=pure (.builtin "BaseException.__getattribute__",[o]):=(PySem.F.excAttr_ValueError).ga.bind o
open PySem.W in
theorem Y9 (X:K.In s.heap) (I:InstAt s.heap x ox C od) (c:XGet K C) (hf:findObj K C od name=some (.value v)) (hh:handedIn v=true) (h:Q v { s with toks:=s.toks+1 }) :
  wpAny (model prog w) A (getAttr (.ref x) name expr) Q E s:=by
 obtain⟨cd,hc,ho⟩:=any_some c.over;have ne:cd.mro.isEmpty=false:=by cases q:cd.mro with | nil=>rw[q] at ho; cases ho | cons _ _=>rfl
 have sub:Looks (model prog w) s.heap (isInstance (.ref x) (.type "BaseException")) true:=I.type.andThen (looks_mroIn X (by unfold mroIn; rw[hc,Option.bind_some,if_neg (by rw[ne]; decide),Gp (v:=.type "BaseException") (by decide) ho]));have L0:=I.type (M:=model prog w);have L1:=looks_findIn (M:=model prog w) X c.ga;have L2:=looks_findIn (M:=model prog w) X c.hk;have LF:=looks_find (M:=model prog w) X I hf;unfold getAttr getAttrBy;refine Xa (wpAny_mkText (wA (Xa (L0.here (s:={ s with toks:=s.toks+1 }) (Xa (L1.here (s:={ s with toks:=s.toks+1 }) ?_))))))
 have hx2:(Value.builtin "BaseException.__getattribute__"==Value.builtin "object.__getattribute__")=false:=by decide +kernel
 show wpAny _ _ (if (onTheHeap (Value.ref C)&&(Value.builtin "BaseException.__getattribute__"==Value.builtin "object.__getattribute__"))=true then _ else _) _ _ _;rw[hx2,Bool.and_false,if_neg (by decide)];unfold getAttrByItsOwn hookBefore;rw[if_pos (show onTheHeap (.ref C)=true from rfl)];refine Xa (L2.here (s:={ s with toks:=s.toks+1 }) (Xa (wpAny_attempt (wA ?_))))
 unfold callGetattribute;rw[if_neg (by cases expr <;> decide)];unfold boundAndCalled;rw[Yc];refine Xa (Xd ?_);show wpAny _ _ (call (.builtin "BaseException.__getattribute__") [.ref x,.str name s.toks]) _ _ _;refine wpAny_call (codeAny_call_builtin (PySem.F.excAttr_ValueError).ga.plain PySem.F.entry_bexc_ga (@check_slot (model prog w) _ _ { s with toks:=s.toks+1 } "BaseException.__getattribute__" "BaseException" "__getattribute__" (.ref x) [.str name s.toks] [] _ (by decide +kernel) (by decide +kernel) sub (PySem.F.args_bexc_ga (.ref x) (.str name s.toks)) ?_))
 unfold Builtin.«object.__getattribute__»;refine Xa (Xd (Xa (Xd (Xa (L0.here (s:={ s with toks:=s.toks+1 }) (Xa (LF.here (s:={ s with toks:=s.toks+1 }) (Xd ?_))))))))
 show wpAny _ _ (handedOut v) _ _ _;rw[handedOut_of hh]; exact Xd h
end
open PySem.W in
theorem Ud {K:Frag}{a g:Value} (hc:(clsIn K C).isSome=true) (ha:findIn K (.ref C) name=some (some a)) (hg:specialIn K a "__get__"=some (some g)) (ht:takesIn K a=some true):findObj K C od name=some (.bind g a):=by
 obtain⟨cd,hc⟩:=Option.isSome_iff_exists.mp hc;unfold findObj;rw[hc,Option.bind_some,ha,Option.bind_some];simp[hg,ht]
section
variable {x:Addr}{fill:Bool}{tk:Tok}
open PySem.W in
theorem jaY (X:K.In s.heap) (I:InstAt s.heap x ox C od) (c:XGet K C) (ha:findIn K (.ref C) "__class__"=some (some (.builtin "object.__class__")))
  (hn:specialIn K (.builtin "object.__class__") "__get__"=some (some (.builtin "getset_descriptor.__get__"))) (htk:takesIn K (.builtin "object.__class__")=some true) (hm:mroIn K C (.type "object")=some true) (h:Q (.ref C) s) :
  wpAny (model prog w) A (getAttrBy (.ref x) (.str "__class__" tk) fill expr) Q E s:=by
 obtain⟨cd,hc,ho⟩:=any_some c.over;have hf:findObj K C od "__class__"=some (.bind (.builtin "getset_descriptor.__get__") (.builtin "object.__class__")):=Ud (by rw[hc]; rfl) ha hn htk;have ne:cd.mro.isEmpty=false:=by cases q:cd.mro with | nil=>rw[q] at ho; cases ho | cons _ _=>rfl
 have sub:Looks (model prog w) s.heap (isInstance (.ref x) (.type "BaseException")) true:=I.type.andThen (looks_mroIn X (by unfold mroIn; rw[hc,Option.bind_some,if_neg (by rw[ne]; decide),Gp (v:=.type "BaseException") (by decide) ho]));have L0:=I.type (M:=model prog w);have L1:=looks_findIn (M:=model prog w) X c.ga;have L2:=looks_findIn (M:=model prog w) X c.hk;have LF:=looks_find (M:=model prog w) X I hf;unfold getAttrBy;refine wA (Xa (L0.here (Xa (L1.here ?_))));have hx2:(Value.builtin "BaseException.__getattribute__"==Value.builtin "object.__getattribute__")=false:=by decide +kernel
 show wpAny _ _ (if (onTheHeap (Value.ref C)&&(Value.builtin "BaseException.__getattribute__"==Value.builtin "object.__getattribute__"))=true then _ else _) _ _ _;rw[hx2,Bool.and_false,if_neg (by decide)];unfold getAttrByItsOwn hookBefore;rw[if_pos (show onTheHeap (.ref C)=true from rfl)];refine Xa (L2.here (Xa (wpAny_attempt (wA ?_))));unfold callGetattribute;rw[if_neg (by cases expr <;> decide)];unfold boundAndCalled;rw[Yc];refine Xa (Xd ?_);show wpAny _ _ (call (.builtin "BaseException.__getattribute__") [.ref x,.str "__class__" tk]) _ _ _;refine wpAny_call (codeAny_call_builtin (PySem.F.excAttr_ValueError).ga.plain PySem.F.entry_bexc_ga (@check_slot (model prog w) _ _ s "BaseException.__getattribute__" "BaseException" "__getattribute__" (.ref x) [.str "__class__" tk] [] _ (by decide +kernel) (by decide +kernel) sub (PySem.F.args_bexc_ga (.ref x) (.str "__class__" tk)) ?_));unfold Builtin.«object.__getattribute__»;refine Xa (Xd (Xa (Xd (Xa (L0.here (Xa (LF.here ?_)))))));show wpAny _ _ (holding [.builtin "object.__class__"] (call (.builtin "getset_descriptor.__get__") [.builtin "object.__class__",.ref x,.ref C]) >>= ret) _ _ _;refine Xa (wA (wpAny_call (class_get (ox:=ox) (od:=od) X I hm ?_)));refine Xd ?_;show wpAny _ _ (handedOut (.ref C)) _ _ _;rw[handedOut_of (v:=.ref C) rfl]; exact Xd h
end
structure XIs (K:W.Frag) (C:Addr):Prop extends XGet K C where
 ha:W.findIn K (.ref C) "__class__"=some (some (.builtin "object.__class__"))
 hn:W.specialIn K (.builtin "object.__class__") "__get__"=some (some (.builtin "getset_descriptor.__get__"))
 htk:W.takesIn K (.builtin "object.__class__")=some true
 hm:W.mroIn K C (.type "object")=some true
open PySem.W in
theorem jcX {K:Frag}{x D:Addr} (c:XIs K D):KitX K (.ref x) (.ref D) (fun h=>InstAt h x ox D od) where
 ty:=fun _ _ _ I=>I.type
 it:=fun _ _ X _=>by
  obtain⟨cdD,hcD,_⟩:=any_some c.hd;unfold clsIn at hcD;split at hcD
  ·rename_i c' d' cd' sl' ho
   intro A' Q' E' s' k q;unfold isType loadHead;exact Xa (wpAny_loadPart (k _ _ (X _ _ ho)) (Xd q))
  ·cases hcD
 ne:=fun h tp dd its n sl X htp=>by
  obtain⟨cdD,hcD,_⟩:=any_some c.hd;refine Bool.eq_false_iff.mpr fun q=>?_;have e:D=tp:=Value.ref.inj (wD.mp q);subst e;unfold clsIn at hcD;split at hcD
  ·rename_i c' d' cd' sl' ho
   have z:=(X _ _ ho).symm.trans htp;cases z
  ·cases hcD
 ca:=fun {prog w A E Q s} X I k=>by
  unfold getAttr? getAttrBy?;refine Xa (wpAny_mkText (Xa (wpAny_attempt (jaY (s:={ s with toks:=s.toks+1 }) X I c.toXGet c.ha c.hn c.htk c.hm (Xd k)))))
section
variable {fr:Bool}
theorem XO.inst (I:Inv X pins σ H s) (e:H a=some (XO a C d fr)) (hd:∀ dx,d=some dx->∃ fs,H dx=some (XD dx fs)):∃ ox od,W.InstAt s.heap a ox C od/\ox.dict=d/\∀ dx,d=some dx->∃ o,od=some o/\s.heap.get? dx=some o:=by
 obtain⟨⟨o,vs,ho,h1,h2,h3,h4⟩,_⟩:=I.hok a _ e;cases d with
 | none=>exact ⟨o,none,⟨ho,h1,q_ h3,by rw[h2]; trivial⟩,h2,fun dx z=>(nomatch z)⟩
 | some dx=>
  obtain⟨fs,ed⟩:=hd dx rfl;obtain⟨⟨mA,hn,r,wi⟩,_⟩:=I.hok dx _ ed;obtain⟨od,hod,_⟩:=zR hn;exact⟨o,some od,⟨ho,h1,q_ h3,by rw[h2]; exact hod⟩,h2,fun dx' z=>by cases z; exact ⟨od,rfl,hod⟩⟩
theorem Wh {f:Str}{v:V}{fs:List (Str×V)}{b:Bool} (I:Inv X pins σ H s) (e:H a=some (XO a C (some dx) fr)) (ed:H dx=some (XD dx fs)) (c:XGet X.K C) (n:NoAttr X.K C f) (l:fs.lookup f=some v)
  (h:∀ u s',Inv X pins σ H s'->RelV v u->Q u s'):wpAny (model X.prog X.w) A (getAttr (.ref a) f b) Q E s:=by
 obtain⟨⟨o,vs,ho,h1,h2,h3,h4⟩,_⟩:=I.hok a _ e;obtain⟨⟨mA,hn,r,wi⟩,_⟩:=I.hok dx _ ed;obtain⟨od,hod,hl⟩:=zR hn;obtain⟨u,hu,ru⟩:=RelO.some_of (v:=v) (o:=mA f) (by rw[<- l]; exact r f);have J:W.InstAt s.heap a o C (some od):=⟨ho,h1,q_ h3,by rw[h2]; exact hod⟩;exact Y9 I.kIn J c (W.findObj_own c.hd n rfl (by rw[hl,hu])) (UQ ru) (h u _ (I.tok _) ru)
theorem Y_ {c:Value}{b:Bool} (I:Inv X pins σ H s) (e:H a=some (XO a C d fr)) (hd:∀ dx,d=some dx->∃ fs,H dx=some (XD dx fs)) (k:XIs X.K C) (ek:W.kitOne X.K (.ref C) c=some b) (h:∀ tk,Q (.bool b) { s with toks:=tk }) :
  wpAny (model X.prog X.w) A (call (.builtin "isinstance") [.ref a,c]) Q E s:=by
 obtain⟨ox,od,J,_⟩:=XO.inst I e hd;exact wo (jcX k) I.kIn J ek (fun z=>nomatch z) h
end
def tXF (K:W.Frag) (ta:TE) (f:Str):TE:=fun σ H Q=>ta σ H fun x H1=>∃ a C dx fr fs v,x=.ref a/\H1 a=some (XO a C (some dx) fr)/\H1 dx=some (XD dx fs)/\XGet K C/\NoAttr K C f/\fs.lookup f=some v/\Q v H1
section
variable {f:Str} 
theorem jfm (he:PE X e ta) (hb:attributeBase e f X.env (eval e X.env)=eval e X.env):PE X (.Attribute e f pos) (tXF X.K ta f):=by
 intro pins s σ H Q I h;refine ZW hb (thn (he pins s σ H _ I h) fun u s1 ⟨x,H1,I1,rx,a,C,dx,fr,fs,v,ex,ea,ed,c,n,l,q⟩=>?_);subst ex;obtain rfl:u=Value.ref a:=rx;exact Wh I1 ea ed c n l fun u' s2 I2 ru=>⟨v,H1,I2,ru,q⟩
theorem Vk:zw X (.builtin "isinstance") (fun xs H Q=>∃ a C d fr c cv b,xs=[.ref a,c]/\(∀ u,RelV c u->u=cv)/\H a=some (XO a C d fr)/\(∀ dx,d=some dx->∃ fs,H dx=some (XD dx fs))/\XIs X.K C/\W.kitOne X.K (.ref C) cv=some b/\Q (.bl b) H):=by
 intro pins s σ H xs us Q I r h;obtain⟨a,C,d,fr,c,cv,b,e,hc,ea,hd,k,hk,q⟩:=h;subst e;obtain⟨u,v,rfl,rx,rc⟩:=r.two;have:=hc v rc;subst this;obtain rfl:u=Value.ref a:=rx;exact Y_ I ea hd k hk fun tk=>⟨.bl b,H,I.tok tk,rfl,q⟩
end
end L2
namespace L3
open PySem PySem.Spec L2
structure Er where
 c:Nat
 vs:List Int
 deriving DecidableEq,Repr
abbrev Ecs:=List (Addr×List Str)
def jd5 (cs:Ecs) (er:Er) (cls:Value) (d:Option Addr) (F:Hp):Prop:=
 ∃ C ns,cls=.ref C/\cs[er.c]?=some (C,ns)/\er.vs.length=ns.length/\((ns=[]/\d=none) \/ ∃ dx,d=some dx/\F dx=some (XD dx (ns.zip (er.vs.map V.int))))
def cE (cs:Ecs):Cd Er:=⟨fun _ H er v=>∃ a C d ns,v=.ref a/\H a=some (XO a C d false)/\cs[er.c]?=some (C,ns)/\er.vs.length=ns.length/\((ns=[]/\d=none) \/ ∃ dx,d=some dx/\H dx=some (XD dx (ns.zip (er.vs.map V.int)))),
 fun s ⟨a,C,d,ns,h1,h2,h3,h4,h5⟩=>⟨a,C,d,ns,h1,s _ _ h2,h3,h4,h5.imp id fun⟨dx,e,z⟩=>⟨dx,e,s _ _ z⟩⟩⟩
def cOE (cs:Ecs):Cd (Option Er):=⟨fun K H o v=>match o with | none=>v=.non | some er=>(cE cs).rep K H er v,
 fun {K H H' a x} s h=>by cases a with | none=>exact h | some er=>exact (cE cs).mono (K:=K) s h⟩
def spX (C:Addr) (ns:List Str):Sp:=fun vs H Q _=>∃ (x:Addr) (is:List Int),vs=V.ref x::is.map V.int/\is.length=ns.length/\H x=some (XO x C none true) /\
 ∀ dx,H dx=none->dx≠x->Q .non (upd (upd H dx (XD dx (ns.zip (is.map V.int)))) x (XO x C (some dx) true))
section
variable {x:Addr}{f g:Str}{i j:Int}
theorem jiq (h0:σ[0]?=some (some (.ref x))) (h1:σ[1]?=some (some (.int i))) (c:XCls K C) (n:NoAttr K C f) (e:H x=some (XO x C none true))
  (k:∀ dx,H dx=none->dx≠x->D.nx σ (upd (upd H dx (XD dx [(f,.int i)])) x (XO x C (some dx) true))):sX K (GM 0) (GM 1) f D σ H:=
 ⟨_,h1,_,h0,x,C,rfl,c,n,.inl ⟨e,k⟩⟩
end
section
variable {F:Hp}{f g:Str}{E:XK}{cs:Ecs}{er:Er}{c:Nat}{m1 m2:Option Int}
theorem jcY {x:Addr}{o o' u:HO} (hx:H1 x=none) (hd:dx≠x):J7 (upd (upd (upd H1 x o) dx u) x o') x=upd H1 dx u:=by
 funext b
 by_cases q:b=x
 ·subst q; rw[yl,jz (Ne.symm hd),hx]
 ·rw[xG q,jz q];by_cases q2:b=dx
  ·subst q2; rw[jB,jB]
  ·rw[jz q2,jz q2,jz q]
theorem jaZ (h1:Ev K σ F H t1 (rF cI) m1) (X:Ext Fe He F H) (hm:(m1.bind fun a=>some (Er.mk c [a]))=some er) (hc:cs[c]?=some (C,[f]))
  (k:∀ cls d F' H',Ext Fe He F' H'->jd5 cs er cls d F'->E cls d H'):jd4 C (spX C [f]) (fun _=>E) (jF t1 qD) D σ H:=by
 obtain⟨a,ea,hm⟩:=bind_some hm;cases hm;refine h1 F H (Ext.refl X.sub) a ea _ fun v F1 H1 E1 r1=>?_;obtain rfl:v=.int a:=r1;refine⟨by simp,fun x hx=>⟨x,[a],rfl,rfl,jB,fun dx hdx hne=>⟨rfl,some dx,jB,?_⟩⟩⟩;rw[jcY hx hne];have hdx':H1 dx=none:=by rw[jz hne] at hdx; exact hdx
 exact k _ _ (upd F1 dx _) _ ((X.trans E1).trans (Ext.newF E1.sub hdx')) ⟨C,[f],rfl,hc,rfl,.inr ⟨dx,rfl,jB⟩⟩
end
def jgQ (K:W.Frag) (p1:Pm α1) (cs:Ecs) (e:α1->Option Er):Sp:=fun vs H _ E=>∃ (x1:α1) (v1:V) (F:Hp) (er:Er),vs=[v1]/\Same F H/\p1.rel K F H x1 v1/\e x1=some er/\∀ cls d F' H',Ext F H F' H'->jd5 cs er cls d F'->E cls d H'
def Za (K:W.Frag) (p1:Pm α1) (p2:Pm α2) (cs:Ecs) (e:α1->α2->Option Er):Sp:=fun vs H _ E=>∃ (x1:α1) (x2:α2) (v1 v2:V) (F:Hp) (er:Er),vs=[v1,v2]/\Same F H/\p1.rel K F H x1 v1/\p2.rel K F H x2 v2/\e x1 x2=some er /\
 ∀ cls d F' H',Ext F H F' H'->jd5 cs er cls d F'->E cls d H'
def EvE (K:W.Frag) (σ:St) (F H:Hp) (t:TE) (cs:Ecs) (E:XK) (m:Option Er):Prop:=
 ∀ F1 H1,Ext F H F1 H1->∀ er,m=some er->(∀ cls d F2 H2,Ext F1 H1 F2 H2->jd5 cs er cls d F2->E cls d H2)->∀ Q:VK,t σ H1 Q
section
variable {F:Hp}{E:XK}{cs:Ecs}{rs:Rs γ}
theorem jcZ {m:Option Er}{er:Er} (he:EvE K σ F H te cs E m) (X:Ext Fe He F H) (hm:m=some er) (k:∀ cls d F' H',Ext Fe He F' H'->jd5 cs er cls d F'->E cls d H'):JV te D σ H:=
 he F H (Ext.refl X.sub) er hm (fun cls d F2 H2 E2 z=>k cls d F2 H2 (X.trans E2) z) _
end
end L3
variable {cs:L3.Ecs}{er:L3.Er}
namespace L2
open PySem PySem.Spec PyProof.Rows
def Vl (sp:Sp) (Er:St->XK) (t:TA):TE:=fun σ H Q=>t σ H fun vs H1=>sp vs H1 Q (Er σ)
structure DefE (P:Program) (w:World) (K:W.Frag) (mg:Str->Option Value) (base:Heap) (x:Str) (k:Nat) (ps:List Str) (sp:Sp):Prop where
 ex:∃ f fd,FnOk P w K mg base (CX1 P w) k f fd ps sp/\mg x=some (.ref f)/\W.keepIn K (.ref f)=true/\Binds K fd ps []
structure XDef (P:Program) (w:World) (K:W.Frag) (mg:Str->Option Value) (base:Heap) (cs:L3.Ecs) (x:Str) (c:Nat) (k:Nat) (ns:List Str):Prop where
 ex:∃ C f fd,cs[c]?=some (C,ns)/\mg x=some (.ref C)/\XMk K C f/\FnOk P w K mg base CX0 k f fd ("self"::ns) (L3.spX C ns)/\Binds K fd ("self"::ns) []
section
variable {k:Nat}{f:Addr}{t:TA}{Er:St->XK}
theorem jfn {Q:VK}{vs:List V} (D:X.Def) (F:FnOk X.prog X.w X.K X.mg X.base (CX1 X.prog X.w) k f fd ps sp) (hr:Room k X.A) (hb:Binds X.K fd ps [])
  (I:Inv (X.wish (Fly X Er)) pins σ H s) (r:Vals vs us) (h:sp vs H Q (Er σ)):wpAny (model X.prog X.w) X.A (call (.ref f) us) (EP (X.wish (Fly X Er)) pins σ Q) (Fly X Er) s:=by
 have hl:(us++[]).length=ps.length:=by rw[XU,<- r.length]; exact F.len _ _ _ _ h
 have hbd:=hb s us I.kIn hl;rw[XU] at hbd;refine wpAny_call (codeAny_mono (F.run X.A X.stack s H ⟨us,[]⟩ us vs Q (Er σ) hr I.unwish.env0 hbd r h) fun r s' hq=>?_);cases r with
 | error e=>exact (jcT D I.unwish hq).imp fun σ' cl d H' z=>by obtain⟨rfl,z⟩:=z; exact z
 | ok fl=>
  cases fl with
  | ret u=>exact I.after hq
  | next=>exact False.elim hq
  | brk=>exact False.elim hq
  | cont=>exact False.elim hq
theorem Ue (DX:X.Def) (D:DefE X.prog X.w X.K X.mg X.base x k ps sp) (hr:Room k X.A) (hg:Gl X x) (ha:PA (X.wish (Fly X Er)) (e::es) t) (hdb:(x==("__debug__":Str))=false:=by decide)
  (he:starEach (e::es) X.env=(false,eval e X.env)::starEach es X.env:=by rfl) (hpl:(backTo pos (starEach es X.env)).any (·.1)=false:=by rfl):PE (X.wish (Fly X Er)) (.Call (.Name x p) (e::es) [] pos) (Vl sp Er t):=by
 obtain⟨f,fd,F,hm,hk,hb⟩:=D.ex;intro pins s σ H Q I h;refine wpAny_Call_Name_kw (zv I hg hm ?_ hdb);refine W.callWith_K (h₀:=X.base) I.ok.mod.kin hk (thn (ha pos pins s σ H _ I h) fun us s1 ⟨vs,H1,I1,r,q⟩=>⟨I1.kIn,?_⟩) he hpl;exact jfn DX F hr hb I1 r q
end
end L2
namespace L3
open PySem PySem.Spec L2
def orE (a b:Option Er):Option Er:=match a with | some er=>some er | none=>b
theorem jc0 {a b:Option Er} (h:orE a b=some er):a=some er \/ b=some er:=by
 cases a with
 | some x=>exact .inl h
 | none=>exact .inr h
def ZF (sp sp':Sp):Sp:=fun vs H Q E=>sp vs H Q E \/ sp' vs H Q E
theorem jc1 {P:Program}{f:Addr}{E:XK}:((ZC CX P w K mg base N qual scope f cdv A outer s H E).fly E).K=K:=rfl
section
variable {F:Hp}{Er':St->XK}{E:XK}{rs:Rs γ} 
theorem jfo {m:Option Er} (he:EvE K σ F H te cs E m) (X:Ext Fe He F H) (hm:m=some er) (k:∀ cls d F' H',Ext Fe He F' H'->jd5 cs er cls d F'->E cls d H'):Gh (JV te) u' D σ H:=
 jcZ (D:={ D with nx:=u' D }) he X hm k
theorem ja0 {m:α1->Option γ} (h1:Ev K σ F H t1 p1.rs m1):Ev K σ F H (Vl (ZF (sp1 K p1 rs m) sp') Er' (jF t1 qD)) rs (m1.bind fun x1=>m x1):=by
 intro F0 H0 X0 z he Q k;obtain⟨x1,e1,he⟩:=bind_some he;refine h1 F0 H0 (X0) x1 e1 _ fun v1 F1 H1 E1 r1=>?_;exact .inl ⟨x1,v1,F1,z,rfl,E1.sub,r1,he,fun u F' H' E' hu=>k u F' H' ((E1).trans E') (rs.back (E1).h hu)⟩
theorem Zb {e:α1->Option Er} (h1:Ev K σ F H t1 p1.rs m1):EvE K σ F H (Vl (ZF sp (jgQ K p1 cs e)) (fun _=>E) (jF t1 qD)) cs E (m1.bind fun x1=>e x1):=by
 intro F0 H0 X0 er he k Q;obtain⟨x1,e1,he⟩:=bind_some he;refine h1 F0 H0 (X0) x1 e1 _ fun v1 F1 H1 E1 r1=>?_;exact .inr ⟨x1,v1,F1,er,rfl,E1.sub,r1,he,fun cls d F' H' E' z=>k cls d F' H' ((E1).trans E') z⟩
theorem Jo {m:α1->α2->Option γ} (h1:Ev K σ F H t1 p1.rs m1) (h2:Ev K σ F H t2 p2.rs m2):Ev K σ F H (Vl (ZF (sp2 K p1 p2 rs m) sp') Er' (jF t1 (jF t2 qD))) rs (m1.bind fun x1=>m2.bind fun x2=>m x1 x2):=by
 intro F0 H0 X0 z he Q k;obtain⟨x1,e1,he⟩:=bind_some he;obtain⟨x2,e2,he⟩:=bind_some he;refine h1 F0 H0 (X0) x1 e1 _ fun v1 F1 H1 E1 r1=>?_;refine h2 F1 H1 (X0.trans E1) x2 e2 _ fun v2 F2 H2 E2 r2=>?_;exact .inl ⟨x1,x2,v1,v2,F2,z,rfl,E2.sub,(p1.mono E2 r1),r2,he,fun u F' H' E' hu=>k u F' H' (((E1).trans E2).trans E') (rs.back ((E1).trans E2).h hu)⟩
theorem Gr {e:α1->α2->Option Er} (h1:Ev K σ F H t1 p1.rs m1) (h2:Ev K σ F H t2 p2.rs m2):EvE K σ F H (Vl (ZF sp (Za K p1 p2 cs e)) (fun _=>E) (jF t1 (jF t2 qD))) cs E (m1.bind fun x1=>m2.bind fun x2=>e x1 x2):=by
 intro F0 H0 X0 er he k Q;obtain⟨x1,e1,he⟩:=bind_some he;obtain⟨x2,e2,he⟩:=bind_some he;refine h1 F0 H0 (X0) x1 e1 _ fun v1 F1 H1 E1 r1=>?_;refine h2 F1 H1 (X0.trans E1) x2 e2 _ fun v2 F2 H2 E2 r2=>?_;exact .inr ⟨x1,x2,v1,v2,F2,er,rfl,E2.sub,(p1.mono E2 r1),r2,he,fun cls d F' H' E' z=>k cls d F' H' (((E1).trans E2).trans E') z⟩
end
def jfp (K:W.Frag) (CT:Addr) (cs:Ecs):Prop:=∀ (i:Nat) (C:Addr) (ns:List Str),cs[i]?=some (C,ns)->∃ fo,yU K C fo=true/\jfl K C CT=true
section
variable {F:Hp}{rs:Rs γ}{tc:(St->XK)->TE}{me:Option Er}{mv:Option γ}{f:Option Er->Option δ} 
def jfq (k i:Nat) (er:Er):Option Int:=if er.c=k then er.vs[i]? else none
def Uf (ks:List Nat) (er:Er):Bool:=decide (er.c∈ks)
variable {t:TE}{m:Option (Option Er)}{o:Option Er}
theorem Yd {v:V} (h:(cOE cs).rep K F o v):decide (v=.non)=o.isNone:=by
 cases o with
 | none=>have e:v=.non:=h; subst e; rfl
 | some er=>obtain⟨a,C,d,ns,e,_⟩:=h; subst e; rfl
theorem jgR (h:Ev K σ F H t (rF (cOE cs)) m):Ev K σ F H (jh5 t) (rF cB) (m.bind fun o=>some o.isNone):=by
 intro F1 H1 E z e Q k;obtain⟨o,eo,e⟩:=bind_some e;cases e;refine h F1 H1 E o eo _ fun v F2 H2 E2 hv=>?_;rw[Yd hv];exact k _ F2 H2 E2 rfl
theorem jfr (h:Ev K σ F H t (rF (cOE cs)) m):Ev K σ F H (jeB t) (rF cB) (m.bind fun o=>some (!o.isNone)):=by
 intro F1 H1 E z e Q k;obtain⟨o,eo,e⟩:=bind_some e;cases e;refine h F1 H1 E o eo _ fun v F2 H2 E2 hv=>?_;rw[Yd hv];exact k _ F2 H2 E2 rfl
def jgS (K:W.Frag) (cs:Ecs) (k i:Nat) (f:Str):Prop:=∃ C ns,cs[k]?=some (C,ns)/\XGet K C/\NoAttr K C f/\ns.Nodup/\ns[i]?=some f
theorem QB {f:Str}:∀ {ns:List Str}{vs:List Int}{i:Nat}{x:Int},ns.Nodup->ns[i]?=some f->vs[i]?=some x->(ns.zip (vs.map V.int)).lookup f=some (.int x)
 | [],_,_,_,_,h,_=>by simp at h
 | _::_,[],_,_,_,_,h=>by simp at h
 | n::ns,v::vs,0,x,_,h,h'=>by
  have h1:n=f:=by simpa using h
  have h2:v=x:=by simpa using h'
  subst h1; subst h2;simp[List.lookup]
 | n::ns,v::vs,i+1,x,nd,h,h'=>by
  have h1:ns[i]?=some f:=by simpa using h
  have h2:vs[i]?=some x:=by simpa using h'
  have ne:(f==n)=false:=by
   rw[beq_eq_false_iff_ne];intro z; subst z;exact(XL.mp nd).1 (XA h1)
  show ((n,V.int v)::ns.zip (vs.map V.int)).lookup f=_;rw[wy,ne];exact QB (XL.mp nd).2 h1 h2
theorem jfs {i':Nat}{g:Str} (hf:jgS K cs k' i' g) (h:Ev K σ F H t (rF (cOE cs)) m):Ev K σ F H (tXF K t g) (rF cI) (m.bind fun o=>o.bind fun er=>jfq k' i' er):=by
 intro F1 H1 E z e Q k;obtain⟨o,eo,e1⟩:=bind_some e;obtain⟨er,eer,e⟩:=bind_some e1;subst eer;refine h F1 H1 E _ eo _ fun v F2 H2 E2 hv=>?_;clear e1;obtain⟨C',ns',hc',xg,na,nd,hi'⟩:=hf;obtain⟨a,C,d,ns,ev,ha,hc,hl,hd⟩:=hv;unfold jfq at e;by_cases q:er.c=k'
 ·rw[if_pos q] at e;rw[q,hc'] at hc;cases hc;rcases hd with⟨hn,_⟩ | ⟨dx,rfl,hx⟩
  ·subst hn; simp at hi'
  ·exact⟨a,_,dx,false,_,.int z,ev,E2.sub _ _ ha,E2.sub _ _ hx,xg,na,QB nd hi' e,k _ F2 H2 E2 rfl⟩
 ·rw[if_neg q] at e; cases e
def jd6 (K:W.Frag) (cs:Ecs) (cv:Value) (ks:List Nat):Prop:=∀ (i:Nat) (C:Addr) (ns:List Str),cs[i]?=some (C,ns)->XIs K C/\W.kitOne K (.ref C) cv=some (decide (i∈ks))
theorem jft {c:V} (hc:∀ u,RelV c u->u=cv) (hk:jd6 K cs cv ks) (h:Ev K σ F H t (rF (cOE cs)) m) :
  Ev K σ F H (tCB (fun xs H Q=>∃ a C d fr c cv b,xs=[.ref a,c]/\(∀ u,RelV c u->u=cv)/\H a=some (XO a C d fr)/\(∀ dx,d=some dx->∃ fs,H dx=some (XD dx fs))/\XIs K C/\W.kitOne K (.ref C) cv=some b/\Q (.bl b) H) (jF t (jF (tC c) qD))) (rF cB) (m.bind fun o=>o.bind fun er=>some (Uf ks er)):=by
 intro F1 H1 E z e Q k;obtain⟨o,eo,e1⟩:=bind_some e;obtain⟨er,eer,e2⟩:=bind_some e1;subst eer;cases e2;refine h F1 H1 E _ eo _ fun v F2 H2 E2 hv=>?_;obtain⟨a,C,d,ns,ev,ha,hcs,hl,hd⟩:=hv;subst ev;obtain⟨x1,x2⟩:=hk _ _ _ hcs;refine⟨a,C,d,false,c,cv,Uf ks er,rfl,hc,E2.sub _ _ ha,fun dx e=>?_,x1,x2,k _ F2 H2 E2 rfl⟩;rcases hd with⟨_,hn⟩ | ⟨dx',e',hx⟩
 ·rw[hn] at e; cases e
 ·rw[e'] at e; cases e; exact ⟨_,E2.sub _ _ hx⟩
end
section
variable {F:Hp}{rs:Rs γ}{tc:(St->XK)->TE}{me:Option Er}{mv:Option γ}{f:Option Er->Option δ} 
variable {t:TE}{m:Option (Option Er)}{o:Option Er}
theorem QC {mm_:Option Bool} (h:Ev K σ F H t (rF (cOE cs)) (some o)) (e_:some o.isNone=mm_):Ev K σ F H (jh5 t) (rF cB) mm_:=e_ ▸ jgR h
theorem Jp {mm_:Option Bool} (h:Ev K σ F H t (rF (cOE cs)) (some o)) (e_:some (!o.isNone)=mm_):Ev K σ F H (jeB t) (rF cB) mm_:=e_ ▸ jfr h
theorem Wi {mm_:Option Int}{i':Nat}{g:Str} (hf:jgS K cs k' i' g) (h:Ev K σ F H t (rF (cOE cs)) (some o)) (e_:(o.bind fun er=>jfq k' i' er)=mm_):Ev K σ F H (tXF K t g) (rF cI) mm_:=e_ ▸ jfs hf h
abbrev rXI (K:W.Frag):List V->Hp->VK->Prop:=fun xs H Q=>∃ a C d fr c cv b,xs=[.ref a,c]/\(∀ u,RelV c u->u=cv)/\H a=some (XO a C d fr)/\(∀ dx,d=some dx->∃ fs,H dx=some (XD dx fs))/\XIs K C/\W.kitOne K (.ref C) cv=some b/\Q (.bl b) H
theorem Wj {mm_:Option Bool}{c:V} (hc:∀ u,RelV c u->u=cv) (hk:jd6 K cs cv ks) (h:Ev K σ F H t (rF (cOE cs)) (some o)) (e_:(o.bind fun er=>some (Uf ks er))=mm_) :
  Ev K σ F H (tCB (rXI K) (jF t (jF (tC c) qD))) (rF cB) mm_:=e_ ▸ jft hc hk h
end
end L3
namespace L2
open PySem PySem.Spec PyProof.Rows
section
variable [DecidableEq κ]
def JU (kvs:List (κ×V)) (k:κ):Option V:=(kvs.find? fun kv=>decide (kv.1=k)).map (·.2)
def VR (kvs:List (κ×V)) (k:κ) (v:V):List (κ×V):=
 if (kvs.any fun kv=>decide (kv.1=k))=true then kvs.map (fun kv=>if kv.1=k then (kv.1,v) else kv) else kvs++[(k,v)]
theorem zV {p:κ×V}{r:List (κ×V)}{k:κ} (e:p.1=k):JU (p::r) k=some p.2:=by simp[JU,wd,e]
theorem zW {p:κ×V}{r:List (κ×V)}{k:κ} (e:¬ p.1=k):JU (p::r) k=JU r k:=by simp[JU,wd,e]
theorem Ye (k:κ):∀ kvs:List (κ×V),(kvs.any fun kv=>decide (kv.1=k))=(JU kvs k).isSome
 | []=>rfl
 | p::r=>by
  rw[List.any_cons];by_cases e:p.1=k
  ·simp only[zV e,Xk e,Bool.true_or,Option.isSome_some]
  ·rw[zW e,Xi e,Bool.false_or]; exact Ye k r
theorem Jq (kvs:List (κ×V)) (k:κ) (v:V):(VR kvs k v).length<=kvs.length+1:=by
 unfold VR;split
 ·rw[Xp]; omega
 ·rw[XR,XQ,List.length_nil]; omega
theorem RelO.isSome_eq {o:Option V}{u:Option Value} (r:RelO o u):o.isSome=u.isSome:=by
 cases o with
 | none=>cases u with
  | none=>rfl
  | some _=>exact (show False from r).elim
 | some _=>cases u with
  | none=>exact (show False from r).elim
  | some _=>rfl
theorem RelO.getD {o:Option V}{u:Option Value}{d:V}{d':Value} (r:RelO o u) (rd:RelV d d'):RelV (o.getD d) (u.getD d'):=by
 cases o with
 | none=>cases u with
  | none=>exact rd
  | some _=>exact (show False from r).elim
 | some _=>cases u with
  | none=>exact (show False from r).elim
  | some _=>exact r
theorem KV.val {kvs:List (κ×V)} (r:KV kvs vs) (k:κ):RelO (JU kvs k) (valueAt vs k):=by
 unfold KV at r
 induction r with
 | nil=>exact True.intro
 | @cons p q ps qs h t ih=>
  obtain⟨h1,h2⟩:=h;by_cases e:p.1=k
  ·have e':q.1=k:=h1.symm.trans e;have b:valueAt (q::qs) k=some q.2:=by simp[valueAt,wd,e']
   rw[zV e,b]; exact h2
  ·have e':¬ q.1=k:=fun z=>e (h1.trans z);have b:valueAt (q::qs) k=valueAt qs k:=by simp[valueAt,wd,e']
   rw[zW e,b]; exact ih
theorem KV.any {kvs:List (κ×V)} (r:KV kvs vs) (k:κ):(kvs.any fun kv=>decide (kv.1=k))=vs.any fun kv=>decide (kv.1=k):=by
 unfold KV at r
 induction r with
 | nil=>rfl
 | cons h t ih=>rw[List.any_cons,List.any_cons,ih,h.1]
theorem KV.repl {kvs:List (κ×V)} (r:KV kvs vs) (k:κ) (ry:RelV y u) :
  KV (kvs.map fun kv=>if kv.1=k then (kv.1,y) else kv) (vs.map fun kv=>if kv.1=k then (kv.1,u) else kv):=by
 unfold KV at r ⊢
 induction r with
 | nil=>exact .nil
 | @cons p q ps qs h t ih=>
  rw[Xl,Xl];refine .cons ?_ ih;obtain⟨h1,h2⟩:=h;by_cases e:p.1=k
  ·rw[if_pos e,if_pos (h1.symm.trans e)]; exact ⟨h1,ry⟩
  ·rw[if_neg e,if_neg (fun z=>e (h1.trans z))]; exact ⟨h1,h2⟩
theorem KV.put {kvs:List (κ×V)} (r:KV kvs vs) (k:κ) (ry:RelV y u):KV (VR kvs k y) (stored vs k u):=by
 unfold VR stored;rw[r.any k];by_cases e:(vs.any fun kv=>decide (kv.1=k))=true
 ·rw[if_pos e,if_pos e]; exact r.repl k ry
 ·rw[if_neg e,if_neg e]; exact Paired.snoc r ⟨rfl,ry⟩
theorem KV.length {kvs:List (κ×V)} (r:KV kvs vs):kvs.length=vs.length:=Paired.length r
end
theorem jc2 {P:Program}{k:Key} (r:RelV (kV k) u):(qE P w).is k u=true:=by
 cases k with
 | inl i=>obtain⟨t,e⟩:=(show ∃ t,u=Value.int i t from r); subst e; exact VT P w i t
 | inr x=>obtain⟨t,e⟩:=(show ∃ t,u=Value.str x t from r); subst e; exact VU P w x t
theorem Vm {P:Program} :∀ {ks:List Key}{us:List Value},Vals (ks.map kV) us->ItemsAre (qE P w) ks us
 | [],_,r=>by rw[List.map_nil] at r; cases r; exact .nil
 | k::ks,_,r=>by
  rw[Xl] at r;cases r with
  | cons h t=>exact .cons (jc2 h) (Vm t)
abbrev KT (H:Hp):List (List Key×V)->List (List Key×Addr×Value)->Prop:=Paired fun p q=>p.1=q.1/\H q.2.1=some (.tup (p.1.map kV))/\RelV p.2 q.2.2
theorem KT.val {xs:List (List Key×Addr×Value)} (r:KT H kvs xs) (k:List Key):RelO (JU kvs k) ((atKey xs k).map (·.2)):=by
 induction r with
 | nil=>exact True.intro
 | @cons p q ps qs h t ih=>
  obtain⟨h1,_,h2⟩:=h;by_cases e:p.1=k
  ·have e':q.1=k:=h1.symm.trans e;have b:atKey (q::qs) k=some q.2:=by simp[atKey,wd,e']
   rw[zV e,b]; exact h2
  ·have e':¬ q.1=k:=fun z=>e (h1.trans z);have b:atKey (q::qs) k=atKey qs k:=by simp[atKey,wd,e']
   rw[zW e,b]; exact ih
theorem KT.repl {xs:List (List Key×Addr×Value)} (r:KT H kvs xs) (k:List Key) (ry:RelV y u) :
  KT H (kvs.map fun kv=>if kv.1=k then (kv.1,y) else kv) (xs.map (putAt k u)):=by
 induction r with
 | nil=>exact .nil
 | @cons p q ps qs h t ih=>
  rw[Xl,Xl];refine .cons ?_ ih;obtain⟨h1,h2,h3⟩:=h;unfold putAt;by_cases e:p.1=k
  ·rw[if_pos e,if_pos (h1.symm.trans e)]; exact ⟨h1,h2,ry⟩
  ·rw[if_neg e,if_neg (fun z=>e (h1.trans z))]; exact ⟨h1,h2,h3⟩
theorem KT.put {xs:List (List Key×Addr×Value)} (r:KT H kvs xs) (k:List Key) {b:Addr} (hb:H b=some (.tup (k.map kV))) (ry:RelV y u) :
  KT H (VR kvs k y) (storedH xs k b u):=by
 have e:(kvs.any fun kv=>decide (kv.1=k))=(atKey xs k).isSome:=by
  rw[Ye,(r.val k).isSome_eq,Option.isSome_map]
 unfold VR storedH;rw[e];by_cases q:(atKey xs k).isSome=true
 ·rw[if_pos q,if_pos q]; exact r.repl k ry
 ·rw[if_neg q,if_neg q]; exact Paired.snoc r ⟨rfl,hb,ry⟩
theorem KT.keeps {xs:List (List Key×Addr×Value)} (r:KT H kvs xs) (ht:∀ b ys,H b=some (.tup ys)->H' b=some (.tup ys)):KT H' kvs xs:=
 Paired.mapP r fun _ _ z=>⟨z.1,ht _ _ z.2.1,z.2.2⟩
section
variable {P:Program} 
theorem jgT {u:HO} (ok:HOk P w H h) (e:Rd H a u):ObjOk P w H h a u:=e.ok ok
theorem ja1 {kvs:List (Key×V)} (ok:HOk P w H h) (e:Rd H a (.dK kvs)):kvs.length<=sizeLine/\(a==sysModules)=false/\∃ vs,KV kvs vs/\h.DictOf (qE P w) a vs:=
 show ObjOk P w H h a (.dK kvs) from jgT ok e
theorem jir {kvs:List (Key×V)} (ok:HOk P w H h) (e:H a=some (.dK kvs)):kvs.length<=sizeLine/\(a==sysModules)=false/\∃ vs,KV kvs vs/\h.DictOf (qE P w) a vs:=ja1 ok (.inl e)
theorem Vn {ks:List Key} (ok:HOk P w H h) (e:H a=some (.tup (ks.map kV))):(tupleKind (qE P w)).is h ks a:=by
 obtain⟨_,its,r,o,h1,h2,n,h3⟩:=(show ObjOk P w H h a (.tup (ks.map kV)) from ok a _ e);exact⟨o,its.toArray,n,h1,h2.1,h3,by simpa using Vm r⟩
theorem ja2 (ok:HOk P w H h) (e:Rd H a (.dT kvs)):kvs.length<=sizeLine/\(a==sysModules)=false /\
  ∃ xs,KT H kvs xs/\h.DictOfH (tupleKind (qE P w)) a xs:=by
 obtain⟨z,y,xs,r,o,es,ep,h1,h2,h3,h4,h5⟩:=(show ObjOk P w H h a (.dT kvs) from jgT ok e);refine⟨z,y,xs,r,o,es,ep,h1,h2,h3,h4,fun x hx=>?_,h5⟩;have all:∀ {l:List (List Key×V)}{m:List (List Key×Addr×Value)},KT H l m->∀ x∈m,(tupleKind (qE P w)).is h x.1 x.2.1:=by
  intro l m q
  induction q with
  | nil=>intro x hx; exact nomatch hx
  | @cons p q ps qs hq t ih=>
   intro x hx;rcases XB.mp hx with e | hx
   ·subst e;exact Vn ok (by rw[<- hq.1]; exact hq.2.1)
   ·exact ih x hx
 exact all r x hx
theorem jgU (ok:HOk P w H h) (e:H a=some (.dT kvs)):kvs.length<=sizeLine/\(a==sysModules)=false /\
  ∃ xs,KT H kvs xs/\h.DictOfH (tupleKind (qE P w)) a xs:=ja2 ok (.inl e)
end
def DGet (H:Hp) (a:Addr) (y:V) (r:Option V):Prop:=
 (∃ kvs k,Rd H a (.dK kvs)/\y=kV k/\r=JU kvs k) \/ ∃ kvs k b,Rd H a (.dT kvs)/\y=.ref b/\H b=some (.tup (k.map kV))/\r=JU kvs k
def DPut (H:Hp) (a:Addr) (y v:V) (H':Hp):Prop:=
 (∃ kvs k,H a=some (.dK kvs)/\y=kV k/\kvs.length<sizeLine/\H'=upd H a (.dK (VR kvs k v))) \/
 ∃ kvs k b,H a=some (.dT kvs)/\y=.ref b/\H b=some (.tup (k.map kV))/\kvs.length<sizeLine/\H'=upd H a (.dT (VR kvs k v))
theorem DGet.k {kvs:List (Key×V)}{k:Key} (e:H a=some (.dK kvs)):DGet H a (kV k) (JU kvs k):=.inl ⟨kvs,k,.inl e,rfl,rfl⟩
theorem DGet.t {b:Addr}{k:List Key} (e:H a=some (.dT kvs)) (eb:H b=some (.tup (k.map kV))):DGet H a (.ref b) (JU kvs k):=.inr ⟨kvs,k,b,.inl e,rfl,eb,rfl⟩
theorem DPut.k {kvs:List (Key×V)}{k:Key}{v:V} (e:H a=some (.dK kvs)) (hl:kvs.length<sizeLine):DPut H a (kV k) v (upd H a (.dK (VR kvs k v))):=.inl ⟨kvs,k,e,rfl,hl,rfl⟩
theorem DPut.t {b:Addr}{k:List Key}{v:V} (e:H a=some (.dT kvs)) (eb:H b=some (.tup (k.map kV))) (hl:kvs.length<sizeLine) :
  DPut H a (.ref b) v (upd H a (.dT (VR kvs k v))):=.inr ⟨kvs,k,b,e,rfl,eb,hl,rfl⟩
section
variable {v:V}{r:Value}{o:Option V} 
theorem Inv.big (I:Inv X pins σ H s):sysModules<s.heap.objs.size:=by
 have h:mainGlobals<s.heap.objs.size:=(I.mod.glob.keeps I.bk).lt;exact Nat.lt_trans (by decide) h
theorem ja3 (hu:A.units+1<cLine) (I:Inv X pins σ H s) (g:DGet H a y (some v)) (ry:RelV y u) (h:∀ w' s',Inv X pins σ H s'->RelV v w'->Q w' s') :
  wpAny (model X.prog X.w) A (getItem (.ref a) u) Q E s:=by
 rcases g with⟨kvs,k,e,ey,l⟩ | ⟨kvs,k,b,e,ey,eb,l⟩
 ·subst ey;obtain⟨z,hd,vs,rel,dd⟩:=ja1 I.hok e;obtain⟨w',hw,rw'⟩:=RelO.some_of (v:=v) (o:=valueAt vs k) (by rw[l]; exact rel.val k);exact wpAny_getItem_of (jc2 ry) dd.mapOf hw (h w' _ (I.tok _) rw')
 ·subst ey;cases (show u=Value.ref b from ry);obtain⟨z,hd,xs,rel,dd⟩:=ja2 I.hok e;obtain⟨w',hw,rw'⟩:=RelO.some_of (v:=v) (o:=(atKey xs k).map (·.2)) (by rw[l]; exact rel.val k);obtain⟨p,hp,hp2⟩:=Option.map_eq_some_iff.mp hw;refine wpAny_getItem_heap (tupleKind_room_in1 hu) (Vn I.hok eb) dd hp ?_;rw[hp2];exact h w' _ (I.tok _) rw'
theorem Wk {ob:HO} (I:Inv X pins σ H s) (mu:Mut (H a)) (hs:Heap.SameBut a s.heap h') (he:∃ q,h'.get? a=some q) (new:ObjOk X.prog X.w (upd H a ob) h' a ob) :
  Inv X pins σ (upd H a ob) { s with heap:=h',toks:=t' }:=
 I.write (x:=a) (e:=a) mu (.inl rfl) (fun b q hb z=>(hs.2 b hb).trans z) he new
theorem jgV {P:Program}{kvs:List (Key×V)}{vs:List (Key×Value)} (z:kvs.length<=sizeLine) (hd:(a==sysModules)=false) (rel:KV kvs vs) (dd:h'.DictOf (qE P w) a vs) :
  ObjOk P w H' h' a (.dK kvs):=⟨z,hd,vs,rel,dd⟩
theorem ja4 {Q:Unit->Shared->Prop} (hu:A.units+1<cLine) (I:Inv X pins σ H s) (g:DPut H a y v H') (ry:RelV y u) (rv:RelV v r) (h:∀ s',Inv X pins σ H' s'->Q () s') :
  wpAny (model X.prog X.w) A (setItem (.ref a) u r) Q E s:=by
 rcases g with⟨kvs,k,e,ey,l,eH⟩ | ⟨kvs,k,b,e,ey,eb,l,eH⟩
 ·subst ey eH;obtain⟨z,hd,vs,rel,dd⟩:=jir I.hok e;have hz:vs.length<=sizeLine:=by rw[<- rel.length]; exact z
  have hl:(VR kvs k v).length<=sizeLine:=by have:=Jq kvs k v; omega
  refine wpAny_setItem_pairs (hsz:=hz) (jc2 ry) dd fun h' dd' hs=>h _ ?_;have he:∃ q,h'.get? a=some q:=let ⟨q,_,_,hq,_⟩:=dd'; ⟨q,hq⟩;exact Wk I (by rw[e]; exact True.intro) hs he (jgV hl hd (rel.put k rv) dd')
 ·subst ey eH;cases (show u=Value.ref b from ry);obtain⟨z,hd,xs,rel,dd⟩:=jgU I.hok e;have hz:xs.length<=sizeLine:=by rw[<- Paired.length rel]; exact z
  have hl:(VR kvs k v).length<=sizeLine:=by have:=Jq kvs k v; omega
  refine wpAny_setItem_heap (hsz:=hz) (tupleKind_room_in1 hu) (Vn I.hok eb) dd fun h' dd' hs=>h _ ?_;obtain⟨q,es,ep,hq,h2,h3,h4,_,h5⟩:=dd';refine Wk I (by rw[e]; exact True.intro) hs ⟨q,hq⟩ ⟨hl,hd,_,(rel.put k eb rv).keeps fun c ys ec=>?_,q,es,ep,hq,h2,h3,h4,h5⟩;rw[jz (jgd ec e (fun z=>nomatch z))];exact ec
end
def jiT (i:Expr):Prop:=∀ ov iv,subscripted i false ov iv=operate [ov,iv] (getItem ov iv)
theorem jfu {slice:Expr}{T id:String} 
  (hl:typeLookup (.type T) "__getitem__"=pure (some (.builtin id))) (hs:jiT slice)
  (h:wpAny (model prog w) A (eval value env) (fun o s₁=>wpAny (model prog w) A (eval slice env) (fun i s₂=>s₂.TypeIs o T/\wpAny (model prog w) A (getItem o i) Q E s₂) E s₁) E s) :
  wpAny (model prog w) A (eval (.Subscript value slice pos) env) Q E s:=by
 refine Subscript_ (XW h (fun o s₁ h₁=>XW h₁ (fun i s₂ h₂=>?_) fun _ _ x=>x) fun _ _ x=>x);obtain⟨hT,h₂⟩:=h₂;unfold subscriptTail;refine Xa ?_;rw[getitemInPython_of_ne hT.not_modules];refine Xa (wpAny_specialOf hT hl ?_);have fin:wpAny (model prog w) A (subscripted slice false o i) (fun r s₃=>wpAny (model prog w) A (letTemporaryGo value o r >>= fun _=>pure r) Q E s₃) E s₂:=by
  rw[hs o i];exact wpAny_operating (XW h₂ (fun r s₃ h₃=>Xa (wpAny_letTemporaryGo (Xd h₃))) fun _ _ x=>x)
 first
  | exact Xd (Xa fin)
  | exact Xa (Xd (Xa fin))
  | exact Xa fin
theorem Wl {o:Option V} (I:Inv X pins σ H s) (g:DGet H a y o):s.TypeIs (.ref a) "dict":=by
 rcases g with⟨kvs,k,e,_,_⟩ | ⟨kvs,k,b,e,_,_,_⟩
 ·obtain⟨_,_,vs,_,dd⟩:=ja1 I.hok e;exact dd.typeIs
 ·obtain⟨_,_,xs,_,dd⟩:=ja2 I.hok e;exact dd.typeIs
def ja5 (td ty:TE):TE:=fun σ H Q=>td σ H fun x H1=>ty σ H1 fun y H2=>∃ a v,x=.ref a/\DGet H2 a y (some v)/\Q v H2
def jfv (td ty tv:TE):TS:=fun D σ H=>tv σ H fun v H1=>td σ H1 fun x H2=>ty σ H2 fun y H3=>∃ a H4,x=.ref a/\DPut H3 a y v H4/\D.nx σ H4
section
variable {o i:Expr}{tpos:Pos} 
theorem yu (hu:X.A.units+1<cLine) (ho:PE X o td) (hi:PE X i ty) (hs:jiT i):PE X (.Subscript o i pos) (ja5 td ty):=by
 intro pins s σ H Q I h;refine jfu PySem.F.slot_dict_getitem.lookup hs (thn (ho pins s σ H _ I h) fun u s1 ⟨x,H1,I1,rx,q1⟩=>thn (hi pins s1 σ H1 _ I1 q1) fun iv s2 ⟨y,H2,I2,ry,a,v,ex,g,q2⟩=>?_);subst ex;obtain rfl:u=Value.ref a:=rx;exact⟨Wl I2 g,ja3 hu I2 g ry fun w' s3 I3 rw'=>⟨v,H2,I3,rw',q2⟩⟩
theorem ja6 (hu:X.A.units+1<cLine) (ho:PE X o td) (hi:PE X i ty) (hv:PE X value tv) (hs:swapsWith value (some (.Subscript o i pos')) pos.line X.env=pure false) :
  PS X (.Assign [.Subscript o i pos'] value pos) (jfv td ty tv):=by
 intro pins s σ H D I h;refine wpAny_Assign_Subscript (thn (hv pins s σ H _ I h) fun r s1 ⟨v,H1,I1,rv,q1⟩=>thn (ho pins s1 σ H1 _ I1 q1) fun u s2 ⟨x,H2,I2,rx,q2⟩=>thn (hi pins s2 σ H2 _ I2 q2) fun iv s3 ⟨y,H3,I3,ry,a,H4,ex,g,q3⟩=>?_) hs;subst ex;obtain rfl:u=Value.ref a:=rx;exact ja4 hu I3 g ry rv fun s4 I4=>⟨σ,H4,I4,q3⟩
end
theorem jc3 {P:Program} (h:Heap) (hb:sysModules<h.objs.size):ObjOk P w H (h.push { cls:=.type "dict",data:=.dict #[] }) h.objs.size (.dK []):=
 ⟨wC _,beq_eq_false_iff_ne.mpr (Ne.symm (XF hb)),[],.nil,Heap.DictOf.new h⟩
theorem Yf {P:Program} (h:Heap) (hb:sysModules<h.objs.size):ObjOk P w H (h.push { cls:=.type "dict",data:=.dict #[] }) h.objs.size (.dT []):=
 ⟨wC _,beq_eq_false_iff_ne.mpr (Ne.symm (XF hb)),[],.nil,_,#[],0,Xo _ rfl,⟨rfl,rfl,rfl⟩,rfl,rfl,List.nodup_nil⟩
def jd7:TE:=fun _ H Q=>∀ p,H p=none->Q (.ref p) (upd H p (.dK []))
def jd8:TE:=fun _ H Q=>∀ p,H p=none->Q (.ref p) (upd H p (.dT []))
section
theorem jc4:PE X (.Dict [] [] pos) jd7:=fun pins s σ H Q I h=>
 wpAny_Dict_empty ⟨.ref s.heap.objs.size,_,I.laid (a:=s.heap.objs.size) (o:=.dK []) (t':=s.toks) (fun _ _ q=>Xb _ q) (Xh _) (jc3 s.heap I.big),rfl,h _ (I.hok.fresh (Xh _))⟩
theorem jc5:PE X (.Dict [] [] pos) jd8:=fun pins s σ H Q I h=>
 wpAny_Dict_empty ⟨.ref s.heap.objs.size,_,I.laid (a:=s.heap.objs.size) (o:=.dT []) (t':=s.toks) (fun _ _ q=>Xb _ q) (Xh _) (Yf s.heap I.big),rfl,h _ (I.hok.fresh (Xh _))⟩
end
structure M2 (X:Cx) (o:Expr) (m:Str) (apos:Pos) (e f:Expr) (cpos:Pos):Prop where
 base:attributeBase o m X.env (eval o X.env)=eval o X.env
 few:((backTo cpos (starEach [e,f] X.env)).all (fun x=>!x.1)&&(backToKw cpos (keywordEach [] X.env)).all (fun x=>x.1.isSome)
 &&decide (([e,f]:List Expr).length+([]:List Keyword).length+(if ([]:List Keyword).isEmpty then 0 else 1)<30))=true
 line:(apos.endLine==cpos.line)=true
 trees:backTo cpos (starEach [e,f] X.env)=[(false,eval e X.env),(false,eval f X.env)]
def IsD (H:Hp) (a:Addr):Prop:=(∃ kvs,Rd H a (.dK kvs)) \/ ∃ kvs,Rd H a (.dT kvs)
theorem jgW (I:Inv X pins σ H s) (d:IsD H a) :
  s.TypeIs (.ref a) "dict"/\(∀ b,Value.ref a=.ref b->∃ ob,s.heap.get? b=some ob/\ob.dict=none)/\(a==sysModules)=false:=by
 rcases d with⟨kvs,e⟩ | ⟨kvs,e⟩
 ·obtain⟨_,hd,vs,_,dd⟩:=ja1 I.hok e;refine⟨dd.typeIs,fun b q=>?_,hd⟩;cases q;obtain⟨ob,_,_,h1,h2,_⟩:=dd;exact⟨ob,h1,h2.2.1⟩
 ·obtain⟨_,hd,xs,_,dd⟩:=ja2 I.hok e;refine⟨dd.typeIs,fun b q=>?_,hd⟩;cases q;obtain⟨ob,_,_,h1,h2,_⟩:=dd;exact⟨ob,h1,h2.2.1⟩
section
variable {d:V}{r:Value}{o:Option V} 
theorem jgX (hu:A.units+1<cLine) (I:Inv X pins σ H s) (g:DGet H a y o) (ry:RelV y u) (rd:RelV d r) (h:∀ w' s',Inv X pins σ H s'->RelV (o.getD d) w'->Q w' s') :
  wpAny (model X.prog X.w) A (call (.builtin "dict.get") [.ref a,u,r]) Q E s:=by
 rcases g with⟨kvs,k,e,ey,l⟩ | ⟨kvs,k,b,e,ey,eb,l⟩
 ·subst ey;obtain⟨z,hd,vs,rel,dd⟩:=ja1 I.hok e;refine call_meetsIn PySem.F.slot_dict_get dd.typeIs PySem.F.entry_dict_get (PySem.F.args_dict_get_3 _ _ _) (meets_dict_get_default (qE X.prog X.w) a (jc2 ry) hd r) ⟨_,dd.mapOf,h _ _ (I.tok _) ?_⟩;rw[l];exact(rel.val k).getD rd
 ·subst ey;cases (show u=Value.ref b from ry);obtain⟨z,hd,xs,rel,dd⟩:=ja2 I.hok e;refine call_meetsIn PySem.F.slot_dict_get dd.typeIs PySem.F.entry_dict_get (PySem.F.args_dict_get_3 _ _ _) (meetsH_dict_get_default (tupleKind (qE X.prog X.w)) a b hd r) ⟨tupleKind_room_in1 hu,k,xs,Vn I.hok eb,dd,h _ _ (I.tok _) ?_⟩;rw[l];exact(rel.val k).getD rd
end
def ja7 (td ty tx:TE):TE:=fun σ H Q=>td σ H fun x H1=>∃ a,x=.ref a/\IsD H1 a/\ty σ H1 fun y H2=>tx σ H2 fun z H3=>∃ o,DGet H3 a y o/\Q (o.getD z) H3
section
variable {o f:Expr}{tx:TE}
theorem jc6 (hu:X.A.units+1<cLine) (ho:PE X o td) (he:PE X e ty) (hf:PE X f tx) (m:M2 X o "get" apos e f cpos):PE X (.Call (.Attribute o "get" apos) [e,f] [] cpos) (ja7 td ty tx):=by
 intro pins s σ H Q I h;refine wpAny_Call_method m.base m.few m.line PySem.F.plainAttrs_dict PySem.F.slot_dict_get PySem.F.type_dict_get (thn (ho pins s σ H _ I h) fun u s1 ⟨x,H1,I1,rx,a,ex,d,q1⟩=>?_);subst ex;obtain rfl:u=Value.ref a:=rx;obtain⟨t1,t2,_⟩:=jgW I1 d;refine⟨t1,t2,?_⟩;rw[m.trees];refine Calls.callWith_builtin rfl (Calls.evalArgs_plain (Calls.spliced_cons (thn (he pins s1 σ H1 _ I1 q1) fun iv s2 ⟨y,H2,I2,ry,q2⟩=>
  Calls.spliced_cons (thn (hf pins s2 σ H2 _ I2 q2) fun fv s3 ⟨z,H3,I3,rz,ov,g,q3⟩=>Calls.spliced_nil ?_))))
 exact jgX hu I3 g ry rz fun w' s4 I4 rw'=>⟨_,H3,I4,rw',q3⟩
end
end L2
/- THE LAST THEOREM (shape; LID,My.* are yours):
   My.Adr: a structure of the addresses that your layer names (classes,functions); My.Txt K t: a structure (Prop) of the equations over K;
   My.txt_mk:{K}{implicit addresses ..} (e1:nsIn K mainGlobals "law"=some (some (.ref f))) (e2:K.lookup f=some ⟨oc,od,.func (fnOf "law" "law" params body scope dV kV doc pm an cdv ct),sl⟩) (e3:codeIn K cdv "law"=true) ..:∃ t,My.Txt K t
(the tactic k_is has no namespace: write k_is) -/
namespace L3
open PySem PySem.Spec L2
theorem hu1 {m:Nat} (h:n+200<m):n+1<m:=by omega
section
variable [DecidableEq κ]
def VS (l:List (κ×α)) (k:κ) (v:α):List (κ×α):=
 bif l.any (fun p=>decide (p.1=k)) then l.map (fun p=>bif decide (p.1=k) then (p.1,v) else p) else l++[(k,v)]
def GU (l:List (κ×α)) (k:κ):Option α:=(l.find? fun p=>decide (p.1=k)).map (·.2)
@[irreducible] def zi (l:List (κ×α)) (k:κ):Option α:=GU l k
@[irreducible] def jb5 (l:List (κ×α)) (k:κ) (v:α):Option (List (κ×α)):=if l.length<16777216 then some (VS l k v) else none
end
class Kk (κ:Type) where
 k:κ->Key
 inj:∀ {a b},k a=k b->a=b
 cd:Cd κ
 rep:∀ {K F a v},cd.rep K F a v->v=kV (k a)
instance:Kk Int:=⟨fun i=>.inl i,fun h=>Sum.inl.inj h,cI,fun h=>h⟩
instance:Kk Str:=⟨fun i=>.inr i,fun h=>Sum.inr.inj h,cS,fun h=>h⟩
section
variable [DecidableEq κ] [Kk κ] {F:Hp}{t tb:TE}{d:Cd β}{p:Pm α}{rs:Rs γ} 
def KvR (K:W.Frag) (F:Hp) (c:Cd α) (p:κ×α) (q:Key×V):Prop:=q.1=Kk.k p.1/\c.rep K F p.2 q.2
theorem KvR.mono {F:Hp}{p:κ×α}{q:Key×V} (s:Same F F') (h:KvR K F c p q):KvR K F' c p q:=⟨h.1,c.mono s h.2⟩
theorem jfw {a b:κ}:decide (Kk.k a=(Kk.k b:Key))=decide (a=b):=by
 by_cases h:a=b
 ·subst h; simp
 ·rw[Xi h,Xi fun e=>h (Kk.inj e)]
theorem jd9 {F:Hp}{k:κ}:∀ {l:List (κ×α)}{kvs:List (Key×V)},Paired (KvR K F c) l kvs->(GU l k=none/\JU kvs (Kk.k k)=none) \/ ∃ x v,GU l k=some x/\JU kvs (Kk.k k)=some v/\c.rep K F x v
 | _,_,.nil=>.inl ⟨rfl,rfl⟩
 | p::l,q::kvs,.cons ⟨r1,r2⟩ s=>by
  by_cases h:p.1=k
  ·right
   refine⟨p.2,q.2,?_,zV (by rw[r1,h]),r2⟩;unfold GU;rw[wd,Xk h];rfl
  ·have e1:GU (p::l) k=GU l k:=by
    unfold GU;rw[wd,Xi h]
   have e2:JU (q::kvs) (Kk.k k)=JU kvs (Kk.k k):=zW (by rw[r1]; exact fun e=>h (Kk.inj e));rw[e1,e2];exact jd9 s
theorem jd_ {F:Hp}{k:κ}:∀ {l:List (κ×α)}{kvs:List (Key×V)},Paired (KvR K F c) l kvs->(kvs.any fun kv=>decide (kv.1=Kk.k k))=l.any fun p=>decide (p.1=k)
 | _,_,.nil=>rfl
 | p::l,q::kvs,.cons ⟨r1,r2⟩ s=>by
  rw[List.any_cons,List.any_cons,jd_ s,r1,jfw]
theorem jea {F:Hp}{k:κ}{x:α}{v:V} (r:c.rep K F x v):∀ {l:List (κ×α)}{kvs:List (Key×V)},Paired (KvR K F c) l kvs ->
  Paired (KvR K F c) (l.map fun p=>bif decide (p.1=k) then (p.1,x) else p) (kvs.map fun kv=>if kv.1=Kk.k k then (kv.1,v) else kv)
 | _,_,.nil=>.nil
 | p::l,q::kvs,.cons ⟨r1,r2⟩ s=>by
  rw[Xl,Xl];refine .cons ?_ (jea r s);by_cases h:p.1=k
  ·rw[Xk h,wm,if_pos (by rw[r1,h])];exact⟨r1,r⟩
  ·rw[Xi h,wb,if_neg (by rw[r1]; exact fun e=>h (Kk.inj e))];exact⟨r1,r2⟩
theorem jgY {F:Hp}{k:κ}{x:α}{v:V}{l:List (κ×α)}{kvs:List (Key×V)} (r:c.rep K F x v) (s:Paired (KvR K F c) l kvs):Paired (KvR K F c) (VS l k x) (VR kvs (Kk.k k) v):=by
 unfold VS VR;rw[jd_ s];cases l.any fun p=>decide (p.1=k) with
 | true=>rw[wm,if_pos rfl]; exact jea r s
 | false=>rw[wb,if_neg (by decide)]; exact Paired.app s (.cons ⟨rfl,r⟩ .nil)
def pD (c:Cd α):Pm (List (κ×α)):=⟨fun K F H l v=>∃ a kvs,v=.ref a/\H a=some (.dK kvs)/\Paired (KvR K F c) l kvs,
 fun e ⟨a,xs,h1,h2,h3⟩=>⟨a,xs,h1,e.h _ _ h2,Paired.mapP h3 fun _ _=>KvR.mono e.f⟩⟩
def rD (c:Cd α):Rs (List (κ×α)):=⟨fun K H F2 H2 l v=>∃ a kvs,v=.ref a/\H a=none/\F2 a=none/\H2 a=some (.dK kvs)/\Paired (KvR K F2 c) l kvs,
 fun s ⟨a,xs,h1,h2,h⟩=>⟨a,xs,h1,s.free h2,h⟩⟩
structure OwnD (K:W.Frag) (He F H:Hp) (c:Cd α) (l:List (κ×α)) (a:Addr):Prop where
 e:He a=none
 f:F a=none
 h:∃ kvs,H a=some (.dK kvs)/\Paired (KvR K F c) l kvs
theorem OwnD.mono {l:List (κ×α)} (o:OwnD K He F H c l a) (E:Ext F H F' H'):OwnD K He F' H' c l a:=by
 obtain⟨xs,h1,h2⟩:=o.h;refine⟨o.e,?_,xs,E.h _ _ h1,Paired.mapP h2 fun _ _=>KvR.mono E.f⟩;cases e:F' a with
 | none=>rfl
 | some u=>
  rcases E.new a u e with z | z
  ·rw[o.f] at z; cases z
  ·rw[h1] at z; cases z
theorem OwnD.b {l:List (κ×α)} (o:OwnD K He F H c l a):(pD c).rel K F H l (.ref a):=let ⟨xs,h1,h2⟩:=o.h; ⟨a,xs,rfl,h1,h2⟩
theorem OwnD.chg {l:List (κ×α)}{b:Addr} (o:OwnD K He F H c l b) (C:Chg a F H F' H') (hne:b≠a):OwnD K He F' H' c l b:=by
 obtain⟨xs,h1,h2⟩:=o.h;refine⟨o.e,?_,xs,C.h _ _ hne h1,Paired.mapP h2 fun _ _=>KvR.mono C.f⟩;cases e:F' b with
 | none=>rfl
 | some u=>
  rcases C.new b u hne e with z | z
  ·rw[o.f] at z; cases z
  ·rw[h1] at z; cases z
theorem OwnD.ne {l:List (κ×α)}{b:Addr}{F0 H0:Hp} (o:OwnD K He F0 H0 c l b) (h:H0 a=none):b≠a:=by
 obtain⟨xs,h1,_⟩:=o.h;exact qF h1 h
theorem jfx:Ev K σ F H jd7 (rD (κ:=κ) c) (some []):=by
 intro F1 H1 E z e Q k a ha;cases e;exact k _ F1 _ (Ext.newO E.sub ha) ⟨a,[],rfl,ha,E.sub.free ha,jB,.nil⟩
theorem yV {mm_:Option α} (hd:Ev K σ F H td (pD c).rs ml) (hk:Ev K σ F H ty (rF Kk.cd) mk) (e_:mm_=(ml.bind fun l=>mk.bind fun k=>zi l k)):Ev K σ F H (ja5 td ty) (rF c) mm_:=by
 subst e_;intro F1 H1 E z e Q k;obtain⟨l,el,e⟩:=bind_some e;obtain⟨y,ey,e⟩:=bind_some e;unfold zi at e;refine hd F1 H1 E l el _ ?_;rintro w F2 H2 E2 hl;refine hk F2 H2 (E.trans E2) y ey _ fun v F3 H3 E3 hv=>?_;obtain⟨a,kvs,rfl,h1,h2⟩:=(pD c).mono E3 hl;have ev:v=kV (Kk.k y):=Kk.rep hv;subst ev;rcases jd9 (k:=y) h2 with⟨g1,g2⟩ | ⟨x,v,g1,g2,r⟩
 ·rw[g1] at e; cases e
 ·rw[g1] at e;cases e;refine⟨a,v,rfl,?_,k v F3 H3 (E2.trans E3) r⟩;rw[<- g2];exact DGet.k h1
theorem zD {y:κ}{l:List (κ×α)}{mm_:Option α} (hd:Ev K σ F H td (pD c).rs (some l)) (hk:Ev K σ F H ty (rF Kk.cd) (some y)) (e_:mm_=zi l y):Ev K σ F H (ja5 td ty) (rF c) mm_:=yV hd hk e_
theorem jfy {m:Option (List (κ×α))}{f:List (κ×α)->Option δ} (he:Ev K σ F H te (rD c) m) (X:Ext Fe He F H) (hm:m.bind f=some r) (k:∀ l a F' H',f l=some r->Ext F H F' H'->Ext Fe He F' H'->H a=none->OwnD K He F' H' c l a->D.nx (σ.set i (some (.ref a))) H'):GN te (kF i) D σ H:=by
 obtain⟨a,ea,hm⟩:=bind_some hm;refine he F H (Ext.refl X.sub) a ea _ ?_;rintro v F2 H2 E ⟨b,xs,rfl,h1,h2,h3,h4⟩;exact k a b F2 H2 hm E (X.trans E) h1 ⟨X.h.free h1,h2,xs,h3,h4⟩
theorem Yg {m:Option (List (κ×α))}{f:List (κ×α)->Option δ} (he:Ev K σ F H te (rD c) m) (X:Ext Fe He F H) (hm:m.bind f=some r) (k:∀ l a F' H',f l=some r->Ext F H F' H'->Ext Fe He F' H'->H a=none->OwnD K He F' H' c l a->u' D (σ.set i (some (.ref a))) H'):Gh (GN te (kF i)) u' D σ H:=
 jfy (D:={ D with nx:=u' D }) he X hm k
theorem jc7 {l:List (κ×α)}{xs:List (Key×V)} (X:Ext Fe He F H) (he:He a=none) (hf:F a=none) (h:Paired (KvR K F c) l xs):Ext Fe He F (upd H a (.dK xs))/\OwnD K He F (upd H a (.dK xs)) c l a:=
 ⟨X.upd he hf,he,hf,xs,jB,h⟩
theorem jfz {l:List (κ×α)}{mv:Option α}{f:List (κ×α)->Option δ} (hi:σ[k']?=some (some (.ref a))) (o:OwnD K He F H c l a) (hv:Ev K σ F H tv (rF c) mv) (hk:Ev K σ F H ty (rF Kk.cd) mk) (X:Ext Fe He F H) (hm:(mv.bind fun v=>mk.bind fun k=>jb5 l k v).bind f=some r)
  (k:∀ l' F' H',f l'=some r->Chg a F H F' H'->Ext Fe He F' H'->OwnD K He F' H' c l' a->D.nx σ H'):jfv (GM k') ty tv D σ H:=by
 obtain⟨l',el,hm⟩:=bind_some hm;obtain⟨x,ex,el⟩:=bind_some el;obtain⟨y,ey,el⟩:=bind_some el;unfold jb5 at el;obtain⟨hl,rfl⟩:=ki el;refine hv F H (Ext.refl X.sub) x ex _ fun v F2 H2 E hvv=>⟨_,hi,hk F2 H2 E y ey _ fun w F3 H3 E3 hw=>?_⟩;have ew:w=kV (Kk.k y):=Kk.rep hw;subst ew;have E':=E.trans E3;have o2:=o.mono E';obtain⟨kvs,h1,h2⟩:=o2.h;obtain⟨X',o'⟩:=jc7 (K:=K) (c:=c) (X.trans E') o.e o2.f (jgY (k:=y) (c.mono E3.f hvv) h2);exact⟨a,_,rfl,DPut.k h1 (by rw[XH,<- h2.length]; exact hl),k _ F3 _ hm (Jd E') X' o'⟩
end
section
theorem Paired.rep {xs:List β} (h:Paired R l xs):∀ k:Nat,Paired R (List.replicate k l).flatten (List.replicate k xs).flatten
 | 0=>.nil
 | k+1=>by
  rw[List.replicate_succ,List.replicate_succ,List.flatten_cons,List.flatten_cons];exact Paired.app h (Paired.rep h k)
end
end L3
namespace L2
open PySem PySem.Spec PyProof.Rows
def Itv (K:W.Frag) (a:Addr) (n:Nat):It:=
 ⟨fun i H=>∃ xs x,SqL K H a xs/\xs.length=n/\i<n/\xs[n-1-i]?=some x,fun i H x H'=>H'=H/\∀ xs,SqL K H a xs->xs[n-1-i]?=some x,fun i H=>n=i⟩
theorem jc8 {P:Program} (a it:Addr) (n:Nat):Turn P w K tg (Itv K a n) [it] it (fun i h=>h.IsRevIter it a ((n:Int)-1-(i:Nat))) where
 mem:=by simp
 obj:=fun i h st b hb=>by
  have e:b=it:=by simpa using hb
  subst e;obtain⟨o,e,c,d⟩:=st;exact⟨o,e,fun v z=>by rw[d] at z; cases z⟩
 keep:=fun i h h' st k=>st.at fun o e=>k it (by simp) o e
 item:=by
  intro X hP hw hK hc i pins s σ H E I hf st hg;subst hP hw hK;obtain⟨xs,x,hq,hn,hi,hx⟩:=hg;obtain⟨its,rv,p,hz⟩:=I.list hq;obtain⟨u,hu,ru⟩:=rv.get hx;obtain⟨f0,f1,f2,f3,f4,f5⟩:=hf it (by simp);have e1:(n:Int)-1-(i:Nat)=((n-1-i:Nat):Int):=by omega
  rw[e1] at st;refine wpAny_pyNext_rev_item st p.isList (x:=u) (by simpa using hu) fun h' st' sb=>?_;have I1:Inv X pins σ H { s with heap:=h' }:=I.turned (t':=s.toks) (fun b o hb e=>(sb.2 b hb).trans e) f0 f1 f3 f4 f5
  have e2:((n-1-i:Nat):Int)-1=(n:Int)-1-((i+1:Nat):Int):=by omega
  rw[e2] at st';obtain⟨o,e,c,d⟩:=id st';exact⟨u,rfl,ZQ (s:={ s with heap:=h' }) e c d (by decide) ⟨x,H,I1,ru,⟨rfl,fun ys hy=>by rw[I.list_inj hy hq]; exact hx⟩,st',fun b hb=>(hf b hb).1⟩⟩
 done:=by
  intro X hP hw hK hc i pins s σ H E I hf st hg;subst hP hw hK;have hg:n=i:=hg;obtain⟨f0,f1,f2,f3,f4,f5⟩:=hf it (by simp);have e1:(n:Int)-1-(i:Nat)=-1:=by omega
  rw[e1] at st;exact wpAny_pyNext_rev_end (I.ok.hd hc) st fun h' eb=>⟨rfl,I.turned (t':=s.toks) (fun b o hb e=>eb b o hb e) f0 f1 f3 f4 f5⟩
 self:=fun _ _ _ _ _ st h=>wpAny_pyIter_revIter st h
section
def jis (K:W.Frag) (tl:TE):TI:=fun σ H R=>tl σ H fun x H1=>∃ a xs,x=.ref a/\SqL K H1 a xs/\R (Itv K a xs.length) H1
theorem jgZ {a:Expr} (hg:Gl X "reversed") (hm:X.mg "reversed"=none) (ha:PE X a te) (hs:starEach [a] X.env=[(false,eval a X.env)]:=by rfl):PI X tg (.Call (.Name "reversed" p) [a] [] pos) (jis X.K te):=by
 intro pins s σ H R I h;refine Call_ (zN I hg hm boot_reversed (wr ?_ hs rfl));rw[hs];show wpAny _ _ (spliced ((false,eval a X.env)::[])) _ _ s;refine Calls.spliced_cons (thn (ha pins s σ H _ I h) fun u s1 ⟨v,H1,I1,r1,q1⟩=>Calls.spliced_nil ?_);obtain⟨l,xs,rfl,hq,q⟩:=q1;cases r1;obtain⟨its,rv,pl,hz⟩:=I1.list hq;have hlen:=rv.length;refine call_reversed_list pl.isList ?_;have hit:(s1.heap.push (revObj l ((its.toArray.size:Int)-1))).IsRevIter s1.heap.objs.size l ((its.toArray.size:Int)-1):=⟨_,Xo _ rfl,rfl,rfl⟩;refine wpAny_pyIter_revIter (s:={ s1 with heap:=s1.heap.push (revObj l ((its.toArray.size:Int)-1)) }) hit ?_
 refine⟨s1.heap.objs.size,[s1.heap.objs.size],_,_,H1,rfl,I1.kept (t':=s1.toks) fun b o e=>Xb _ e,jc8 l _ xs.length,?_,fun b hb=>?_,q⟩
 ·have e:((its.toArray.size:Nat):Int)-1=(xs.length:Int)-1-((0:Nat):Int):=by rw[Xs,hlen]; omega
  rw[e] at hit;rw[e];exact hit
 ·have e:b=s1.heap.objs.size:=by simpa using hb
  subst e;exact I1.fpOk (Xh _) (I1.hok.fresh (Xh _))
end
end L2
namespace L3
open PySem PySem.Spec L2
section
variable {F:Hp}{t:TE} 
theorem jg0 (h:∀ F H,G F H->SqL K H a xs/\Same F1 F/\Same F H) (hp:Paired (c.rep K F1) l xs):ItOk K (Itv K a xs.length) c l.reverse G where
 go:=fun i F H g hi=>by
  rw[wE,hp.length] at hi;exact⟨xs,xs[xs.length-1-i]'(by omega),(h F H g).1,rfl,hi,Xg _⟩
 yld:=fun i F H x H' g y b hb=>by
  obtain⟨e,y⟩:=y;subst e;obtain⟨s1,s2,s3⟩:=h F _ g;have hi:i<l.length:=by
   have:=(List.getElem?_eq_some_iff.mp hb).1;simpa using this
  rw[List.getElem?_reverse hi] at hb;obtain⟨v,hv,r⟩:=Paired.at hp hb;have:=y xs s1;rw[<- hp.length,hv] at this;cases this;exact⟨F,Ext.refl s3,c.mono s2 r⟩
 stop:=fun F H g=>by rw[wE]; exact hp.length.symm
theorem jg1 (h:Ev K σ F H t (rF (cL c)) m):Ei K σ F H Fe He (jis K t) c (m.bind fun l=>some l.reverse):=by
 intro X l e R k;obtain⟨l0,e0,e⟩:=bind_some e;cases e;refine h F H (Ext.refl X.sub) l0 e0 _ ?_;rintro v F2 H2 E ⟨a,xs,rfl,h1,h2⟩;exact⟨a,xs,rfl,SqL.of (E.sub _ _ h1),k _ F2 H2 E (jg0 (F1:=F2) (fun F' H' g=>⟨SqL.of (g.1.sub _ _ (g.2 _ _ h1)),g.2,g.1.sub⟩) h2)⟩
theorem jc9 (h:Ev K σ F H t (rF (cL c)) m) (e_:mm_=m.bind fun l=>some l.reverse):Ei K σ F H Fe He (jis K t) c mm_:=e_ ▸ jg1 h
end
section
variable {F:Hp}{t tb:TE} 
@[irreducible] def Vo (ll:List (List α)) (i:Int) (y:α):Option (List (List α)):=(ixN ll.length i).bind fun n=>(ll[n]?).bind fun l=>if l.length<16777216 then some (ll.set n (l++[y])) else none
theorem jfA {m:Option α}{f:List (List α)->Option δ} (hi:σ[k']?=some (some (.ref a))) (o:Own2 K He F H c ll a) (hx:Ev K σ F H ta (rF cI) mi) (he:Ev K σ F H te (rF c) m) (X:Ext Fe He F H)
  (hm:(mi.bind fun i=>m.bind fun y=>Vo ll i y).bind f=some r)
  (k:∀ l' F' H',f l'=some r->Same F F'->Ext Fe He F' H'->Own2 K He F' H' c l' a->D.nx σ H'):JV (tBM K "list" G5 (tOp (jgp K) (GM k') ta) (jF te qD)) D σ H:=by
 obtain⟨l',el,hm⟩:=bind_some hm;obtain⟨i,ei,el⟩:=bind_some el;obtain⟨y,ey,el⟩:=bind_some el;unfold Vo at el;obtain⟨n,en,el⟩:=bind_some el;obtain⟨l,en',el⟩:=bind_some el;obtain⟨hlen,rfl⟩:=ki el;refine⟨_,hi,hx F H (Ext.refl X.sub) i ei _ fun w F3 H3 E3 hw=>?_⟩;have ew:w=.int i:=hw;subst ew;obtain⟨xs0,p1,p2,_⟩:=(o.mono E3).h;have hat:atI ll i=some l:=by unfold atI; rw[en]; exact en'
 obtain⟨v0,hv0,b0,ys0,rfl,_,_,_,q4,q5⟩:=Paired.atI p2 hat;refine⟨a,xs0,i,_,rfl,rfl,SqL.of p1,hv0,?_⟩;refine⟨.inl ⟨rfl,_,SqL.of q4⟩,he F3 H3 E3 y ey _ fun v F4 H4 E4 hv=>?_⟩;have E14:=E3.trans E4;have o4:=o.mono E14;obtain⟨xs,h1,h2,h3⟩:=o4.h;have e0:xs=xs0:=by
  have:=E4.h _ _ p1;rw[h1] at this;cases this; rfl
 subst e0;have hn:xs[n]?=some (.ref b0):=by
  unfold atI at hv0;rw[<- h2.length,en] at hv0;exact hv0
 obtain⟨b,ys,eb,g0,g2,g3,g4,g5⟩:=Paired.getP h2 en' hn;cases eb;refine⟨b0,ys,v,rfl,rfl,g4,by rw[XH,<- g5.length]; exact hlen,?_⟩;refine k _ F4 _ hm E14.f ((X.trans E14).upd g2 g3) ⟨o4.e,o4.f,xs,by rw[jz (Ne.symm g0)]; exact h1,?_,h3⟩;have hnl:n<ll.length:=(List.getElem?_eq_some_iff.mp en').1;refine Paired.ofGet (by rw[List.length_set]; exact h2.length) fun q l1 x1 hl1 hx1=>?_;by_cases hq:q=n
 ·subst hq;rw[hn] at hx1;cases hx1;rw[wI hnl] at hl1;cases hl1;exact⟨b0,_,rfl,g0,g2,g3,jB,Paired.app g5 (.cons hv .nil)⟩
 ·rw[wa (Ne.symm hq)] at hl1;obtain⟨b1,ys1,eb1,k0,k2,k3,k4,k5⟩:=Paired.getP h2 hl1 hx1;subst eb1;refine⟨b1,ys1,rfl,k0,k2,k3,?_,k5⟩;rw[jz]
  ·exact k4
  ·rintro rfl;have h4:xs[q]?=xs[n]?:=by rw[hx1,hn]
   have hql:q<xs.length:=(List.getElem?_eq_some_iff.mp hx1).1;exact hq ((List.getElem?_inj hql h3).mp h4)
end
end L3
namespace L2
open PySem PySem.Spec PyProof.Rows
theorem Jr:Manifest.owners.lookup (String.ofList ['d','e','s','r','e','v','e','r'].reverse)=some Manifest.sig_reversed:=by kernel_rfl
theorem slot_rvt_next:Slot "reversed" "__next__" "reversed.__next__":=
 .of (owner:="reversed") (n:="__next__") (by rw[typeLookup_type,builtinLookup_eq_fast]; kernel_rfl) (by decide +kernel) (by decide +kernel) (by decide +kernel)
  (by first | exact .inl (by decide +kernel) | exact .inr (by decide +kernel)) (by rw[isSubtype_type]; kernel_rfl)
theorem zr:entryFor table "reversed.__next__"=some Builtin.«reversed.__next__»:=entryFor_of_tree (by kernel_rfl)
theorem yW (a:Value):argsOk "reversed.__next__" ⟨[a],[]⟩:=by
 unfold argsOk; rw[signature?_of (id:="reversed.__next__") (n:=['_','_','t','x','e','n','_','_']) (o:=['d','e','s','r','e','v','e','r']) (by kernel_rfl) Jr]; kernel_rfl
theorem zX:Slot "reversed" "__iter__" "reversed.__iter__":=
 .of (owner:="reversed") (n:="__iter__") (by rw[typeLookup_type,builtinLookup_eq_fast]; kernel_rfl) (by decide +kernel) (by decide +kernel) (by decide +kernel)
  (by first | exact .inl (by decide +kernel) | exact .inr (by decide +kernel)) (by rw[isSubtype_type]; kernel_rfl)
theorem Js (a:Value):argsOk "reversed.__iter__" ⟨[a],[]⟩:=by
 unfold argsOk; rw[signature?_of (id:="reversed.__iter__") (n:=['_','_','r','e','t','i','_','_']) (o:=['d','e','s','r','e','v','e','r']) (by kernel_rfl) Jr]; kernel_rfl
theorem J8:entryFor table "reversed.__iter__"=some Builtin.«dict_keyiterator.__iter__»:=
 entryFor_alias (id':="dict_keyiterator.__iter__") (by kernel_rfl) (by first | rfl | decide +kernel | (unfold String.splitOn; simp +decide [String.splitOnAux])) (by decide +kernel) (by kernel_rfl)
theorem slot_rvt_hint:Slot "reversed" "__length_hint__" "reversed.__length_hint__":=
 .of (owner:="reversed") (n:="__length_hint__") (by rw[typeLookup_type,builtinLookup_eq_fast]; kernel_rfl) (by decide +kernel) (by decide +kernel) (by decide +kernel)
  (by first | exact .inl (by decide +kernel) | exact .inr (by decide +kernel)) (by rw[isSubtype_type]; kernel_rfl)
theorem J9:entryFor table "reversed.__length_hint__"=some Builtin.«reversed.__length_hint__»:=entryFor_of_tree (by kernel_rfl)
theorem Jt (a:Value):argsOk "reversed.__length_hint__" ⟨[a],[]⟩:=by
 unfold argsOk; rw[signature?_of (id:="reversed.__length_hint__") (n:=['_','_','t','n','i','h','_','h','t','g','n','e','l','_','_']) (o:=['d','e','s','r','e','v','e','r']) (by kernel_rfl) Jr]; kernel_rfl
theorem Ug:Slot "reversed" "__init__" "object.__init__":=
 .of (owner:="object") (n:="__init__") (by rw[typeLookup_type,builtinLookup_eq_fast]; kernel_rfl) (by decide +kernel) (by decide +kernel) (by decide +kernel)
  (by first | exact .inl (by decide +kernel) | exact .inr (by decide +kernel)) (by rw[isSubtype_type]; kernel_rfl)
theorem Zc:TypeCalled "reversed" "reversed.__new__" "object.__init__":=
 ⟨by decide +kernel,by decide +kernel,⟨_,_,F.mro_reversed⟩,F.made_reversed,by decide +kernel,F.sub_reversed_self,Ug⟩
theorem Zd:typeLookup (.type "tuple") "__reversed__"=pure none:=by rw[typeLookup_type,builtinLookup_eq_fast]; kernel_rfl
theorem Ze:typeLookup (.type "reversed") "__len__"=pure none:=by rw[typeLookup_type,builtinLookup_eq_fast]; kernel_rfl
def Vp (l:Addr) (i:Int):Obj:={ cls:=.type "reversed",data:=.fields #[.ref l,rawInt i] }
def IsRvt (h:Heap) (a l:Addr) (i:Int):Prop:=∃ o,h.get? a=some o/\o.cls=.type "reversed"/\o.data=.fields #[.ref l,rawInt i]
theorem IsRvt.at {l:Addr}{i:Int} (x:IsRvt h a l i) (e:∀ o,h.get? a=some o->h'.get? a=some o):IsRvt h' a l i:=let ⟨o,ho,r⟩:=x; ⟨o,e _ ho,r⟩
theorem IsRvt.typeIs {l:Addr}{i:Int} (x:IsRvt s.heap a l i):s.TypeIs (.ref a) "reversed":=let ⟨o,ho,hc,_⟩:=x; ⟨o,ho,hc⟩
theorem ja8 (l:Addr) (items:Array Value) (hf:(items.size:Int)<2 ^ 62) :
  Meets (Builtin.«reversed.__new__» ⟨[.type "reversed",.ref l],[]⟩) (fun _ R s=>s.heap.IsTuple l items /\
   R (.ok (.ret (.ref s.heap.objs.size))) { s with heap:=s.heap.push (Vp l ((items.size:Int)-1)),toks:=s.toks+1+1 }):=
 .of_wp fun prog w A R s h=>by
  obtain⟨hl,h⟩:=h;have hT:s.TypeIs (.ref l) "tuple":=let ⟨o,ho,hc,_⟩:=hl; ⟨o,ho,hc⟩;unfold Builtin.«reversed.__new__»;refine Xa (wpAny_of_eq (newClass_reversed _) ?_)
  try dsimp only
  refine Xa (wpAny_of_eq (a:=()) (by first | rfl | kernel_rfl) ?_)
  refine Xa (wpAny_of_eq (a:=()) (by first | rfl | kernel_rfl) ?_)
  try dsimp only
  refine Xa (wpAny_specialOf hT Zd ?_)
  try dsimp only
  refine Xa ?_;show wpAny _ _ (isInstance (.ref l) (.type "dict") >>= _) _ _ _;refine Xa (wpAny_isInstance (T:="tuple") (b:=false) hT (by rw[isSubtype_type]; kernel_rfl) ?_);rw[if_neg (by decide)];refine Xa (wpAny_specialOf hT PySem.F.slot_tuple_getitem.lookup ?_)
  try dsimp only
  rw[if_pos (by decide +kernel)];refine Xd ?_;rw[if_neg (by decide)];refine Xa (len_tuple (items:=items) hl (by omega) ?_);refine Xa (m:=asInt? _) (Xd ?_)
  try dsimp only
  refine Xa ?_;unfold Builtin.SmallTypes.newRecord;refine XN ?_ (by size_fits);exact Xd ⟨_,rfl,h⟩
section
theorem jc_ {l:Addr} (hL:s.heap.IsTuple l items) (hf:(items.size:Int)<2 ^ 62)
  (h:Q (.ref s.heap.objs.size) { s with heap:=s.heap.push (Vp l ((items.size:Int)-1)),toks:=s.toks+1+1 }):wpAny (model prog w) A (call (.type "reversed") [.ref l]) Q E s:=by
 refine callType_new Zc (by decide) (F.typeCall_reversed_1 _) (F.newCall_reversed_1 _) (fun obj=>F.args_object_init_2 obj _) F.entry_reversed_new (ja8 l items hf) ⟨hL,?_⟩;show _/\_;exact⟨⟨_,Xo _ rfl,rfl⟩,h⟩
theorem Uh {l:Addr}{x:Value}{Q:Option Value->Shared->Prop} (hit:IsRvt s.heap it l (i:Int)) (hl:s.heap.IsTuple l items) (hx:items[i]?=some x) (hf:(items.size:Int)<2 ^ 62)
  (hQ:∀ h',IsRvt h' it l ((i:Int)-1)->Heap.SameBut it s.heap h'->Q (some x) { s with heap:=h',toks:=s.toks+1 }):wpAny (model prog w) A (pyNext (.ref it)) Q E s:=by
 obtain⟨o,ho,hc,hd⟩:=id hit;have hT:s.TypeIs (.ref l) "tuple":=let ⟨o,ho,hc,_⟩:=hl; ⟨o,ho,hc⟩;have hi:i<items.size:=(Array.getElem?_eq_some_iff.mp hx).1;unfold pyNext;refine Xa (wpAny_attempt (wpAny_callSpecial?_slot (name:=Str.ofString "__next__") hit.typeIs slot_rvt_next
  (wx slot_rvt_next hit.typeIs zr ?_ (yW _))))
 unfold Builtin.«reversed.__next__»;refine Xa (wpAny_of_eq (a:=(Value.ref it,[])) rfl ?_)
 try dsimp only
 refine Xa (wv ho hd (x:=.ref l) rfl ?_);refine Xa (wv ho hd (x:=rawInt (i:Int)) rfl ?_);show wpAny _ _ (if (i:Int)<0 then _ else _) _ _ s;rw[if_neg (by omega)];refine Xa (wpAny_specialOf hT PySem.F.slot_tuple_getitem.lookup ?_);rw[if_neg (by decide)];refine Xa (wpAny_mkInt ?_);refine Xa (wpAny_attempt ?_);refine getItem_tuple (s:={ s with toks:=s.toks+1 }) (items:=items) (j:=i) (x:=x) hl (by omega) (by omega) ?_ hx ?_
 ·simp[seqIndex?]; omega
 ·try dsimp only
  refine Xa (wv (s:={ s with toks:=s.toks+1 }) ho hd (x:=rawInt (i:Int)) rfl ?_)
  show wpAny _ _ (setField (Value.ref it) 1 (rawInt ((i:Int)-1)) >>= _) _ _ _;refine Xa (wpAny_setField (s:={ s with toks:=s.toks+1 }) ho hd (by simp) ?_)
  refine Xd ⟨x,rfl,Xd (hQ _ ?_ (Heap.SameBut.update ..))⟩;exact⟨_,wj _ ho (Obj.isFreed_of_fields (wp hd _)),(Obj.cls_mapFields ..).trans hc,by
   rw[wp hd]; simp⟩
theorem Vq {l:Addr}{Q:Option Value->Shared->Prop} (hh:A.handled=none) (hit:IsRvt s.heap it l (-1))
  (hQ:∀ h',Heap.ExtBut it s.heap h'->Q none { s with heap:=h' }):wpAny (model prog w) A (pyNext (.ref it)) Q E s:=by
 obtain⟨o,ho,hc,hd⟩:=id hit;unfold pyNext;refine Xa (wpAny_attempt (wpAny_callSpecial?_slot (name:=Str.ofString "__next__") hit.typeIs slot_rvt_next
  (wx slot_rvt_next hit.typeIs zr ?_ (yW _))))
 unfold Builtin.«reversed.__next__»;refine Xa (wpAny_of_eq (a:=(Value.ref it,[])) rfl ?_)
 try dsimp only
 refine Xa (wv ho hd (x:=.ref l) rfl ?_);refine Xa (wv ho hd (x:=rawInt (-1)) rfl ?_);show wpAny _ _ (if (-1:Int)<0 then _ else _) _ _ s;rw[if_pos (by decide)];refine Xa (wpAny_rule ?_);show wpAny _ _ ((setField (Value.ref it) 1 (rawInt (-1)) >>= fun _=>setField (Value.ref it) 0 .none) >>= _) _ _ _;refine Xa (Xa (wpAny_setField ho hd (by simp) ?_));have ho1:=wj (h:=s.heap) (Obj.mapFields (·.setIfInBounds 1 (rawInt (-1)))) ho (Obj.isFreed_of_fields (wp hd _));refine wpAny_setField (s:={ s with heap:=s.heap.update it (Obj.mapFields (·.setIfInBounds 1 (rawInt (-1)))) }) ho1 (wp hd _) (by simp) ?_
 show wpAny _ _ (Builtin.SmallTypes.stopIteration >>= _) _ _ _;refine Xa ?_;show wpAny _ _ (newExc (.type "StopIteration") [] >>= _) _ _ _;refine Xa ?_;simp only[newExc,newTuple];refine Xa (XN ?_ (by size_fits));refine Xa (m:=firstArgMember _ _) (wpAny_of_eq (a:=Value.none) (by first | rfl | (simp only[firstArgMember]; rfl)) ?_)
 refine XN ?_ (by size_fits);simp only[raiseNew];refine Xa (wpAny_handled ?_)
 first | rw[show A.in1.handled=none from hh] | rw[hh]
 refine Xa (Xd (wpAny_throw ?_));refine Xa (wpAny_isInstance (T:="StopIteration") (b:=true) ⟨_,Xo _ rfl,rfl⟩ isSubtype_stop ?_);refine Xd (hQ _ ((Heap.ExtBut.push (Heap.ExtBut.push ?_ _) _)));exact fun b o hb e=>(Heap.SameBut.update ..).extBut b o hb ((Heap.SameBut.update ..).extBut b o hb e)
theorem Yh {l:Addr}{i:Int} (hit:IsRvt s.heap it l i) (h:Q (.ref it) s):wpAny (model prog w) A (pyIter (.ref it)) Q E s:=by
 refine wpAny_pyIter_slot hit.typeIs zX (wx zX hit.typeIs J8 ?_ (Js _));show wpAny _ _ (ret (.ref it)) _ _ s;exact Xd ⟨_,rfl,"reversed",_,hit.typeIs,slot_rvt_next.lookup,h⟩
theorem jda {l:Addr}{Q:Bool->Shared->Prop} (hit:IsRvt s.heap it l ((items.size:Int)-1)) (hl:s.heap.IsTuple l items) (hf:items.size<=2 ^ 24)
  (h:∀ b t,Q b { s with toks:=t }):wpAny (model prog w) A (Builtin.List.listLengthHint (.ref it)) Q E s:=by
 obtain⟨o,ho,hc,hd⟩:=id hit;unfold Builtin.List.listLengthHint;refine Xa (wpAny_specialOf hit.typeIs Ze ?_);show wpAny _ _ (specialOf (Value.ref it) (Str.ofString "__length_hint__") >>= _) _ _ _;refine Xa (wpAny_specialOf hit.typeIs slot_rvt_hint.lookup ?_);generalize hid:("reversed.__length_hint__":String)=id0
 wp_delta
 rw[show splitId id0=some ("reversed","__length_hint__") from by subst hid; decide +kernel];subst hid;refine Xa (wpAny_isInstance (T:="reversed") (b:=true) hit.typeIs F.sub_reversed_self ?_);refine wpAny_ite_split (fun hab=>absurd hab (by decide)) (fun _=>?_);refine wpAny_ite_split (fun hab=>absurd hab (by decide +kernel)) (fun _=>?_);refine Xa (wpAny_rule ?_);refine Xa (wpAny_of_eq (slot_rvt_hint.bind _) ?_)
 try dsimp only
 refine Xa (wpAny_attempt (wx slot_rvt_hint hit.typeIs J9 ?_ (Jt _)));unfold Builtin.«reversed.__length_hint__»;refine Xa (wpAny_of_eq (a:=Value.ref it) rfl ?_);refine Xa (wv ho hd (x:=.ref l) rfl ?_);rw[if_neg (show ¬ ((Value.ref l==Value.none)=true) from Xy)];refine Xa (len_tuple (items:=items) hl (by omega) ?_);refine Xa (m:=asInt? _) (Xd ?_)
 try dsimp only
 refine Xa (wv (s:={ s with toks:=s.toks+1+1 }) ho hd (x:=rawInt ((items.size:Int)-1)) rfl ?_)
 show wpAny _ _ (if ((items.size:Nat):Int)<((items.size:Int)-1)+1 then _ else _) _ _ _;rw[if_neg (by omega)];refine Xa (wpAny_mkInt (Xd ⟨_,rfl,?_⟩))
 try dsimp only
 refine Xa (m:=asInt? _) (Xd ?_)
 try dsimp only
 have e1:Builtin.List.listFitsIndex ((items.size:Int)-1+1)=true:=by unfold Builtin.List.listFitsIndex; simp; omega
 have e2:Builtin.List.listTooLong (((items.size:Int)-1+1).toNat)=false:=by simp[Builtin.List.listTooLong,sizeLine]; omega
 rw[e1,if_neg (by decide),if_neg (by omega),e2,if_neg (by decide)];exact Xd (h _ _)
end
theorem ja9 (hh:A.handled=none) (I l:Addr) (hne:l≠I) (items:Array Value) (hf:(items.size:Int)<2 ^ 62) :
  Walks prog w A I [I,l] [I] items.size (fun i v=>items[items.size-1-i]?=some v) (fun i h=>i<=items.size/\IsRvt h I l ((items.size:Int)-1-(i:Int))/\h.IsTuple l items) where
 sub:=fun b hb=>by simp at hb; simp[hb]
 frame:=fun _ _ _ x hk=>⟨x.1,x.2.1.at fun o e=>hk I (by simp) o e,let ⟨o,ho,r⟩:=x.2.2; ⟨o,hk l (by simp) o ho,r⟩⟩
 item:=fun i s Q E hi x hQ=>by
  have e:(items.size:Int)-1-(i:Int)=((items.size-1-i:Nat):Int):=by omega
  have hit:=x.2.1;rw[e] at hit;have hx:items[items.size-1-i]?=some (items[items.size-1-i]'(by omega)):=Array.getElem?_eq_getElem (by omega);refine Uh hit x.2.2 hx hf fun h' hit' hs'=>?_;have e2:((items.size-1-i:Nat):Int)-1=(items.size:Int)-1-((i+1:Nat):Int):=by omega
  rw[e2] at hit';exact hQ _ h' (s.toks+1) hx ⟨hi,hit',x.2.2.extBut hs'.extBut hne⟩ fun b o hb eo=>hs'.extBut b o (fun h=>hb (by simp[h])) eo
 done:=fun s Q E x hQ=>by
  have e:(items.size:Int)-1-(items.size:Int)=-1:=by omega
  have hit:=x.2.1;rw[e] at hit;exact Vq hh hit fun h' he'=>hQ h' s.toks fun b o hb eo=>he' b o (fun h=>hb (by simp[h])) eo
 self:=fun _ _ _ _ x hQ=>Yh x.2.1 hQ
section
variable {R:Result->Shared->Prop}
theorem Zf {l:Addr} (hh:A.handled=none) (hit:IsRvt s.heap it l ((items.size:Int)-1)) (hl:s.heap.IsTuple l items) (hf:items.size<=2 ^ 24) (S:Addr) (res:Value) (c₀:Nat)
  (hS:s.heap.get? S=some { cls:=.type "list",data:=.seq #[] c₀ })
  (hR:∀ h' tk acc' c',(∀ b o,b≠S->b≠it->s.heap.get? b=some o->h'.get? b=some o)->h'.get? S=some { cls:=.type "list",dict:=none,data:=.seq acc' c',slots:=#[] } ->
   ItemsOf (fun i v=>items[items.size-1-i]?=some v) acc' items.size->R (.ok (.ret res)) { s with heap:=h',toks:=tk }) :
  wpAny (model prog w) A.in1 (Builtin.List.listExtendWith (.ref S) (.ref it) res)
   (fun fin s'=>match fin with | .done f=>R (.ok f) s' | .again c'=>c'.quiet=true/\codeAny (model prog w) A c' R s') (fun e s'=>R (.error e) s') s:=by
 have hSi:S≠it:=fun e=>by
  obtain⟨o,ho,hc,_⟩:=hit;rw[e,ho] at hS;rw[Option.some.inj hS] at hc;exact absurd hc (by simp)
 have hSl:S≠l:=fun e=>by
  obtain⟨o,ho,hc,_⟩:=hl;rw[e,ho] at hS;rw[Option.some.inj hS] at hc;exact absurd hc (by simp)
 have hne:l≠it:=fun e=>by
  obtain⟨o,ho,hc,_⟩:=hl;obtain⟨o',ho',hc',_⟩:=hit;rw[e,ho'] at ho;cases ho;rw[hc] at hc';exact absurd hc' (by simp)
 have hSf:S∉[it,l]:=by simp[hSi,hSl]
 have W:=(ja9 (prog:=prog) (w:=w) (A:=A.in1) hh it l hne items (by omega)).toS;have key:∀ (h:Heap) (c₁ tk:Nat),(∀ b o,b≠S->s.heap.get? b=some o->h.get? b=some o) ->
   h.get? S=some { cls:=.type "list",data:=.seq #[] c₁ }->codeAny (model prog w) A (.builtin "list.extend.loop" ⟨[.ref S,.ref it,res],[]⟩) R { s with heap:=h,toks:=tk }:=by
  intro h c₁ tk hk hS₁;refine codeAny_extend_loopS W (by rw[XH]; omega) S hSf res items.size 0 _ #[] c₁ rfl (wC _) ⟨wC _,?_,?_⟩ hS₁ (ItemsOf.nil _) fun s' acc' c' hm hS' hacc=>?_
  ·have e:(items.size:Int)-1-((0:Nat):Int)=(items.size:Int)-1:=by omega
   rw[e];exact hit.at fun o e=>hk it o (Ne.symm hSi) e
  ·obtain⟨o,ho,r⟩:=hl;exact⟨o,hk l o (Ne.symm hSl) ho,r⟩
  ·rw[Moved.eq_with hm];refine hR s'.heap s'.toks acc' c' (fun b o hb hb2 e=>hm.heap b o (fun hmem=>?_) (hk b o hb e)) hS' hacc;rcases XB.mp hmem with e' | hmem
   ·exact hb e'
   ·exact hb2 (XC.mp hmem)
 unfold Builtin.List.listExtendWith;refine Xa (wpAny_typeOf (T:="reversed") hit.typeIs ?_);have h1:Builtin.List.listSameRef (.ref S) (.ref it)=false:=by simp[Builtin.List.listSameRef,hSi]
 have h2:(Value.type "reversed"==Value.type "list")=false:=by decide
 have h3:(Value.type "reversed"==Value.type "tuple")=false:=by decide
 simp only[h1,h2,h3,Bool.or_false,Bool.false_eq_true,if_false];refine Xa (Yh hit ?_);refine Xa (wA (jda hit hl hf fun b t=>?_));refine wpAny_ite_split (fun _=>?_) (fun _=>Xd ⟨plainId_quiet F.plain_extend_loop _,key _ c₀ _ (fun b o _ e=>e) hS⟩);refine Xa (wpAny_rule ?_);refine Xa ?_;show wpAny _ _ (updateSeq S (·.push .none) >>= fun _=>updateSeq S (·.pop)) _ _ _;refine Xa (wpAny_updateSeq (s:={ s with toks:=t }) hS rfl ?_)
 have hS₂:=wj (Obj.mapSeq (·.push Value.none)) hS rfl;refine wpAny_updateSeq (hz:=by seq_fits) hS₂ rfl ?_;have hS₃:=wj (Obj.mapSeq (·.pop)) hS₂ rfl;refine Xd ⟨plainId_quiet F.plain_extend_loop _,key _ _ _ (fun b o hb e=>?_) hS₃⟩;exact(wc _ _ (Ne.symm hb)).trans ((wc _ _ (Ne.symm hb)).trans e)
end
section
theorem Wm {Q:List Value->Shared->Prop}{l:Addr} (hh:A.handled=none) (hit:IsRvt s.heap it l ((items.size:Int)-1)) (hl:s.heap.IsTuple l items) (hf:items.size<=2 ^ 24)
  (hQ:∀ (h':Heap) (tk:Nat) (acc:Array Value),(∀ b o,b≠it->s.heap.get? b=some o->h'.get? b=some o)->s.heap.objs.size<=h'.objs.size->ItemsOf (fun i v=>items[items.size-1-i]?=some v) acc items.size->Q acc.toList { s with heap:=h',toks:=tk }) :
  wpAny (model prog w) A (collect (.ref it)) Q E s:=by
 unfold collect;refine Xa (wpAny_runValue (codeAny_builtin F.entry_proto_collect ?_));rw[Around.under_plainId F.plain_proto_collect _];show wpAny _ A.in1 (newList [] >>= fun l=>again (.builtin "list.__iadd__" ⟨[l,.ref it],[]⟩)) _ _ s;refine Xa (XN ?_);refine Xd ⟨plainId_quiet F.plain_list_iadd _,codeAny_builtin F.entry_list_iadd ?_⟩;rw[Around.under_plainId F.plain_list_iadd _];show wpAny _ A.in1 (Builtin.List.listExtendWith (.ref s.heap.objs.size) (.ref it) (.ref s.heap.objs.size)) _ _ _;have hS₁:(s.heap.push { cls:=.type "list",data:=.seq ([]:List Value).toArray }).get? s.heap.objs.size=some { cls:=.type "list",data:=.seq ([]:List Value).toArray }:=Xo _ rfl;have fin:∀ r s',(∃ (h':Heap) (tk:Nat) (acc':Array Value) (c':Nat),r=.ok (.ret (.ref s.heap.objs.size))/\s'={ s with heap:=h',toks:=tk }/\(∀ b o,b≠it->s.heap.get? b=some o->h'.get? b=some o) /\
   h'.get? s.heap.objs.size=some { cls:=.type "list",dict:=none,data:=.seq acc' c',slots:=#[] }/\ItemsOf (fun i v=>items[items.size-1-i]?=some v) acc' items.size) ->
   wants (fun v s'=>wpAny (model prog w) A (match v with
    | .ref a=>do
     match (<- load a).data with
     | .seq xs _=>pure xs.toList
     | _=>unsupported "internal:collect"
    | _=>unsupported "internal:collect") Q E s') E r s':=by
  rintro r s' ⟨h',tk,acc',c',rfl,rfl,kp,hS',hacc⟩;show wpAny _ A (load s.heap.objs.size >>= _) _ _ _;refine Xa (wpAny_load hS' ?_);exact Xd (hQ h' tk acc' kp (Nat.le_of_lt (Xu hS')) hacc)
 refine XW (Zf (A:=A) (s:={ s with heap:=s.heap.push { cls:=.type "list",data:=.seq ([]:List Value).toArray } }) (R:=fun r s'=>∃ (h':Heap) (tk:Nat) (acc':Array Value) (c':Nat),r=.ok (.ret (.ref s.heap.objs.size))/\s'={ s with heap:=h',toks:=tk }/\(∀ b o,b≠it->s.heap.get? b=some o->h'.get? b=some o) /\
   h'.get? s.heap.objs.size=some { cls:=.type "list",dict:=none,data:=.seq acc' c',slots:=#[] }/\ItemsOf (fun i v=>items[items.size-1-i]?=some v) acc' items.size) hh (hit.at fun o e=>Xb _ e) (let ⟨o,ho,r⟩:=hl; ⟨o,Xb _ ho,r⟩) hf _ _ _ hS₁ fun h' tk acc' c' kp hS' hacc=>⟨h',tk,acc',c',rfl,rfl,fun b o hb e=>kp b o (XF (Xu e)) hb (Xb _ e),hS',hacc⟩) (fun f s' h=>?_) (fun e s' h=>?_)
 ·cases f with
  | done f=>exact fin _ _ h
  | again c=>exact ⟨h.1,codeAny_mono h.2 fun r s'' hr=>fin r s'' hr⟩
 ·exact fin _ _ h
theorem J_ {l:Addr} (hh:A.handled=none) (hit:IsRvt s.heap it l ((items.size:Int)-1)) (hl:s.heap.IsTuple l items) (hf:items.size<=2 ^ 24)
  (h:∀ (h':Heap) (tk:Nat) (acc:Array Value),(∀ b o,b≠it->s.heap.get? b=some o->h'.get? b=some o)->s.heap.objs.size<=h'.objs.size->ItemsOf (fun i v=>items[items.size-1-i]?=some v) acc items.size->Q₁ (.ref h'.objs.size) { s with heap:=h'.push { cls:=.type "tuple",data:=.seq acc },toks:=tk }) :
  codeAny (model prog w) A (.call (.builtin "tuple.__new__") ⟨[.type "tuple",.ref it],[]⟩) (wants Q₁ E) s:=by
 refine codeAny_of_tree ?_;show wpAny _ A.in1 (do checkBuiltinCall "tuple.__new__" ⟨[.type "tuple",.ref it],[]⟩; again (.builtin "tuple.__new__" ⟨[.type "tuple",.ref it],[]⟩)) _ _ s;refine Xa (wpAny_of_eq (F.newCall_tuple_1 _) (Xd ⟨plainId_quiet F.plain_tuple_new _,codeAny_builtin F.entry_tuple_new ?_⟩));rw[Around.under_plainId F.plain_tuple_new _];have hsub:=sub_tuple_self;have hinit:=init_tuple_lookup;have hmh:=madeHere_tuple;have hTI:=hit.typeIs;have hh1:A.in1.handled=none:=hh
 wp_walk using wpAny_typeOf hTI,Wm hh1 hit hl hf
 intro h' tk acc hm hz hacc;show wpAny _ _ (Builtin.Tuple.tupleExact acc.toList.toArray >>= fun v=>ret v) _ _ _;unfold Builtin.Tuple.tupleExact;refine Xa (XN ?_ (by show acc.toList.toArray.size<=sizeLine; simp only[Array.toArray_toList]; rw[hacc.1,XH]; exact hf));refine Xd ?_;have e:acc.toList.toArray=acc:=by simp
 rw[e];exact h h' tk acc hm hz hacc
theorem Qa {l:Addr} (hh:A.handled=none) (hit:IsRvt s.heap it l ((items.size:Int)-1)) (hl:s.heap.IsTuple l items) (hf:items.size<=2 ^ 24)
  (hQ:∀ (h':Heap) (tk:Nat) (acc:Array Value),(∀ b o,b≠it->s.heap.get? b=some o->h'.get? b=some o)->s.heap.objs.size<=h'.objs.size->ItemsOf (fun i v=>items[items.size-1-i]?=some v) acc items.size->Q (.ref h'.objs.size) { s with heap:=h'.push { cls:=.type "tuple",data:=.seq acc },toks:=tk }) :
  wpAny (model prog w) A (call (.type "tuple") [.ref it]) Q E s:=by
 refine callType_codes (Q₁:=fun obj s₁=>s₁.TypeIs obj "tuple"/\Q obj s₁) F.called_tuple (F.typeCall_tuple_1 _) F.entry_object_init
  (J_ (A:=A.in1) hh hit hl hf fun h' tk acc hm hz hacc=>⟨⟨_,Xo _ rfl,rfl⟩,hQ h' tk acc hm hz hacc⟩) fun obj s₁ h₁=>?_
 exact⟨h₁.1,F.args_object_init_2 obj _,object_init_meets F.called_tuple.init.lookup F.called_tuple.made (by decide) prog w A.in1 _ s₁ ⟨h₁.1,rfl,h₁.2⟩⟩
end
section
theorem Zg {a:Expr}{p2 pos2:Pos} (hc:X.calm=true) (hg:Gl X "tuple") (hm:X.mg "tuple"=none) (hg2:Gl X "reversed") (hm2:X.mg "reversed"=none) (ha:PE X a te)
  (hs:starEach [Expr.Call (.Name "reversed" p2) [a] [] pos2] X.env=[(false,eval (Expr.Call (.Name "reversed" p2) [a] [] pos2) X.env)]:=by rfl) (hs2:starEach [a] X.env=[(false,eval a X.env)]:=by rfl) :
  PE X (.Call (.Name "tuple" p) [.Call (.Name "reversed" p2) [a] [] pos2] [] pos) (fun σ H Q=>te σ H fun v H1=>∃ q xs,v=.ref q/\SqT X.K H1 q xs/\∀ l,H1 l=none->Q (.ref l) (upd H1 l (.tup xs.reverse))):=by
 intro pins s σ H Q I h;refine Call_ (zN I hg hm (u:=.type "tuple") (by kernel_rfl) (wr ?_ hs rfl));rw[hs];show wpAny _ _ (spliced ((false,eval (Expr.Call (.Name "reversed" p2) [a] [] pos2) X.env)::[])) _ _ s;refine Calls.spliced_cons (Call_ (zN I hg2 hm2 boot_reversed (wr ?_ hs2 rfl)));rw[hs2];show wpAny _ _ (spliced ((false,eval a X.env)::[])) _ _ s;refine Calls.spliced_cons (thn (ha pins s σ H _ I h) fun u s1 ⟨v,H1,I1,r1,q1⟩=>Calls.spliced_nil ?_);obtain⟨q,xs,rfl,hq,k⟩:=q1;cases r1;obtain⟨its,rv,pl,hz⟩:=I1.tuple hq;have hlen:=rv.length;rw[XH] at hz;have hz':its.toArray.size<=2 ^ 24:=by rw[Xs,<- hlen]; exact hz
 refine jc_ pl (by omega) (Calls.spliced_nil ?_);refine Qa (s:={ s1 with heap:=s1.heap.push (Vp q ((its.toArray.size:Int)-1)),toks:=s1.toks+1+1 }) (items:=its.toArray) (I1.ok.hd hc) ⟨_,Xo _ rfl,rfl,rfl⟩ (let ⟨o,ho,r⟩:=pl; ⟨o,Xb _ ho,r⟩) hz' fun h' tk acc kp ge hacc=>?_
 have hS:(s1.heap.push (Vp q (((its.toArray.size:Nat):Int)-1))).objs.size=s1.heap.objs.size+1:=by simp[Heap.push]
 have ge':s1.heap.objs.size<=h'.objs.size:=by
  have ge:(s1.heap.push (Vp q (((its.toArray.size:Nat):Int)-1))).objs.size<=h'.objs.size:=ge;omega
 refine⟨.ref _,_,I1.laid (o:=.tup xs.reverse) (t':=tk) (fun b o eb=>Xb _ (kp b o (fun z=>?_) (Xb _ eb))) ge' ⟨by rw[wE,XH]; exact hz,acc.toList,?_,⟨_,Xo _ rfl,⟨rfl,rfl⟩,0,congrArg (fun z=>Data.seq z 0) (by simp)⟩⟩,rfl,k _ (I1.hok.fresh ge')⟩
 ·rw[z] at eb; exact wJ _ (Xu eb)
 ·refine GS (by have h0:acc.size=its.toArray.size:=hacc.1; rw[Xs] at h0; rw[wE,wG,h0]; exact hlen) fun i x v hx hv=>?_;have h1:=hacc.2 i v (by simpa using hv);have hi:i<xs.length:=by
   have:=(List.getElem?_eq_some_iff.mp hx).1;simpa using this
  rw[List.getElem?_reverse hi] at hx;have h2:its[its.length-1-i]?=some v:=by simpa using h1
  rw[<- hlen] at h2;obtain⟨u,e1,e2⟩:=rv.get hx;rw[h2] at e1;cases e1;exact e2
end
end L2
namespace L3
open PySem PySem.Spec L2
section
variable {F:Hp}{t:TE} 
theorem Zh (h:Ev K σ F H t (rF (cT c)) m) (e':mm_=(m.bind fun l=>some l.reverse)) :
  Ev K σ F H (fun σ H Q=>t σ H fun v H1=>∃ q xs,v=.ref q/\SqT K H1 q xs/\∀ l,H1 l=none->Q (.ref l) (upd H1 l (.tup xs.reverse))) (rF (cT c)) mm_:=by
 subst e';intro F1 H1 E z e Q k;obtain⟨l,el,e⟩:=bind_some e;cases e;refine h F1 H1 E l el _ fun v F2 H2 E2 hv=>?_;obtain⟨a,xs,rfl,h1,h2⟩:=hv;exact⟨a,xs,rfl,SqT.of (E2.sub _ _ h1),fun p hp=>k _ _ _ (E2.trans (Ext.newF E2.sub hp)) ⟨p,xs.reverse,rfl,jB,Qz (Paired.mapP h2 fun _ _ r=>c.mono (kn (E2.sub.free hp)) r)⟩⟩
theorem Vr (h:Ev K σ F H t (rF (cT c)) (some l)) (e':mm_=some l.reverse) :
  Ev K σ F H (fun σ H Q=>t σ H fun v H1=>∃ q xs,v=.ref q/\SqT K H1 q xs/\∀ l,H1 l=none->Q (.ref l) (upd H1 l (.tup xs.reverse))) (rF (cT c)) mm_:=Zh h e'
end
section
variable [DecidableEq κ] [Kk κ] {F:Hp}{t:TE} 
theorem jg2 {m:Option (List (κ×α))} (h:Ev K σ F H t (rD c) m):Ev K σ F H t (pD c).rs m:=Jc h (fun _ ⟨a,xs,h0,_,_,h3,h4⟩=>⟨a,xs,h0,h3,h4⟩)
theorem jfB {l r:List (κ×α)} (hi:σ[i]?=some (some (.ref a))) (o:OwnD K He F H c l a) (X:Ext Fe He F H) (hm:some l=some r) (k:∀ v F' H',Ext Fe He F' H'->(rD c).rel K He F' H' r v->D.rt v H'):jgi (GM i) D σ H:=by
 cases hm;obtain⟨xs,h1,h2⟩:=o.h;exact⟨_,hi,k _ F H X ⟨a,xs,rfl,o.e,o.f,h1,h2⟩⟩
end
def jg3 (K:W.Frag) (CT:Addr) (p:Addr×Option Addr):Bool:=
 yU K p.1 p.2&&jfl K p.1 CT&&(W.clsIn K p.1).any (fun cd=>Vi cd.mro)&&W.hasDictIn K p.1 &&
 (W.findIn K (.ref p.1) "__getattribute__"==some (some (.builtin "BaseException.__getattribute__")))&&(W.findIn K (.ref p.1) "__getattr__"==some none) &&
 (W.findIn K (.ref p.1) "__class__"==some (some (.builtin "object.__class__")))&&(W.mroIn K p.1 (.type "object")==some true) &&
 (W.findIn K (.ref p.1) "__setattr__"==some (some (.builtin "object.__setattr__")))&&W.keepIn K (.ref p.1)
def Wp (K:W.Frag) (CT:Addr) (es:List (Addr×Option Addr)):Bool:=
 es.all (jg3 K CT)&&(W.specialIn K (.builtin "object.__class__") "__get__"==some (some (.builtin "getset_descriptor.__get__")))&&(W.takesIn K (.builtin "object.__class__")==some true)
def Wq (K:W.Frag) (es:List (Addr×Option Addr)) (cv:Value) (ks:List Nat):Bool:=es.zipIdx.all fun z=>W.kitOne K (.ref z.1.1) cv==some (decide (z.2∈ks))
structure XFacts (K:W.Frag) (CT C:Addr) (fo:Option Addr):Prop where
 exc:yU K C fo=true
 sub:jfl K C CT=true
 is:XIs K C
 cls:XCls K C
 kp:W.keepIn K (.ref C)=true
theorem QD {es:List (Addr×Option Addr)} (h:Wp K CT es=true) {p:Addr×Option Addr} (hp:p∈es):XFacts K CT p.1 p.2:=by
 unfold Wp at h;rw[X6,X6,wg] at h;obtain⟨⟨h1,h2⟩,h3⟩:=h;have c:=h1 p hp;unfold jg3 at c;simp only[X6,wD] at c h2 h3;obtain⟨⟨⟨⟨⟨⟨⟨⟨⟨c1,c2⟩,c3⟩,c4⟩,c5⟩,c6⟩,c7⟩,c8⟩,c9⟩,c10⟩:=c;exact⟨c1,c2,⟨⟨c3,c4,c5,c6⟩,c7,h2,h3,c8⟩,⟨c3,c4,c9⟩,c10⟩
theorem jg4 {es:List (Addr×Option Addr)} (h:((es.zip nss).map fun z=>(z.1.1,z.2))[i]?=some (C,ns)):∃ fo,es[i]?=some (C,fo)/\nss[i]?=some ns:=by
 rw[Xt] at h;obtain⟨⟨⟨a,fo⟩,b⟩,e,r⟩:=Option.map_eq_some_iff.mp h;obtain⟨e1,e2⟩:=List.getElem?_zip_eq_some.mp e;cases r;exact⟨fo,e1,e2⟩
theorem jfC {es:List (Addr×Option Addr)} (h:Wp K CT es=true):jfp K CT ((es.zip nss).map fun z=>(z.1.1,z.2)):=fun i C ns e=>by
 obtain⟨fo,e1,_⟩:=jg4 e;have f:=QD h (XA e1);exact⟨fo,f.exc,f.sub⟩
theorem ja_ {es:List (Addr×Option Addr)} (h:Wp K CT es=true) (h2:Wq K es cv ks=true):jd6 K ((es.zip nss).map fun z=>(z.1.1,z.2)) cv ks:=fun i C ns e=>by
 obtain⟨fo,e1,_⟩:=jg4 e;refine⟨(QD h (XA e1)).is,?_⟩;unfold Wq at h2;rw[wg] at h2;have:=h2 ((C,fo),i) (by
  rw[List.mem_iff_getElem?];exact⟨i,by rw[List.getElem?_zipIdx,e1]; simp⟩)
 exact wD.mp this
theorem jfD {es:List (Addr×Option Addr)}{k:Nat}{f:Str} (h:Wp K CT es=true) (he:es[k]?=some (C,fo)) (hn:nss[k]?=some ns) (hf:W.findIn K (.ref C) f=some none) (hd:ns.Nodup) (hi:ns[i]?=some f):jgS K ((es.zip nss).map fun z=>(z.1.1,z.2)) k i f:=by
 refine⟨C,ns,?_,(QD h (XA he)).is.toXGet,hf,hd,hi⟩;rw[Xt,List.getElem?_zip_eq_some (z:=((C,fo),ns)) |>.mpr ⟨he,hn⟩]
 rfl
end L3
namespace L2
open PySem PySem.Spec PyProof.Rows
section
variable {r:Addr}{a b c:Int}{t u v:Tok} 
theorem Ui {Q:List Value->Shared->Prop} (hh:A.handled=none) (hr:IsRange s.heap r a b c t u v) (hsmall:Builtin.Range.small a b c=true) (hn:Builtin.Range.rangeSize a b c=n) (hlen:n<=2 ^ 24)
  (hQ:∀ (h':Heap) (tk:Nat) (acc:Array Value),(∀ b o,s.heap.get? b=some o->h'.get? b=some o)->s.heap.objs.size<=h'.objs.size->ItemsOf (fun i v=>∃ t,v=.int (a+i * c) t) acc n->Q acc.toList { s with heap:=h',toks:=tk }) :
  wpAny (model prog w) A (collect (.ref r)) Q E s:=by
 unfold collect;refine Xa (wpAny_runValue (codeAny_builtin F.entry_proto_collect ?_));rw[Around.under_plainId F.plain_proto_collect _];show wpAny _ A.in1 (newList [] >>= fun l=>again (.builtin "list.__iadd__" ⟨[l,.ref r],[]⟩)) _ _ s;refine Xa (XN ?_);refine Xd ⟨plainId_quiet F.plain_list_iadd _,codeAny_builtin F.entry_list_iadd ?_⟩;rw[Around.under_plainId F.plain_list_iadd _];show wpAny _ A.in1 (Builtin.List.listExtendWith (.ref s.heap.objs.size) (.ref r) (.ref s.heap.objs.size)) _ _ _;have hS₁:(s.heap.push { cls:=.type "list",data:=.seq ([]:List Value).toArray }).get? s.heap.objs.size=some { cls:=.type "list",data:=.seq ([]:List Value).toArray }:=Xo _ rfl;have fin:∀ x s',(∃ (h':Heap) (tk:Nat) (acc':Array Value) (c':Nat),x=.ok (.ret (.ref s.heap.objs.size))/\s'={ s with heap:=h',toks:=tk }/\(∀ b o,s.heap.get? b=some o->h'.get? b=some o) /\
   h'.get? s.heap.objs.size=some { cls:=.type "list",dict:=none,data:=.seq acc' c',slots:=#[] }/\ItemsOf (fun i v=>∃ t,v=.int (a+i * c) t) acc' n) ->
   wants (fun v s'=>wpAny (model prog w) A (match v with
    | .ref a=>do
     match (<- load a).data with
     | .seq xs _=>pure xs.toList
     | _=>unsupported "internal:collect"
    | _=>unsupported "internal:collect") Q E s') E x s':=by
  rintro x s' ⟨h',tk,acc',c',rfl,rfl,kp,hS',hacc⟩;show wpAny _ A (load s.heap.objs.size >>= _) _ _ _;refine Xa (wpAny_load hS' ?_);exact Xd (hQ h' tk acc' kp (Nat.le_of_lt (Xu hS')) hacc)
 refine XW (wpAny_extend_range (A:=A) (s:={ s with heap:=s.heap.push { cls:=.type "list",data:=.seq ([]:List Value).toArray } }) (R:=fun x s'=>∃ (h':Heap) (tk:Nat) (acc':Array Value) (c':Nat),x=.ok (.ret (.ref s.heap.objs.size))/\s'={ s with heap:=h',toks:=tk }/\(∀ b o,s.heap.get? b=some o->h'.get? b=some o) /\
   h'.get? s.heap.objs.size=some { cls:=.type "list",dict:=none,data:=.seq acc' c',slots:=#[] }/\ItemsOf (fun i v=>∃ t,v=.int (a+i * c) t) acc' n) hh (Xb _ hr) hsmall hn hlen _ _ _ hS₁ fun h' tk acc' c' kp hS' hacc=>⟨h',tk,acc',c',rfl,rfl,fun b o e=>kp b o (XF (Xu e)) (Xb _ e),hS',hacc⟩) (fun f s' h=>?_) (fun e s' h=>?_)
 ·cases f with
  | done f=>exact fin _ _ h
  | again c=>exact ⟨h.1,codeAny_mono h.2 fun r s'' hr=>fin r s'' hr⟩
 ·exact fin _ _ h
theorem GP (hh:A.handled=none) (hr:IsRange s.heap r a b c t u v) (hsmall:Builtin.Range.small a b c=true) (hn:Builtin.Range.rangeSize a b c=n) (hlen:n<=2 ^ 24)
  (h:∀ (h':Heap) (tk:Nat) (acc:Array Value),(∀ b o,s.heap.get? b=some o->h'.get? b=some o)->s.heap.objs.size<=h'.objs.size->ItemsOf (fun i v=>∃ t,v=.int (a+i * c) t) acc n->Q₁ (.ref h'.objs.size) { s with heap:=h'.push { cls:=.type "tuple",data:=.seq acc },toks:=tk }) :
  codeAny (model prog w) A (.call (.builtin "tuple.__new__") ⟨[.type "tuple",.ref r],[]⟩) (wants Q₁ E) s:=by
 refine codeAny_of_tree ?_;show wpAny _ A.in1 (do checkBuiltinCall "tuple.__new__" ⟨[.type "tuple",.ref r],[]⟩; again (.builtin "tuple.__new__" ⟨[.type "tuple",.ref r],[]⟩)) _ _ s;refine Xa (wpAny_of_eq (F.newCall_tuple_1 _) (Xd ⟨plainId_quiet F.plain_tuple_new _,codeAny_builtin F.entry_tuple_new ?_⟩));rw[Around.under_plainId F.plain_tuple_new _];have hsub:=sub_tuple_self;have hinit:=init_tuple_lookup;have hmh:=madeHere_tuple;have hTI:s.TypeIs (.ref r) "range":=⟨_,hr,rfl⟩;have hh1:A.in1.handled=none:=hh
 wp_walk using wpAny_typeOf hTI,Ui hh1 hr hsmall hn hlen
 intro h' tk acc hm hz hacc;show wpAny _ _ (Builtin.Tuple.tupleExact acc.toList.toArray >>= fun v=>ret v) _ _ _;unfold Builtin.Tuple.tupleExact;refine Xa (XN ?_ (by show acc.toList.toArray.size<=sizeLine; simp only[Array.toArray_toList]; rw[hacc.1,XH]; exact hlen));refine Xd ?_;have e:acc.toList.toArray=acc:=by simp
 rw[e];exact h h' tk acc hm hz hacc
theorem GQ (hh:A.handled=none) (hr:IsRange s.heap r a b c t u v) (hsmall:Builtin.Range.small a b c=true) (hn:Builtin.Range.rangeSize a b c=n) (hlen:n<=2 ^ 24)
  (hQ:∀ (h':Heap) (tk:Nat) (acc:Array Value),(∀ b o,s.heap.get? b=some o->h'.get? b=some o)->s.heap.objs.size<=h'.objs.size->ItemsOf (fun i v=>∃ t,v=.int (a+i * c) t) acc n->Q (.ref h'.objs.size) { s with heap:=h'.push { cls:=.type "tuple",data:=.seq acc },toks:=tk }) :
  wpAny (model prog w) A (call (.type "tuple") [.ref r]) Q E s:=by
 refine callType_codes (Q₁:=fun obj s₁=>s₁.TypeIs obj "tuple"/\Q obj s₁) F.called_tuple (F.typeCall_tuple_1 _) F.entry_object_init
  (GP (A:=A.in1) hh hr hsmall hn hlen fun h' tk acc hm hz hacc=>⟨⟨_,Xo _ rfl,rfl⟩,hQ h' tk acc hm hz hacc⟩) fun obj s₁ h₁=>?_
 exact⟨h₁.1,F.args_object_init_2 obj _,object_init_meets F.called_tuple.init.lookup F.called_tuple.made (by decide) prog w A.in1 _ s₁ ⟨h₁.1,rfl,h₁.2⟩⟩
end
section
theorem Qb (hc:X.calm=true):zw X (.type "tuple") (fun xs H Q=>∃ p lo hi,xs=[.ref p]/\H p=some (.rng lo hi)/\(-(2 ^ 62)<=lo/\lo<2 ^ 62/\-(2 ^ 62)<=hi/\hi<2 ^ 62)/\(hi-lo).toNat<=2 ^ 24/\∀ l,H l=none->Q (.ref l) (upd H l (.tup ((xV lo hi).map V.int)))):=by
 intro pins s σ H xs us Q I r h;obtain⟨p,lo,hi,rfl,hp,⟨b1,b2,b3,b4⟩,hn,q⟩:=h;obtain⟨u,rfl,rx⟩:=YC r;cases rx;obtain⟨t,u,v,e⟩:=I.hok p _ hp;refine GQ (n:=(hi-lo).toNat) (I.ok.hd hc) e ?_ ?_ hn fun h' tk acc' kp ge hacc=>?_
 ·exact small_one b1 b2 b3 b4
 ·unfold Builtin.Range.rangeSize;simp;split <;> omega
 ·refine⟨.ref h'.objs.size,_,I.laid (o:=.tup ((xV lo hi).map V.int)) (t':=tk) (fun b o eb=>Xb _ (kp b o eb)) ge ⟨?_,acc'.toList,?_,⟨_,Xo _ rfl,⟨rfl,rfl⟩,0,congrArg (fun z=>Data.seq z 0) (by simp)⟩⟩,rfl,q _ (I.hok.fresh ge)⟩
  ·rw[Xp,xV,Xp,Xz,XH];exact hn
  ·refine GS (by rw[Xp,xV,Xp,Xz,wG,hacc.1]) fun i x v hx hv=>?_;rw[Xt] at hx;unfold xV at hx;rw[Xt] at hx;cases hr:(List.range (hi-lo).toNat)[i]? with
   | none=>rw[hr] at hx; cases hx
   | some k=>
    rw[hr] at hx;have hk:k=i:=by
     obtain⟨h1,h2⟩:=List.getElem?_eq_some_iff.mp hr;simpa using h2.symm
    subst hk;cases hx;obtain⟨tk',e2⟩:=hacc.2 k v (by simpa using hv);exact⟨tk',by rw[e2,Int.mul_one]⟩
end
end L2
namespace L3
open PySem PySem.Spec L2
section
variable {F:Hp}{t:TE}
theorem jba {mm_:Option (List Int)}{m:Option Int} (h:Ev K σ F H t (rF cI) m) (e':mm_=(m.bind fun n=>Jk n)) :
  Ev K σ F H (tCB (fun xs H Q=>∃ p lo hi,xs=[.ref p]/\H p=some (.rng lo hi)/\(-(2 ^ 62)<=lo/\lo<2 ^ 62/\-(2 ^ 62)<=hi/\hi<2 ^ 62)/\(hi-lo).toNat<=2 ^ 24/\∀ l,H l=none->Q (.ref l) (upd H l (.tup ((xV lo hi).map V.int))))
   (jF (fun σ H Q=>(jF t qD) σ H fun vs H1=>∃ j:Int,vs=[.int j]/\∀ x,H1 x=none->Q (.ref x) (upd H1 x (.rng 0 j))) qD)) (rF (cT cI)) mm_:=by
 subst e';intro F1 H1 E z e Q k;obtain⟨n,en,e⟩:=bind_some e;unfold Jk at e;obtain⟨⟨⟨h1,h2⟩,h3⟩,rfl⟩:=ki e;refine h F1 H1 E n en _ fun v F2 H2 E2 hv=>?_;have ev:v=.int n:=hv;subst ev;refine⟨n,rfl,fun x hx=>⟨x,0,n,rfl,jB,⟨by omega,by omega,h1,h2⟩,by omega,fun l hl=>?_⟩⟩;have E3:Ext F2 H2 F2 (upd H2 x (.rng 0 n)):=Ext.newO E2.sub hx;exact k _ _ _ (E2.trans (E3.trans (Ext.newF E3.sub hl))) ⟨l,_,rfl,jB,yi (yR 0 n)⟩
theorem Wr {mm_:Option (List Int)}{n:Int} (h:Ev K σ F H t (rF cI) (some n)) (e':mm_=Jk n) :
  Ev K σ F H (tCB (fun xs H Q=>∃ p lo hi,xs=[.ref p]/\H p=some (.rng lo hi)/\(-(2 ^ 62)<=lo/\lo<2 ^ 62/\-(2 ^ 62)<=hi/\hi<2 ^ 62)/\(hi-lo).toNat<=2 ^ 24/\∀ l,H l=none->Q (.ref l) (upd H l (.tup ((xV lo hi).map V.int))))
   (jF (fun σ H Q=>(jF t qD) σ H fun vs H1=>∃ j:Int,vs=[.int j]/\∀ x,H1 x=none->Q (.ref x) (upd H1 x (.rng 0 j))) qD)) (rF (cT cI)) mm_:=jba h e'
end
end L3
namespace L2
open PySem PySem.Spec PyProof.Rows
abbrev TJ:=St->Hp->Str->(Str->Hp->Prop)->Prop
def PJ (X:Cx) (es:List Expr) (t:TJ):Prop:=
 ∀ (pins:List (Addr×Obj)) (s:Shared) (σ:St) (H:Hp) (acc:Str) (Q:Str->Hp->Prop),Inv X pins σ H s->t σ H acc Q ->
  Joins (model X.prog X.w) X.A X.xe (evalEach es X.env) acc (fun out s1=>∃ H1,Inv X pins σ H1 s1/\Q out H1) s
def jiU:TJ:=fun _ H acc Q=>Q acc H
def jiV (x:Str) (r:TJ):TJ:=fun σ H acc Q=>(acc++x).length<=sizeLine/\r σ H (acc++x) Q
def jiW (te:TE) (r:TJ):TJ:=fun σ H acc Q=>te σ H fun v H1=>∃ i:Int,v=.int i/\i.natAbs.log2<1920/\(acc++(toString i:Str)).length<=sizeLine/\r σ H1 (acc++(toString i:Str)) Q
def jg5 (t:TJ):TE:=fun σ H Q=>t σ H Str.empty fun out H1=>out.length<=sizeLine/\Q (.str out) H1
section
variable {a b:Expr}{t:TJ} 
theorem jeb:PJ X [] jiU:=fun _ _ _ H _ _ I h=>⟨H,I,h⟩
theorem Yi {j} (r:PJ X es t):PJ X (.Constant (.str x) j pos::es) (jiV x t):=by
 intro pins s σ H acc Q I h;show wpAny _ _ (eval (.Constant (.str x) j pos) X.env) _ _ s;exact Calls.Constant_str ⟨x,_,rfl,h.1,r pins _ σ H _ Q (I.tok _) h.2⟩
theorem jec (he:PE X e te) (r:PJ X es t):PJ X (.FormattedValue e (-1) none pos::es) (jiW te t):=by
 intro pins s σ H acc Q I h;show wpAny _ _ (eval (.FormattedValue e (-1) none pos) X.env) _ _ s;refine wpAny_FormattedValue_plain (thn (he pins s σ H _ I h) fun v s1 ⟨w,H1,I1,rw_,i,ew,hd,hl,q⟩=>?_);subst ew;obtain⟨tk,rfl⟩:=rw_;exact wpAny_formatField_int hd ⟨_,_,rfl,hl,r pins _ σ H1 _ Q ((I1.tok _).tok _) q⟩
theorem QE {Q Q':Str->Shared->Prop} (k:∀ out s,Q out s->Q' out s):∀ (l:List (Sem Value)) (acc:Str) (s:Shared),Joins M A E l acc Q s->Joins M A E l acc Q' s
 | [],acc,s,h=>k acc s h
 | x::r,acc,s,h=>XW h (fun v s1 ⟨y,t,e,hl,hr⟩=>⟨y,t,e,hl,QE k r _ s1 hr⟩) fun _ _ z=>z
theorem jbb (h:PJ X (a::b::es) t):PE X (.JoinedStr (a::b::es) pos) (jg5 t):=by
 intro pins s σ H Q I hq;refine wpAny_JoinedStr ?_;have:=h pins s σ H Str.empty _ I hq;exact QE (fun out s1 ⟨H1,I1,hl,q⟩=>⟨hl,⟨.str out,H1,I1.tok _,⟨_,rfl⟩,q⟩⟩) _ _ _ this
end
end L2
namespace L3
open PySem PySem.Spec L2
@[irreducible] def jf8 (i:Int):Option Str:=if i.natAbs.log2<1920 then some (toString i:Str) else none
@[irreducible] def zE (a b:Str):Option Str:=if a.length+b.length<=sizeLine then some (a++b) else none
section
variable {F:Hp}{t tb:TE}{ma mb:Option Str} 
@[irreducible] def jf9 (a:Str):Option Str:=if a.length<=sizeLine then some a else none
def EvJ (K:W.Frag) (σ:St) (F H:Hp) (t:TJ) (m:Str->Option Str):Prop:=
 ∀ F1 H1,Ext F H F1 H1->∀ acc out,m acc=some out->∀ Q:Str->Hp->Prop,(∀ F2 H2,Ext F1 H1 F2 H2->out.length<=sizeLine->Q out H2)->t σ H1 acc Q
theorem jed:EvJ K σ F H jiU (fun acc=>jf9 acc):=fun F1 H1 E acc out h Q k=>by
 unfold jf9 at h;obtain⟨hd,rfl⟩:=ki h;exact k F1 H1 (Ext.refl E.sub) hd
theorem Yj {r:TJ}{m:Str->Option Str} (h:EvJ K σ F H r m):EvJ K σ F H (jiV x r) (fun acc=>(zE acc x).bind m):=fun F1 H1 E acc out e Q k=>by
 obtain⟨a,ea,e⟩:=bind_some e;unfold zE at ea;obtain⟨hl,rfl⟩:=ki ea;exact⟨by rw[strLen_append]; exact hl,h F1 H1 E _ out e Q k⟩
theorem jee {r:TJ}{m:Str->Option Str} (hi:Ev K σ F H t (rF cI) mi) (h:EvJ K σ F H r m):EvJ K σ F H (jiW t r) (fun acc=>mi.bind fun i=>(jf8 i).bind fun y=>(zE acc y).bind m):=fun F1 H1 E acc out e Q k=>by
 obtain⟨i,ei,e⟩:=bind_some e;obtain⟨y,ey,e⟩:=bind_some e;obtain⟨a,ea,e⟩:=bind_some e;refine hi F1 H1 E i ei _ fun v F2 H2 E2 hv=>?_;obtain rfl:v=.int i:=hv;unfold jf8 at ey;unfold zE at ea;obtain⟨hd,rfl⟩:=ki ey;obtain⟨hl,rfl⟩:=ki ea;exact⟨i,rfl,hd,by rw[strLen_append]; exact hl,h F2 H2 (E.trans E2) _ out e Q fun F3 H3 E3=>k F3 H3 (E2.trans E3)⟩
theorem jbc {r:TJ}{m:Str->Option Str} (h:EvJ K σ F H r m) {mm_:Option Str} (e':mm_=m Str.empty):Ev K σ F H (jg5 r) (rF cS) mm_:=by
 subst e';intro F1 H1 E out e Q k;exact h F1 H1 E Str.empty out e _ fun F2 H2 E2 hl=>⟨hl,k _ F2 H2 E2 rfl⟩
end
end L3
namespace L2
open PySem
theorem jdb {xs:Array Nat} (h:Up xs) {v:Nat} (hv:xs[i]?=some v):SetTable.below xs v=i:=by
 obtain⟨c1,c2,c3⟩:=jaR h v;obtain⟨hi,_⟩:=Array.getElem?_eq_some_iff.mp hv;generalize SetTable.below xs v=p at *;rcases Nat.lt_trichotomy p i with q | q | q
 ·have hp:p<xs.size:=by omega
  have e:=Array.getElem?_eq_getElem hp;have a:=c3 p _ (Xh _) e;have b:=h.lt q e hv;omega
 ·exact q
 ·have:=c2 i v q hv;omega
structure T7 (t:SetTable) (es:Array (Int×Value)) (v:Nat->Option (Int×Value)):Prop where
 mask:t.mask=7
 dum:t.dummies=#[]
 up:Up t.place
 sz:t.place.size=es.size
 lt:∀ (i j:Nat),t.place[i]?=some j->j<8
 at_:∀ (i j:Nat),t.place[i]?=some j->v j=es[i]?
 no:∀ j,(∀ i:Nat,t.place[i]?≠some j)->v j=none
section
variable {t:SetTable}{es:Array (Int×Value)}{v:Nat->Option (Int×Value)}
theorem T7.live (T:T7 t es v) {e:Int×Value} (h:v j=some e):∃ i,t.slot j=.live i/\es[i]?=some e:=by
 by_cases q:∃ i:Nat,t.place[i]?=some j
 ·obtain⟨i,hi⟩:=q;refine⟨i,?_,by rw[<- T.at_ i j hi]; exact h⟩;unfold SetTable.slot;dsimp only;rw[jdb T.up hi,hi];simp
 ·rw[T.no j (fun i hi=>q ⟨i,hi⟩)] at h; cases h
theorem T7.free (T:T7 t es v) (h:v j=none):t.slot j=.empty:=by
 have n:∀ i:Nat,t.place[i]?≠some j:=fun i hi=>by
  have:=T.at_ i j hi;rw[h] at this;obtain⟨q,_⟩:=Array.getElem?_eq_some_iff.mp hi;rw[T.sz] at q;rw[Array.getElem?_eq_getElem q] at this;cases this
 unfold SetTable.slot;dsimp only;have e:(t.place[SetTable.below t.place j]?==some j)=false:=by
  rw[beq_eq_false_iff_ne]; exact n _
 rw[e,T.dum];simp[SetTable.has]
def pth (h:Int):Nat->Nat×Nat
 | 0=>(SetTable.bits h % 8,SetTable.bits h)
 | k+1=>SetTable.leap 7 (pth h k).1 (pth h k).2
def yK (h:Int) (k:Nat):Nat:=(pth h k).1
def prb (h:Int) (k:Nat):SetTable.Probe:=⟨(pth h k).1,0,(pth h k).1,(pth h k).2,none⟩
theorem jfE (h:Int) (k:Nat):yK h k<8:=by
 unfold yK;cases k with
 | zero=>exact Nat.mod_lt _ (by decide)
 | succ k=>exact Nat.mod_lt _ (by decide)
theorem jfF (i:Nat):SetTable.runEnd 7 i-i=0:=by
 unfold SetTable.runEnd;rw[if_neg (by omega)];omega
theorem T7.adv (T:T7 t es v) (h:Int) (k:Nat):t.advance (prb h k)=prb h (k+1):=by
 unfold SetTable.advance;rw[if_neg (by show ¬ (0:Nat) > 0; omega),T.mask];show SetTable.Probe.mk _ (SetTable.runEnd 7 _-_) _ _ _=_;rw[jfF];rfl
theorem jg6 (h:Int):∀ k,(pth h k).2=SetTable.bits h / 32 ^ k
 | 0=>by show SetTable.bits h=_; rw[Nat.pow_zero,Nat.div_one]
 | k+1=>by
  show (pth h k).2 / 32=_;rw[jg6 h k,Nat.div_div_eq_div_mul,Nat.pow_succ]
theorem jfG (h:Int):SetTable.bits h<2 ^ 64:=by
 unfold SetTable.bits;have h1:0<=h % (2 ^ 64:Int):=Int.emod_nonneg _ (by decide);have h2:h % (2 ^ 64:Int)<2 ^ 64:=Int.emod_lt_of_pos _ (by decide);omega
theorem jdc (h:Int) (k:Nat):(pth h (13+k)).2=0:=by
 rw[jg6];refine Nat.div_eq_of_lt (Xx (jfG h) ?_)
 calc 2 ^ 64<=32 ^ 13:=by decide
  _<=32 ^ (13+k):=Nat.pow_le_pow_right (by decide) (by omega)
def nx7 (i:Nat):Nat:=(i * 5+1) % 8
theorem zF (h:Int) (k:Nat):yK h (13+(k+1))=nx7 (yK h (13+k)):=by
 show (SetTable.leap 7 (pth h (13+k)).1 (pth h (13+k)).2).1=_;rw[jdc];rfl
theorem ji7:∀ i<8,∀ j<8,j=i \/ j=nx7 i \/ j=nx7 (nx7 i) \/ j=nx7 (nx7 (nx7 i)) \/ j=nx7 (nx7 (nx7 (nx7 i))) \/ j=nx7 (nx7 (nx7 (nx7 (nx7 i)))) \/ j=nx7 (nx7 (nx7 (nx7 (nx7 (nx7 i))))) \/ j=nx7 (nx7 (nx7 (nx7 (nx7 (nx7 (nx7 i)))))):=by decide
theorem jfH (h:Int) (hj:j<8):∃ k,k<21/\yK h k=j:=by
 have:=ji7 (yK h 13) (jfE h 13) j hj;have e1:yK h 14=nx7 (yK h 13):=zF h 0;have e2:yK h 15=nx7 (yK h 14):=zF h 1;have e3:yK h 16=nx7 (yK h 15):=zF h 2;have e4:yK h 17=nx7 (yK h 16):=zF h 3;have e5:yK h 18=nx7 (yK h 17):=zF h 4;have e6:yK h 19=nx7 (yK h 18):=zF h 5;have e7:yK h 20=nx7 (yK h 19):=zF h 6;rw[<- e1,<- e2,<- e3,<- e4,<- e5,<- e6,<- e7] at this;rcases this with q | q | q | q | q | q | q | q
 ·exact⟨13,by omega,q.symm⟩
 ·exact⟨14,by omega,q.symm⟩
 ·exact⟨15,by omega,q.symm⟩
 ·exact⟨16,by omega,q.symm⟩
 ·exact⟨17,by omega,q.symm⟩
 ·exact⟨18,by omega,q.symm⟩
 ·exact⟨19,by omega,q.symm⟩
 ·exact⟨20,by omega,q.symm⟩
theorem T7.room (T:T7 t es v) (hs:es.size<8):∃ j,j<8/\v j=none:=by
 refine Classical.byContradiction fun q=>?_;have all:∀ j,j<8->j∈t.place.toList:=fun j hj=>by
  cases e:v j with
  | none=>exact absurd ⟨j,hj,e⟩ q
  | some x=>
   by_cases z:∃ i:Nat,t.place[i]?=some j
   ·obtain⟨i,hi⟩:=z;rw[<- Array.getElem?_toList] at hi;exact XA hi
   ·rw[T.no j (fun i hi=>z ⟨i,hi⟩)] at e; cases e
 have:=List.Nodup.length_le_of_subset (l₁:=List.range 8) (l₂:=t.place.toList) List.nodup_range fun j hj=>all j (Xv.mp hj);rw[Xz,wG,T.sz] at this;omega
theorem T7.first (T:T7 t es v) (hs:es.size<8) (h:Int):∃ K,K<21/\v (yK h K)=none/\∀ k,k<K->v (yK h k)≠none:=by
 obtain⟨j,hj,e⟩:=T.room hs;obtain⟨k,hk,rfl⟩:=jfH h hj;have main:∀ k,v (yK h k)=none->∃ K,K<=k/\v (yK h K)=none/\∀ k',k'<K->v (yK h k')≠none:=by
  intro k
  induction k using Nat.strongRecOn with
  | ind k ih=>
   intro e;by_cases z:∃ k',k'<k/\v (yK h k')=none
   ·obtain⟨k',h1,h2⟩:=z;obtain⟨K,g1,g2,g3⟩:=ih k' h1 h2;exact⟨K,by omega,g2,g3⟩
   ·exact⟨k,Xh _,e,fun k' h1 h2=>z ⟨k',h1,h2⟩⟩
 obtain⟨K,g1,g2,g3⟩:=main k e;exact⟨K,by omega,g2,g3⟩
theorem T7.go (T:T7 t es v) {g:Nat->Int} (hg:∀ (i:Nat) e,es[i]?=some e->g i=e.1) {h:Int}{K:Nat} (hK:v (yK h K)=none) (hF:∀ k,k<K->v (yK h k)≠none):∀ f k,k<=K->K-k<f ->
  (SetTable.probe.go t g h f (prb h k)=some (.empty (yK h K) none)/\∀ c,k<=c->c<K->∀ e,v (yK h c)=some e->e.1≠h) \/
  ∃ c i e,k<=c/\c<K/\v (yK h c)=some e/\e.1=h/\t.slot (yK h c)=.live i/\es[i]?=some e/\SetTable.probe.go t g h f (prb h k)=some (.candidate (yK h c) i (prb h (c+1)))/\∀ c',k<=c'->c'<c->∀ e',v (yK h c')=some e'->e'.1≠h
 | 0,k,h1,h2=>by omega
 | f+1,k,h1,h2=>by
  by_cases q:k=K
  ·subst q;refine .inl ⟨?_,fun c a b=>by omega⟩;unfold SetTable.probe.go;rw[show t.slot (prb h k).j=.empty from T.free hK];rfl
  ·have hk:=hF k (by omega);cases e:v (yK h k) with
   | none=>exact absurd e hk
   | some x=>
    obtain⟨i,e1,e2⟩:=T.live e;by_cases z:x.1=h
    ·refine .inr ⟨k,i,x,Xh _,by omega,e,z,e1,e2,?_,fun c' a b=>by omega⟩;unfold SetTable.probe.go;rw[show t.slot (prb h k).j=.live i from e1];dsimp only;rw[hg i x e2,z,if_pos (beq_self_eq_true h),T.adv];rfl
    ·have st:SetTable.probe.go t g h (f+1) (prb h k)=SetTable.probe.go t g h f (prb h (k+1)):=by
      conv=>lhs; unfold SetTable.probe.go
      rw[show t.slot (prb h k).j=.live i from e1];dsimp only;rw[hg i x e2,if_neg (by rw[wD]; exact z),T.adv]
     rw[st];rcases T.go hg hK hF f (k+1) (by omega) (by omega) with⟨a,b⟩ | ⟨c,i',e',a1,a2,a3,a4,a5,a6,a7,a8⟩
     ·refine .inl ⟨a,fun c c1 c2 y hy=>?_⟩;by_cases ck:c=k
      ·subst ck; rw[e] at hy; cases hy; exact z
      ·exact b c (by omega) c2 y hy
     ·refine .inr ⟨c,i',e',by omega,a2,a3,a4,a5,a6,a7,fun c' c1 c2 y hy=>?_⟩;by_cases ck:c'=k
      ·subst ck; rw[e] at hy; cases hy; exact z
      ·exact a8 c' (by omega) c2 y hy
end
section
abbrev IK (prog:Program) (w:World) (h:Heap) (ks:List Int) (b:Addr):Prop:=IsTupleKey (intKind prog w) h ks b
abbrev hsh (prog:Program) (w:World) (ks:List Int):Int:=tupleKeyHash (intKind prog w) ks
structure S7 (prog:Program) (w:World) (B:Addr->Prop) (h:Heap) (a:Addr) (L:List (List Int)) (o:Obj) (es:Array (Int×Value)) (ep:Nat) (t:SetTable) (v:Nat->Option (Int×Value)):Prop where
 loc:h.get? a=some o
 ex:o.ExactSet
 dat:o.data=.set es ep t
 tab:T7 t es v
 num:es.size=L.length
 nd:L.Nodup
 at_:∀ j hh y,v j=some (hh,y)->∃ b ks,y=.ref b/\IK prog w h ks b/\hh=hsh prog w ks/\ks∈L/\B b/\∃ k,yK hh k=j/\∀ k',k'<k->v (yK hh k')≠none
 of:∀ ks∈L,∃ j b,v j=some (hsh prog w ks,.ref b)/\IK prog w h ks b/\B b
section
variable {B:Addr->Prop}{L:List (List Int)}{es:Array (Int×Value)}{t:SetTable}{v:Nat->Option (Int×Value)}
theorem S7.fits (x:S7 prog w B s.heap a L o es ep t v) (h:L.length<8):t.fits es.size=true:=by
 unfold SetTable.fits SetTable.fill;have e1:=x.tab.sz;have e2:=x.num;have e3:=x.tab.mask;rw[x.tab.dum,e3,e1];simp;omega
theorem IK.keep {ks:List Int}{b:Addr} (x:IK prog w h ks b) (k:∀ o,h.get? b=some o->h'.get? b=some o):IK prog w h' ks b:=by
 obtain⟨o,items,n,h1,h2⟩:=x;exact⟨o,items,n,k _ h1,h2⟩
theorem S7.apart (x:S7 prog w B s.heap a L o es ep t v) {ks:List Int}{b:Addr} (hk:IK prog w s.heap ks b):b≠a:=by
 rintro rfl;obtain⟨o',items,n,h1,h2,_⟩:=hk;have h3:=x.loc;rw[h1] at h3;cases h3;have h4:=x.ex.1;rw[h2] at h4;injection h4 with z
 exact absurd z (by decide)
def SX7 (prog:Program) (w:World) (B:Addr->Prop) (h:Heap) (a:Addr) (L:List (List Int)):Prop:=∃ o es ep t v,S7 prog w B h a L o es ep t v
theorem SX7.keep (x:SX7 prog w B h a L) (k:∀ o,h.get? a=some o->h'.get? a=some o) (kt:∀ b ks,B b->IK prog w h ks b->IK prog w h' ks b):SX7 prog w B h' a L:=by
 obtain⟨o,es,ep,t,v,x⟩:=x;refine⟨o,es,ep,t,v,{ x with loc:=k _ x.loc,at_:=fun j hh y e=>?_,of:=fun ks hm=>?_ }⟩
 ·obtain⟨b,ks,e1,e2,e3,e4,e5,r⟩:=x.at_ j hh y e;exact⟨b,ks,e1,kt _ _ e5 e2,e3,e4,e5,r⟩
 ·obtain⟨j,b,e1,e2,e5⟩:=x.of ks hm;exact⟨j,b,e1,kt _ _ e5 e2,e5⟩
end
end
end L2
namespace L2
open PySem PySem.Spec PyProof.Rows
section
variable {g:Array GenState}{d:Drawn}{t:Nat}{os:OsState}
variable {q:Str}{N:Addr}{bs:List Value}{dd:Option Addr} 
theorem Zi {rest:List Value}{Q:Fin->Shared->Prop} (c:ExcC h C none nm q N bs bm hdct sn sub ab col dd k0 k1 k2 k3 k5 mN)
  (hq:∀ h' u,(∀ b o,h.get? b=some o->h'.get? b=some o)->h'.get? (h.objs.size+1)=some (jfj C u)->Q (.done (.ret (.ref (h.objs.size+1)))) ⟨h',g,d,t,os⟩) (hrest:rest.length<=sizeLine) :
  wpAny (model prog w) A (Builtin.«type.__call__» ⟨.ref C::rest,[]⟩) Q E ⟨h,g,d,t,os⟩:=by
 have F:=PySem.F.excBase_ValueError;have hC:=c.obj;have T:OwnTail h [.type "ValueError",.type "Exception",.type "BaseException",.type "object"] bm:=c.tail
 repeat (first | with_reducible refine wt hC ?_ | with_reducible refine wpAny_madeBy_exc hC ?_ | wp_step)
 refine codeAny_call_builtin_code (Code.quiet_builtin _ F.quiet) (wpAny_check_new_subT F T hC ?_);refine codeAny_exc_new_subT F T hC ?_ hrest;show wpAny _ _ _ _ _ _;have kp:∀ b o,h.get? b=some o->(jb4 h C rest).get? b=some o:=fun b o e=>Xb _ (Xb _ e);have hC₁:=kp _ _ hC;have hn₁:(jb4 h C rest).Ns N mN:=c.ns.keeps kp;have hget:(jb4 h C rest).get? (h.objs.size+1)=some (jfj C h.objs.size):=by heap_get
 have hcC:(Value.ref C::bm).contains (.ref C)=true:=by simp
 have T₁:=T.keeps kp;unfold isInstance
 repeat (first | with_reducible refine wt hget ?_ | (with_reducible refine wpAny_isSubtype_exc hC₁ ?_; rw[hcC]) | wp_step)
 show wpAny _ _ (typeLookup (.ref C) _) _ _ _;refine wpAny_typeLookup_tail hC₁ hn₁ T₁ F.mroIs F.init.lookup ?_;rw[c.init];refine wA (Xa (wpAny_of_eq (F.init.bind _) (Xa (wpAny_call (codeAny_call_builtin F.init.plain F.initEntry (wpAny_check_init_subT F T₁ hC₁ hget rfl ?_))))))
 wp_walk
 refine hq _ (h.objs.size+2) (fun b o hb=>?_) ?_
 ·rw[wc _ _ (Nat.ne_of_gt (Nat.lt_succ_of_lt (Xu hb)))];exact Xb _ (kp b o hb)
 ·rw[wj _ (Xb _ hget) rfl];simp only[wK];rfl
theorem jbd {rest:List Value} (c:ExcC h C none nm q N bs bm hdct sn sub ab col dd k0 k1 k2 k3 k5 mN)
  (hq:∀ h' u,(∀ b o,h.get? b=some o->h'.get? b=some o)->h'.get? (h.objs.size+1)=some (jfj C u)->Q (.ref (h.objs.size+1)) ⟨h',g,d,t,os⟩) (hrest:rest.length<=sizeLine) :
  wpAny (model prog w) A (call (.ref C) rest) Q E ⟨h,g,d,t,os⟩:=by
 have f1:=tc_lookup;have f2:=tc_bind (.ref C);have hC:=c.obj;have hT:(⟨h,g,d,t,os⟩:Shared).TypeIs (.ref C) "type":=⟨_,hC,rfl⟩;refine wpAny_call (codeAny_of_tree ?_);show wpAny _ _ (callAny (.ref C) _) _ _ _
 repeat (any_goals (first | assumption | with_reducible refine wt hC ?_ | wp_step))
 refine⟨rfl,?_⟩;exact codeAny_call_builtin_at (Code.quiet_builtin _ (by decide +kernel)) entry_typeCall (wpAny_check_type_call_sub hC (Zi c (fun h' u k e=>hq h' u k e) hrest))
end
section
variable {k:Nat}{f:Addr}{t:TA}{Er:St->XK}
theorem jdd (M:XMk0 X.K C) (I:Inv X pins σ H s) (hl0:us.length<=sizeLine) :
  wpAny (model X.prog X.w) X.A (call (.ref C) us) (fun u s'=>∃ a,u=.ref a/\H a=none/\Inv X pins σ (upd H a (XO a C none true)) s'/\s.heap.objs.size<=a) Ex s:=by
 obtain⟨nm,q,N,bs,bm,hdct,sn,sub,ab,col,dd,k0,k1,k2,k3,k5,mN,c⟩:=Gq I.kIn M.exc;obtain⟨hp,g,dr,tk,os⟩:=s;refine jbd c (fun h' u kp ho=>?_) hl0;exact⟨_,rfl,I.hok.fresh (Nat.le_succ _),I.laid (t':=tk) (o:=XO (hp.objs.size+1) C none true) kp (Nat.le_succ _) (XO.ok ho rfl rfl rfl fun _=>rfl),Nat.le_succ _⟩
def jbe (C:Addr) (Er:St->XK) (t:TA):TS:=fun _ σ H=>t σ H fun vs H1=>vs.length<=1000/\Er σ (.ref C) none H1
theorem jde {o:HO} (h:H a=none):J7 (upd H a o) a=H:=by
 funext b
 by_cases q:b=a
 ·subst q; rw[yl,h]
 ·rw[xG q,jz q]
theorem Vs (D:X.Def) (hcm:X.calm=true) (hx:∀ e s,Fly X Er e s->X.xe e s) (M:XMk0 X.K C) (hg:Gl X x) (hm:X.mg x=some (.ref C))
  (ha:PA X (e::es) t) (hdb:(x==("__debug__":Str))=false:=by decide) (he:starEach (e::es) X.env=(false,eval e X.env)::starEach es X.env:=by rfl) (hpl:(backTo cpos (starEach es X.env)).any (·.1)=false:=by rfl) :
  PS X (.Raise (some (.Call (.Name x p) (e::es) [] cpos)) none pos) (jbe C Er t):=by
 intro pins s σ H Dd I h;obtain⟨nm,q,N,bs,bm,hdct,sn,sub,ab,col,dd,k0,k1,k2,k3,k5,mN,c0⟩:=Gq I.ok.mod.kin M.exc;refine QA (C:=C) (fo:=none) (nm:=nm) (q:=q) (N:=N) (bs:=bs) (bm:=bm) (hdct:=hdct) (sn:=sn) (sub:=sub) (ab:=ab) (col:=col) (dd:=dd) (k0:=k0) (k1:=k1) (k2:=k2) (k3:=k3) (k5:=k5) (mN:=mN) (I.ok.hd hcm) ?_;refine wpAny_Call_Name_kw (zv I hg hm ?_ hdb);refine W.callWith_K (h₀:=X.base) I.ok.mod.kin M.kp (thn (ha cpos pins s σ H _ I h) fun us s1 ⟨vs,H1,I1,r,hln,q⟩=>⟨I1.kIn,?_⟩) he hpl;refine thn (jdd M I1 (by have:=r.length; show us.length<=sizeLine; rw[<- this,XH]; omega)) fun u s2 ⟨a,eu,hn,I2,hsz⟩=>?_;subst eu;obtain⟨⟨o,vs,ho,h1,h2,h3,h4⟩,_⟩:=I2.hok a _ jB;refine⟨a,o,vs,rfl,⟨I2.bk _ _ c0.obj,c0.ns.keeps I2.bk,c0.init,c0.tail.keeps I2.bk⟩,ho,h1,h3,h4 rfl,hx _ _ ?_⟩;have I3:=(I2.dropX jB).nopins D.pn;rw[jde hn] at I3;exact⟨a,C,none,none,σ,H1,rfl,⟨o,vs,ho,h1,h2,h3,h4 rfl,fun p hp=>(nomatch hp)⟩,fun p hp=>(nomatch hp),Heap.get?_none_of_le (XI I1.sz hsz),hn,fun p hp=>(nomatch hp),I3,q⟩
end
end L2
namespace L3
open PySem PySem.Spec L2
section
variable {F:Hp}{E:XK}{rs:Rs γ}{c:Nat} 
theorem Vt {m1:Option γ} (h1:Ev K σ F H t1 rs m1) (X:Ext Fe He F H) (hm:(m1.bind fun _=>some (Er.mk c []))=some er) (hc:cs[c]?=some (C,[]))
  (k:∀ cls d F' H',Ext Fe He F' H'->jd5 cs er cls d F'->E cls d H'):jbe C (fun _=>E) (jF t1 qD) D σ H:=by
 obtain⟨a,ea,hm⟩:=bind_some hm;cases hm;refine h1 F H (Ext.refl X.sub) a ea _ fun v F1 H1 E1 r1=>?_;exact⟨by simp,k _ _ F1 H1 (X.trans E1) ⟨C,[],rfl,hc,rfl,.inl ⟨rfl,rfl⟩⟩⟩
end
structure MDef0 (K:W.Frag) (mg:Str->Option Value) (cs:Ecs) (x:Str) (c:Nat):Prop where
 ex:∃ C,cs[c]?=some (C,[])/\mg x=some (.ref C)/\XMk0 K C
def cM (cs:Ecs):Cd Nat:=⟨fun _ H k v=>∃ a C d ns,v=.ref a/\H a=some (XO a C d true)/\cs[k]?=some (C,ns)/\∀ dx,d=some dx->∃ fs,H dx=some (XD dx fs),
 fun s ⟨a,C,d,ns,h1,h2,h3,h4⟩=>⟨a,C,d,ns,h1,s _ _ h2,h3,fun dx e=>let ⟨fs,z⟩:=h4 dx e; ⟨fs,s _ _ z⟩⟩⟩
end L3
namespace L2
open PySem PySem.Spec PyProof.Rows
def shT (l:List Int):PyData:=.tuple (l.map PyData.int)
theorem QF:∀ {us:List Value}{ns:List Int},IntsAre us ns->ReadsAll h us (ns.map PyData.int) []
 | _,_,.nil=>.nil
 | _,_,.cons n t r=>.cons (as:=[]) (bs:=[]) (.int n t) (QF r)
theorem QG:∀ ns:List Int,PyData.depthAll (ns.map PyData.int)<=1
 | []=>by simp[PyData.depthAll]
 | n::ns=>by
  have:=QG ns;simp only[Xl,PyData.depthAll,PyData.depth];omega
theorem Vu:∀ ns:List Int,PyData.hasDictAll (ns.map PyData.int)=false
 | []=>by simp[PyData.hasDictAll]
 | n::ns=>by
  have:=Vu ns;simp only[Xl,PyData.hasDictAll,PyData.hasDict,this];rfl
def jiX (te:TE) (r:TJ):TJ:=fun σ H acc Q=>te σ H fun v H1=>∃ a l,v=.ref a/\H1 a=some (.tup (l.map V.int))/\(shT l).showable=true/\(shT l).shown.length<=sizeLine/\(acc++(shT l).shown).length<=sizeLine/\r σ H1 (acc++(shT l).shown) Q
section
variable {a b:Expr}{t:TJ} 
theorem jg7 (hg:X.A.guards=some []) (hu:X.A.units+200<cLine) (he:PE X e te) (r:PJ X es t):PJ X (.FormattedValue e 114 none pos::es) (jiX te t):=by
 intro pins s σ H acc Q I h;show wpAny _ _ (eval (.FormattedValue e 114 none pos) X.env) _ _ s;refine wpAny_FormattedValue_repr (thn (he pins s σ H _ I h) fun v s1 ⟨w,H1,I1,rw_,a,l,ew,ha,hs,hz,hl,q⟩=>?_);subst ew;cases rw_;obtain⟨_,its,r',o,e1,⟨e2,_⟩,n,e3⟩:=(show ObjOk X.prog X.w H1 s1.heap a (.tup (l.map V.int)) from I1.hok a _ ha);have rd:Reads s1.heap (.ref a) (shT l) []:=.tuple e1 e2 e3 (by simpa using QF (Qp r'));refine pyReprObj_of_reads rd hs (fun z=>?_) hg ?_ (fun _ _ e=>e) (fun h' u tk hk=>?_) hz
 ·have:=Vu l;simp only[shT,PyData.hasDict,this] at z;cases z
 ·have:=QG l;show X.A.units+(PyData.tuple (l.map PyData.int)).depth<cLine;simp only[PyData.depth];omega
 ·have I2:=I1.kept (t':=tk) hk;exact wpAny_formatField_str ⟨_,_,rfl,hl,r pins _ σ H1 _ Q I2 q⟩ ⟨_,_,rfl,hl,r pins _ σ H1 _ Q (I2.tok _) q⟩ hz
end
section
variable {rest:List Expr}{k:Int}{t:TA}
theorem zY {k} (ha:PE X (.Tuple es k p) te) (hr:PA X rest t):PA X (.Tuple es k p::rest) (jF te t):=ja ha hr (by rfl)
end
end L2
namespace L3
open PySem PySem.Spec L2
@[irreducible] def jbf (l:List Int):Option Str:=if (shT l).showable=true/\(shT l).shown.length<=sizeLine then some (shT l).shown else none
section
variable {F:Hp}{t tb:TE}{ml:Option (List Int)}
theorem jg8 {r:TJ}{m:Str->Option Str} (hi:Ev K σ F H t (rF (cT cI)) ml) (h:EvJ K σ F H r m):EvJ K σ F H (jiX t r) (fun acc=>ml.bind fun i=>(jbf i).bind fun y=>(zE acc y).bind m):=fun F1 H1 E acc out e Q k=>by
 obtain⟨l,ei,e⟩:=bind_some e;obtain⟨y,ey,e⟩:=bind_some e;obtain⟨a,ea,e⟩:=bind_some e;refine hi F1 H1 E l ei _ fun v F2 H2 E2 hv=>?_;obtain⟨p,xs,rfl,h1,h2⟩:=hv;rw[zC h2] at h1;unfold jbf at ey;unfold zE at ea;obtain⟨⟨hs,hz⟩,rfl⟩:=ki ey;obtain⟨hl,rfl⟩:=ki ea;exact⟨p,l,rfl,E2.sub _ _ h1,hs,hz,by rw[strLen_append]; exact hl,h F2 H2 (E.trans E2) _ out e Q fun F3 H3 E3=>k F3 H3 (E2.trans E3)⟩
end
end L3
namespace L2
open PySem PySem.Spec PyProof.Rows
theorem Ws {rest:List Stmt}{t u:TS} (hb:body=st::rest) (h1:PS X st t) (h2:PSs X rest u):PSs X body (Gh t u):=hb ▸ jm h1 h2
def hid (H:Hp) (cs:List Addr):Hp:=fun b=>if b∈cs then none else H b
end L2
namespace L3
open PySem PySem.Spec L2
section
variable {γ':Type}{F:Hp} 
structure TabStep (Pt:Addr) (He He' F H F' H':Hp):Prop where
 ex:∃ t0 tb,H Pt=some (.tbl t0)/\F Pt=none/\He'=upd He Pt (.tbl tb)/\Ext F (upd H Pt (.tbl tb)) F' H'
theorem TabStep.f {Pt:Addr}{He':Hp} (T:TabStep Pt He He' F H F' H'):Same F F':=let ⟨_,_,_,_,_,E⟩:=T.ex; E.f
theorem Own.tab {Pt:Addr}{He':Hp} (o:Own K He F H c l a) (T:TabStep Pt He He' F H F' H'):Own K He' F' H' c l a:=by
 obtain⟨t0,tb,h1,h2,rfl,E⟩:=T.ex;obtain⟨xs,h3,h4⟩:=o.h;have ne:a≠Pt:=fun z=>by rw[z,h1] at h3; cases h3
 exact Own.mono ⟨by rw[jz ne]; exact o.e,o.f,xs,by rw[jz ne]; exact h3,h4⟩ E
end
end L3
namespace L2
open PySem PySem.Spec PyProof.Rows
section
theorem jdf {d:Addr}{es:Array DictEntry}{Q:Option Value->Shared->Prop} (hI:s.heap.IsKeyIter it d i n ep) (ho:s.heap.get? d=some o) (hD:o.data=.dict es ep) (hn:es.size=n) (hi:i<es.size)
  (k:∀ h',h'.IsKeyIter it d (i+1) n ep->Heap.SameBut it s.heap h'->Q (some es[i].key) { s with heap:=h' }):wpAny (model prog w) A (pyNext (.ref it)) Q E s:=by
 obtain⟨oi,gi,ci,di⟩:=id hI;have tI:=hI.typeIs;unfold pyNext;refine Xa (wpAny_attempt (wpAny_callSpecial?_slot (name:=Str.ofString "__next__") tI F.slot_dict_keyiterator_next (wx F.slot_dict_keyiterator_next tI F.entry_dict_keyiterator_next ?_ (F.args_dict_keyiterator_next_1 _))));refine Xa (Xd (Xa (Xa ?_)))
 first | refine Xa (wpAny_typeNameOfWhole_keyiter tI (Xd ?_)) | refine Xa (wpAny_typeNameOf_keyiter tI (Xd ?_))
 refine Xa (wpAny_fieldsOf gi di ?_);have no:Builtin.Dict_items.ownsTuple "dict_keyiterator"=false:=by decide
 rw[no];simp only[Bool.false_eq_true,if_false];show wpAny _ _ (if (Value.ref d==Value.none)=true then _ else _) _ _ s;rw[if_neg (show ¬ ((Value.ref d==Value.none)=true) from Xy)];refine Xa (Xd (Xa (wpAny_dictEntries ho hD ?_)));rw[if_neg (by rw[hn]; simp)];refine Xa (Xd (Xa (wpAny_dictEpoch ho hD ?_)));rw[if_neg (by simp)];refine Xd ?_;have ni:¬ ((i:Int)<0):=by omega
 simp only[ni,if_false,X9,Array.getElem?_eq_getElem hi];refine Xa ?_
 first | refine Xa (wpAny_typeNameOfWhole_keyiter tI (Xd ?_)) | refine Xa (wpAny_typeNameOf_keyiter tI (Xd ?_))
 refine Xa (wpAny_isOneOf_keyiter tI ?_);show wpAny _ _ (setField (.ref it) 1 (rawInt ((i:Int)+1)) >>= _) _ _ s;refine Xa (wpAny_setField gi di (by simp) ?_);have hI2:(s.heap.update it (Obj.mapFields (·.setIfInBounds 1 (rawInt ((i:Int)+1))))).IsKeyIter it d (i+1) n ep:=
  ⟨_,wj _ gi (Obj.isFreed_of_fields (wp di _)),(Obj.cls_mapFields ..).trans ci,by rw[wp di]; simp[rawInt]⟩
 refine Xa (wA (Xa (wpAny_isOneOf_keyiter (s:={ s with heap:=s.heap.update it (Obj.mapFields (·.setIfInBounds 1 (rawInt ((i:Int)+1)))) }) hI2.typeIs ?_)))
 show wpAny _ _ (pure es[i].key) _ _ _;exact Xd (Xd ⟨_,rfl,Xd (k _ hI2 (Heap.SameBut.update ..))⟩)
theorem jbg {d:Addr}{es:Array DictEntry}{Q:Option Value->Shared->Prop} (hh:A.handled=none) (hI:s.heap.IsKeyIter it d i n ep) (ho:s.heap.get? d=some o) (hD:o.data=.dict es ep) (hn:es.size=n) (hi:es.size<=i)
  (k:∀ h',Heap.ExtBut it s.heap h'->Q none { s with heap:=h' }):wpAny (model prog w) A (pyNext (.ref it)) Q E s:=by
 obtain⟨oi,gi,ci,di⟩:=id hI;have tI:=hI.typeIs;unfold pyNext;refine Xa (wpAny_attempt (wpAny_callSpecial?_slot (name:=Str.ofString "__next__") tI F.slot_dict_keyiterator_next (wx F.slot_dict_keyiterator_next tI F.entry_dict_keyiterator_next ?_ (F.args_dict_keyiterator_next_1 _))));refine Xa (Xd (Xa (Xa ?_)))
 first | refine Xa (wpAny_typeNameOfWhole_keyiter tI (Xd ?_)) | refine Xa (wpAny_typeNameOf_keyiter tI (Xd ?_))
 refine Xa (wpAny_fieldsOf gi di ?_);have no:Builtin.Dict_items.ownsTuple "dict_keyiterator"=false:=by decide
 rw[no];simp only[Bool.false_eq_true,if_false];show wpAny _ _ (if (Value.ref d==Value.none)=true then _ else _) _ _ s;rw[if_neg (show ¬ ((Value.ref d==Value.none)=true) from Xy)];refine Xa (Xd (Xa (wpAny_dictEntries ho hD ?_)));rw[if_neg (by rw[hn]; simp)];refine Xa (Xd (Xa (wpAny_dictEpoch ho hD ?_)));rw[if_neg (by simp)];refine Xd ?_;have ni:¬ ((i:Int)<0):=by omega
 simp only[ni,if_false,X9,Array.getElem?_eq_none hi];refine Xa ?_
 first | refine Xa (wpAny_typeNameOfWhole_keyiter tI (Xd ?_)) | refine Xa (wpAny_typeNameOf_keyiter tI (Xd ?_))
 show wpAny _ _ (setField (.ref it) 0 .none >>= _) _ _ s;refine Xa (wpAny_setField gi di (by simp) ?_);show wpAny _ _ (newExc (.type "StopIteration") [] >>= _) _ _ _;refine Xa ?_;simp only[newExc,newTuple];refine Xa (XN (Xa (m:=firstArgMember _ _) (wpAny_of_eq (a:=Value.none) (by first | rfl | (simp only[firstArgMember]; rfl)) (XN ?_ (by size_fits)))) (by size_fits))
 simp only[raiseNew];refine Xa (wpAny_handled ?_);have h0:A.in1.handled=none:=hh;rw[h0];refine Xa (Xd (wpAny_throw ?_));refine Xa (wpAny_isInstance (T:="StopIteration") (b:=true) ⟨_,Xo _ rfl,rfl⟩ isSubtype_stop (Xd (k _ ?_)));exact((Heap.SameBut.update ..).extBut.push _).push _
theorem jdg {d:Addr}{es:Array DictEntry} (hd:(d==sysModules)=false) (ho:s.heap.get? d=some o) (hc:o.ExactDict) (hD:o.data=.dict es ep)
  (k:Q (.ref s.heap.objs.size) { s with heap:=s.heap.push { cls:=.type "dict_keyiterator",data:=.fields #[.ref d,.int 0 0,.int es.size 0,.int ep 0] } }):wpAny (model prog w) A (pyIter (.ref d)) Q E s:=by
 have tD:s.TypeIs (.ref d) "dict":=⟨o,ho,hc.1⟩;refine wpAny_pyIter_slot tD F.slot_dict_iter (wx F.slot_dict_iter tD F.entry_dict_iter ?_ (F.args_dict_iter_1 _));unfold Builtin.«dict.__iter__»;refine Xa ?_;unfold Builtin.Dict.dictSlotNone;refine Xa (wpAny_notOrdered_dict tD ?_);show wpAny _ _ (pure (Value.ref d)) _ _ s;refine Xd ?_;show wpAny _ _ (Builtin.Dict.showsAll d >>= _) _ _ s;unfold Builtin.Dict.showsAll;rw[if_neg (by rw[hd]; exact Xy)];refine Xa (Xd (Xa (wpAny_dictEntries ho hD (Xa (wpAny_dictEpoch ho hD ?_)))));refine Xa (XN (Xd ⟨_,rfl,"dict_keyiterator",_,⟨_,Xo _ rfl,rfl⟩,F.slot_dict_keyiterator_next.lookup,?_⟩));simpa [rawInt] using k
end
section
theorem Inv.dt (I:Inv X pins σ H s) (e:H a=some (.frz o (.dT kvs))):s.heap.get? a=some o/\(a==sysModules)=false/\∃ es ep,o.ExactDict/\o.data=.dict es ep/\es.size=kvs.length /\
  ∀ (i:Nat) (hi:i<es.size) (kv:List Key×V),kvs[i]?=some kv->∃ b,es[i].key=.ref b/\H b=some (.tup (kv.1.map kV)):=by
 obtain⟨h1,z,y,xs,r,o',es,ep,h2,h3,h4,h5,h6⟩:=I.hok a _ e;rw[h1] at h2;cases h2;have hl:es.size=xs.length:=by rw[<- wG,h5,Xp]
 refine⟨h1,y,es,ep,h3,h4,by rw[hl,Paired.length r],fun i hi kv hk=>?_⟩;obtain⟨x,hx,q1,q2,q3⟩:=L3.Paired.at r hk;refine⟨x.2.1,?_,by rw[q1] at q2 ⊢; exact q2⟩;have e1:es.toList[i]?=some es[i]:=by rw[Array.getElem?_toList]; simp[hi]
 rw[h5,Xt,hx] at e1;have e2:entryOfKey (tupleKind (qE X.prog X.w)) x=es[i]:=by simpa using e1
 rw[<- e2];rfl
theorem Inv.fz (I:Inv X pins σ H s) (e:H a=some (.dT kvs)) (ho:s.heap.get? a=some o):Inv X pins σ (upd H a (.frz o (.dT kvs))) s:=by
 have ne:∀ {b:Addr}{u:HO},H b=some u->(∀ l,u≠.dT l)->b≠a:=fun {b u} q n z=>by rw[z,e] at q; exact n _ (Option.some.inj q).symm
 have nn:∀ {b:Addr},H b=none->b≠a:=fun {b} q z=>by rw[z,e] at q; cases q
 exact I.step (g':=s.gens) (d':=s.drawn) (t':=s.toks) (ch:=[]) (h':=s.heap) (fun _ z=>nomatch z) (fun b u _ _ _ q _=>q) (fun b u _ _ _ q _=>⟨u.slots,q⟩) (fun b u _ q n=>by rw[jz (nn n)]; exact n) (fun b u _ q=>⟨u,q⟩)
  (fun b xs q=>by rw[jz (ne q fun _ z=>by cases z)]; exact q) (fun b u v q=>by rw[jz (ne q fun _ z=>by cases z)]; exact q) (fun b ps q=>⟨#[],by rw[jz (ne q fun _ z=>by cases z),q]; simp⟩) (fun m hm=>hm)
  (fun b u q=>by
   have st:∀ {c:Addr}{v:HO},H c=some v->ObjOk X.prog X.w (upd H a (.frz o (.dT kvs))) s.heap c v:=fun {c v} q=>(I.hok c v q).stay (fun _ _ _ z=>z) (fun c' z=>by rw[jz (ne z fun _ z=>by cases z)]; exact z) fun c' xs z=>by rw[jz (ne z fun _ z=>by cases z)]; exact z
   by_cases z:b=a
   ·subst z;rw[jB] at q;cases q;exact⟨ho,st e⟩
   ·rw[jz z] at q;exact st q) I.bare
def sFz (i:Nat) (te:TE):TS:=fun D σ H=>te σ H fun v H1=>∃ a kvs,v=.ref a/\H1 a=some (.dT kvs)/\∀ o,D.nx (σ.set i (some v)) (upd H1 a (.frz o (.dT kvs)))
theorem Yk (hN:X.N.Nodup) (hi:X.N[i]?=some x) (hx:Loc X.env.scope x) (he:PE X e te) (hs:swapsWith e (some (.Name x pos')) pos.line X.env=pure false:=by rfl)
  (hf:X.fn x=true \/ X.env.scope.names.lookup x=some .local:=by first | exact .inl rfl | exact .inr rfl | assumption):PS X (.Assign [.Name x pos'] e pos) (sFz i te):=by
 intro pins s σ H D I h;refine wpAny_Assign_Name (thn (he pins s σ H _ I h) fun v s1 ⟨y,H1,I1,r1,a,kvs,ey,e1,q1⟩=>?_) hs;subst ey;obtain⟨_,_,_,_,o,_,_,ho,_⟩:=(show ObjOk X.prog X.w H1 s1.heap a (.dT kvs) from I1.hok a _ e1);exact zM (I1.fz e1 ho) hN hi hx r1 (fun s2 I2=>⟨_,_,I2,q1 o⟩) hf
def Itk (a:Addr) (o:Obj) (n:Nat):It:=
 ⟨fun i H=>∃ kvs,H a=some (.frz o (.dT kvs))/\kvs.length=n/\i<n,fun i H x H'=>H'=H/\∃ b,x=.ref b/\∀ kvs kv,H a=some (.frz o (.dT kvs))->kvs[i]?=some kv->H b=some (.tup (kv.1.map kV)),fun i H=>∃ kvs,H a=some (.frz o (.dT kvs))/\kvs.length=n/\n<=i⟩
theorem jdh {P:Program} (a it:Addr) (o:Obj) (n:Nat):Turn P w K tg (Itk a o n) [it] it (fun i h=>∃ es ep,o.data=.dict es ep/\h.IsKeyIter it a i n ep) where
 mem:=by simp
 obj:=fun i h st b hb=>by
  have e:b=it:=by simpa using hb
  subst e;obtain⟨es,ep,_,oi,e,c,d⟩:=st;exact⟨oi,e,fun v z=>by rw[d] at z; cases z⟩
 keep:=fun i h h' st k=>let ⟨es,ep,h1,h2⟩:=st; ⟨es,ep,h1,h2.at fun o e=>k it (by simp) o e⟩
 item:=by
  intro X hP hw hK hc i pins s σ H E I hf st hg;subst hP hw hK;obtain⟨kvs,e1,hn,hi⟩:=hg;obtain⟨es',ep',d',st⟩:=st;obtain⟨ho,_,es,ep,hx,hd,hz,hk⟩:=I.dt e1;rw[hd] at d';cases d';obtain⟨f0,f1,f2,f3,f4,f5⟩:=hf it (by simp);have hi':i<es'.size:=by omega
  obtain⟨b,kb,tb⟩:=hk i hi' (kvs[i]'(by omega)) (Xg _);refine jdf st ho hd (by omega) hi' fun h' st' sb=>?_;have I1:Inv X pins σ H { s with heap:=h' }:=I.turned (t':=s.toks) (fun b o hb e=>(sb.2 b hb).trans e) f0 f1 f3 f4 f5
  obtain⟨oi,e,c,d⟩:=id st';refine⟨_,rfl,ZQ (s:={ s with heap:=h' }) e c d (by decide) ⟨.ref b,H,I1,?_,⟨rfl,b,rfl,fun kvs' kv q1 q2=>?_⟩,⟨es',ep',hd,st'⟩,fun b hb=>(hf b hb).1⟩⟩
  ·rw[kb]; rfl
  ·rw[e1] at q1;cases q1;rw[Xg (by omega)] at q2;cases q2;exact tb
 done:=by
  intro X hP hw hK hc i pins s σ H E I hf st hg;subst hP hw hK;obtain⟨kvs,e1,hn,hi⟩:=hg;obtain⟨es',ep',d',st⟩:=st;obtain⟨ho,_,es,ep,hx,hd,hz,hk⟩:=I.dt e1;rw[hd] at d';cases d';obtain⟨f0,f1,f2,f3,f4,f5⟩:=hf it (by simp);exact jbg (I.ok.hd hc) st ho hd (by omega) (by omega) fun h' eb=>⟨rfl,I.turned (t':=s.toks) (fun b o hb e=>eb b o hb e) f0 f1 f3 f4 f5⟩
 self:=fun _ _ _ _ _ st h=>let ⟨_,_,_,st⟩:=st; wpAny_pyIter_keyiter st h
def jit (te:TE):TI:=fun σ H R=>te σ H fun x H1=>∃ a o kvs,x=.ref a/\H1 a=some (.frz o (.dT kvs))/\R (Itk a o kvs.length) H1
theorem jg9 {l:Expr}{tl:TE} (hl:PE X l tl):PI X tg l (jit tl):=by
 intro pins s σ H R I h;refine thn (hl pins s σ H _ I h) fun v s1 ⟨x,H1,I1,r1,a,o,kvs,ex,e1,q⟩=>?_;subst ex;cases r1;obtain⟨ho,hm,es,ep,hx,hd,hz,hk⟩:=I1.dt e1;refine jdg hm ho hx hd ⟨s1.heap.objs.size,[s1.heap.objs.size],_,_,H1,rfl,I1.kept (t':=s1.toks) fun b o e=>Xb _ e,jdh a _ o kvs.length,⟨es,ep,hd,_,Xo _ rfl,rfl,by rw[hz]; rfl⟩,fun b hb=>?_,q⟩;have e:b=s1.heap.objs.size:=by simpa using hb
 subst e;exact I1.fpOk (Xh _) (I1.hok.fresh (Xh _))
def jbh (tk tv:TE):TE:=fun σ H Q=>∀ p,H p=none->tk σ (upd H p (.dT [])) fun x H1=>tv σ H1 fun y H2=>∃ b k,x=.ref b/\H2 b=some (.tup (k.map kV))/\H2 p=some (.dT [])/\Q (.ref p) (upd H2 p (.dT [(k,y)]))
theorem jdi {ke ve:Expr}{tk:TE} (hu:X.A.units+1<cLine) (hk:PE X ke tk) (hv:PE X ve tv):PE X (.Dict [some ke] [ve] pos) (jbh tk tv):=by
 intro pins s σ H Q I q;have hn:=I.hok.fresh (Xh s.heap.objs.size);have I1:=I.laid (a:=s.heap.objs.size) (o:=.dT []) (h':=s.heap.push { cls:=.type "dict",data:=.dict #[] }) (t':=s.toks) (fun _ _ q=>Xb _ q) (Xh _) (Yf s.heap I.big);refine wpAny_Dict_any rfl rfl (by simp) (by simp) (pairTrees_cons_walk (thn (hk pins _ σ _ _ I1 (q _ hn)) fun u1 s2 ⟨x,H2,I2,rx,q2⟩=>thn (hv pins s2 σ H2 _ I2 q2) fun u2 s3 ⟨y,H3,I3,ry,b,k,ex,eb,ep,q3⟩=>pairTrees_nil_walk ?_));subst ex;cases (show u1=Value.ref b from rx);obtain⟨z,hd,xs,rel,dd⟩:=jgU I3.hok ep;have x0:xs=[]:=by cases rel; rfl
 subst x0;unfold storeAll;rw[List.forIn_cons];refine Xa (Xa (wpAny_dictSet_heap (hsz:=by simp) (knd:=tupleKind (qE X.prog X.w)) (show X.A.units<cLine by omega) (Vn I3.hok eb) dd fun h' dd' hs=>Xd ?_));dsimp only;rw[List.forIn_nil];refine Xd ⟨.ref s.heap.objs.size,_,?_,rfl,q3⟩;obtain⟨oq,es,ep',hq,h2,h3,h4,_,h5⟩:=dd';refine Wk I3 (by rw[ep]; exact True.intro) hs ⟨oq,hq⟩ ⟨by rw[XH]; simp,hd,[(k,b,u2)],.cons ⟨rfl,?_,ry⟩ .nil,oq,es,ep',hq,h2,h3,h4,by simp⟩;rw[jz (jgd eb ep (fun z=>nomatch z))];exact eb
end
end L2
namespace L3
open PySem PySem.Spec L2
class Kt (κ:Type) where
 k:κ->List Key
 inj:∀ {a b},k a=k b->a=b
 cd:Cd κ
 get:∀ {K F a v},cd.rep K F a v->∃ b,v=.ref b/\F b=some (.tup ((k a).map kV))
 put:∀ {K F a b},F b=some (.tup ((k a).map kV))->cd.rep K F a (.ref b)
theorem ints_of {K:W.Frag}{F:Hp}:∀ {l:List Int}{xs:List V},Paired (cI.rep K F) l xs->xs=(l.map fun i=>(Sum.inl i:Key)).map kV
 | _,_,.nil=>rfl
 | i::l,x::xs,.cons h t=>by
  have h:x=.int i:=h;rw[Xl,Xl,<- ints_of t,h];rfl
theorem jbi {F:Hp}:∀ (l:List Int),Paired (cI.rep K F) l ((l.map fun i=>(Sum.inl i:Key)).map kV)
 | []=>.nil
 | _::l=>.cons rfl (jbi l)
theorem jbj:∀ {a b:List Int},(a.map fun i=>(Sum.inl i:Key))=(b.map fun i=>(Sum.inl i:Key))->a=b
 | [],[],_=>rfl
 | [],_::_,h=>by cases h
 | _::_,[],h=>by cases h
 | x::a,y::b,h=>by
  rw[Xl,Xl] at h;injection h with h1 h2
  rw[Sum.inl.inj h1,jbj h2]
instance:Kt (List Int):=⟨fun l=>l.map fun i=>.inl i,jbj,cT cI,fun⟨a,xs,h1,h2,h3⟩=>⟨a,h1,by rw[<- ints_of h3]; exact h2⟩,fun {K F l b} h=>⟨b,_,rfl,h,jbi l⟩⟩
instance:Kt (Int×Int):=⟨fun p=>[.inl p.1,.inl p.2],fun {a b} h=>by
  injection h with h1 h2
  injection h2 with h2 _
  exact Prod.ext (Sum.inl.inj h1) (Sum.inl.inj h2),cP cI cI,fun {K F p v} ⟨a,u,w,h1,h2,h3,h4⟩=>⟨a,h1,by
  have h3:u=.int p.1:=h3;have h4:w=.int p.2:=h4;rw[h2,h3,h4];rfl⟩,fun {K F p b} h=>⟨b,_,_,rfl,h,rfl,rfl⟩⟩
section
variable [DecidableEq κ] [Kt κ] {F:Hp}{t tb:TE} 
def KtR (K:W.Frag) (F:Hp) (c:Cd α) (p:κ×α) (q:List Key×V):Prop:=q.1=Kt.k p.1/\c.rep K F p.2 q.2
theorem KtR.mono {F:Hp}{p:κ×α}{q:List Key×V} (s:Same F F') (h:KtR K F c p q):KtR K F' c p q:=⟨h.1,c.mono s h.2⟩
theorem jg_ {a b:κ}:decide (Kt.k a=Kt.k b)=decide (a=b):=by
 by_cases h:a=b
 ·subst h; simp
 ·rw[Xi h,Xi fun e=>h (Kt.inj e)]
theorem jbk {F:Hp}{k:κ}:∀ {l:List (κ×α)}{kvs:List (List Key×V)},Paired (KtR K F c) l kvs->(GU l k=none/\JU kvs (Kt.k k)=none) \/ ∃ x v,GU l k=some x/\JU kvs (Kt.k k)=some v/\c.rep K F x v
 | _,_,.nil=>.inl ⟨rfl,rfl⟩
 | p::l,q::kvs,.cons ⟨r1,r2⟩ s=>by
  by_cases h:p.1=k
  ·right
   refine⟨p.2,q.2,?_,zV (by rw[r1,h]),r2⟩;unfold GU;rw[wd,Xk h];rfl
  ·have e1:GU (p::l) k=GU l k:=by
    unfold GU;rw[wd,Xi h]
   have e2:JU (q::kvs) (Kt.k k)=JU kvs (Kt.k k):=zW (by rw[r1]; exact fun e=>h (Kt.inj e));rw[e1,e2];exact jbk s
theorem jef {F:Hp}{k:κ}:∀ {l:List (κ×α)}{kvs:List (List Key×V)},Paired (KtR K F c) l kvs->(kvs.any fun kv=>decide (kv.1=Kt.k k))=l.any fun p=>decide (p.1=k)
 | _,_,.nil=>rfl
 | p::l,q::kvs,.cons ⟨r1,r2⟩ s=>by
  rw[List.any_cons,List.any_cons,jef s,r1,jg_]
theorem jeg {F:Hp}{k:κ}{x:α}{v:V} (r:c.rep K F x v):∀ {l:List (κ×α)}{kvs:List (List Key×V)},Paired (KtR K F c) l kvs ->
  Paired (KtR K F c) (l.map fun p=>bif decide (p.1=k) then (p.1,x) else p) (kvs.map fun kv=>if kv.1=Kt.k k then (kv.1,v) else kv)
 | _,_,.nil=>.nil
 | p::l,q::kvs,.cons ⟨r1,r2⟩ s=>by
  rw[Xl,Xl];refine .cons ?_ (jeg r s);by_cases h:p.1=k
  ·rw[Xk h,wm,if_pos (by rw[r1,h])];exact⟨r1,r⟩
  ·rw[Xi h,wb,if_neg (by rw[r1]; exact fun e=>h (Kt.inj e))];exact⟨r1,r2⟩
theorem jha {F:Hp}{k:κ}{x:α}{v:V}{l:List (κ×α)} (r:c.rep K F x v) (s:Paired (KtR K F c) l kvs):Paired (KtR K F c) (VS l k x) (VR kvs (Kt.k k) v):=by
 unfold VS VR;rw[jef s];cases l.any fun p=>decide (p.1=k) with
 | true=>rw[wm,if_pos rfl]; exact jeg r s
 | false=>rw[wb,if_neg (by decide)]; exact Paired.app s (.cons ⟨rfl,r⟩ .nil)
def pDT (c:Cd α):Pm (List (κ×α)):=⟨fun K F H l v=>∃ a kvs,v=.ref a/\H a=some (.dT kvs)/\Paired (KtR K F c) l kvs,
 fun e ⟨a,xs,h1,h2,h3⟩=>⟨a,xs,h1,e.h _ _ h2,Paired.mapP h3 fun _ _=>KtR.mono e.f⟩⟩
def rDT (c:Cd α):Rs (List (κ×α)):=⟨fun K H F2 H2 l v=>∃ a kvs,v=.ref a/\H a=none/\F2 a=none/\H2 a=some (.dT kvs)/\Paired (KtR K F2 c) l kvs,
 fun s ⟨a,xs,h1,h2,h⟩=>⟨a,xs,h1,s.free h2,h⟩⟩
def cFD (c:Cd α):Cd (List (κ×α)):=⟨fun K F l v=>∃ a o kvs,v=.ref a/\F a=some (.frz o (.dT kvs))/\Paired (KtR K F c) l kvs,
 fun s ⟨a,o,xs,h1,h2,h3⟩=>⟨a,o,xs,h1,s _ _ h2,Paired.mapP h3 fun _ _=>KtR.mono s⟩⟩
structure OwnDT (K:W.Frag) (He F H:Hp) (c:Cd α) (l:List (κ×α)) (a:Addr):Prop where
 e:He a=none
 f:F a=none
 h:∃ kvs,H a=some (.dT kvs)/\Paired (KtR K F c) l kvs
theorem OwnDT.mono {l:List (κ×α)} (o:OwnDT K He F H c l a) (E:Ext F H F' H'):OwnDT K He F' H' c l a:=by
 obtain⟨xs,h1,h2⟩:=o.h;refine⟨o.e,?_,xs,E.h _ _ h1,Paired.mapP h2 fun _ _=>KtR.mono E.f⟩;cases e:F' a with
 | none=>rfl
 | some u=>
  rcases E.new a u e with z | z
  ·rw[o.f] at z; cases z
  ·rw[h1] at z; cases z
theorem OwnDT.b {l:List (κ×α)} (o:OwnDT K He F H c l a):(pDT c).rel K F H l (.ref a):=let ⟨xs,h1,h2⟩:=o.h; ⟨a,xs,rfl,h1,h2⟩
theorem jdj:Ev K σ F H jd8 (rDT (κ:=κ) c) (some []):=by
 intro F1 H1 E z e Q k a ha;cases e;exact k _ F1 _ (Ext.newO E.sub ha) ⟨a,[],rfl,ha,E.sub.free ha,jB,.nil⟩
theorem QH {mm_:Option α} (hd:Ev K σ F H td (rF (cFD c)) ml) (hk:Ev K σ F H ty (rF Kt.cd) mk) (e_:mm_=(ml.bind fun l=>mk.bind fun k=>zi l k)):Ev K σ F H (ja5 td ty) (rF c) mm_:=by
 subst e_;intro F1 H1 E z e Q k;obtain⟨l,el,e⟩:=bind_some e;obtain⟨y,ey,e⟩:=bind_some e;unfold zi at e;refine hd F1 H1 E l el _ ?_;rintro w F2 H2 E2 hl;refine hk F2 H2 (E.trans E2) y ey _ fun v F3 H3 E3 hv=>?_;obtain⟨a,o,kvs,rfl,h1,h2⟩:=(cFD c).mono E3.f hl;obtain⟨b,rfl,hb⟩:=Kt.get hv;rcases jbk (k:=y) h2 with⟨g1,g2⟩ | ⟨x,v,g1,g2,r⟩
 ·rw[g1] at e; cases e
 ·rw[g1] at e;cases e;refine⟨a,v,rfl,?_,k v F3 H3 (E2.trans E3) r⟩;rw[<- g2];exact .inr ⟨kvs,_,b,.inr ⟨o,E3.sub _ _ h1⟩,rfl,E3.sub _ _ hb,rfl⟩
theorem Vv {y:κ}{l:List (κ×α)}{mm_:Option α} (hd:Ev K σ F H td (rF (cFD c)) (some l)) (hk:Ev K σ F H ty (rF Kt.cd) (some y)) (e_:mm_=zi l y):Ev K σ F H (ja5 td ty) (rF c) mm_:=QH hd hk e_
theorem Wt {mx mm_:Option α} (hd:Ev K σ F H td (pDT c).rs ml) (hk:Ev K σ F H ty (rF Kt.cd) mk) (hx:Ev K σ F H tv (rF c) mx) (e_:mm_=(ml.bind fun l=>mk.bind fun k=>mx.bind fun x=>some ((GU l k).getD x))):Ev K σ F H (ja7 td ty tv) (rF c) mm_:=by
 subst e_;intro F1 H1 E z e Q k;obtain⟨l,el,e⟩:=bind_some e;obtain⟨y,ey,e⟩:=bind_some e;obtain⟨x0,ex,e⟩:=bind_some e;cases e;refine hd F1 H1 E l el _ ?_;rintro w F2 H2 E2 hl;obtain⟨a,kvs0,rfl,h10,h20⟩:=id hl;refine⟨a,rfl,.inr ⟨kvs0,.inl h10⟩,hk F2 H2 (E.trans E2) y ey _ fun v F3 H3 E3 hv=>hx F3 H3 (E.trans (E2.trans E3)) x0 ex _ fun u F4 H4 E4 hu=>?_⟩;obtain⟨a',kvs,ea,h1,h2⟩:=(pDT c).mono (E3.trans E4) hl;cases ea;obtain⟨b,rfl,hb⟩:=Kt.get hv;refine⟨JU kvs (Kt.k y),DGet.t h1 (E4.h _ _ (E3.sub _ _ hb)),k _ F4 H4 (E2.trans (E3.trans E4)) ?_⟩;show c.rep K F4 ((GU l y).getD x0) ((JU kvs (Kt.k y)).getD u);rcases jbk (k:=y) h2 with⟨g1,g2⟩ | ⟨x,v,g1,g2,r⟩
 ·rw[g1,g2]; exact hu
 ·rw[g1,g2]; exact r
theorem Uj {y:κ}{l:List (κ×α)}{x:α}{mm_:Option α} (hd:Ev K σ F H td (pDT c).rs (some l)) (hk:Ev K σ F H ty (rF Kt.cd) (some y)) (hx:Ev K σ F H tv (rF c) (some x)) (e_:mm_=some ((GU l y).getD x)):Ev K σ F H (ja7 td ty tv) (rF c) mm_:=Wt hd hk hx e_
theorem jdk {mv:Option α} (hk:Ev K σ F H ty (rF Kt.cd) mk) (hv:Ev K σ F H tv (rF c) mv):Ev K σ F H (jbh ty tv) (rDT c) (mk.bind fun k=>mv.bind fun v=>some [(k,v)]):=by
 intro F1 H1 E z e Q k p hp;obtain⟨y,ey,e⟩:=bind_some e;obtain⟨x,ex,e⟩:=bind_some e;cases e;have E0:Ext F1 H1 F1 (upd H1 p (.dT [])):=Ext.newO E.sub hp;have f0:F1 p=none:=E.sub.free hp;refine hk F1 _ (E.trans E0) y ey _ fun v F2 H2 E2 hv2=>hv F2 H2 (E.trans (E0.trans E2)) x ex _ fun u F3 H3 E3 hu=>?_;obtain⟨b,rfl,hb⟩:=Kt.get (Kt.cd.mono E3.f hv2);have E23:=E2.trans E3;have hp3:H3 p=some (.dT []):=E23.h _ _ jB;have o1:OwnDT (κ:=κ) K H1 F1 (upd H1 p (.dT [])) c [] p:=⟨hp,f0,[],jB,.nil⟩;have o3:=o1.mono E23;refine⟨b,Kt.k y,rfl,E3.sub _ _ hb,hp3,k _ F3 _ ((E0.trans E23).upd hp o3.f) ⟨p,_,rfl,hp,o3.f,jB,.cons ⟨rfl,hu⟩ .nil⟩⟩
theorem Vw {k:κ}{v:α}{mm_:Option (List (κ×α))} (hk:Ev K σ F H ty (rF Kt.cd) (some k)) (hv:Ev K σ F H tv (rF c) (some v)) (e_:mm_=some [(k,v)]):Ev K σ F H (jbh ty tv) (rDT c) mm_:=e_ ▸ jdk hk hv
theorem jfI {m:Option (List (κ×α))}{f:List (κ×α)->Option δ} (he:Ev K σ F H te (rDT c) m) (X:Ext Fe He F H) (hm:m.bind f=some r) (k:∀ l a F' H',f l=some r->Ext F H F' H'->Ext Fe He F' H'->H a=none->OwnDT K He F' H' c l a->u' D (σ.set i (some (.ref a))) H'):Gh (GN te (kF i)) u' D σ H:=by
 obtain⟨a,ea,hm⟩:=bind_some hm;refine he F H (Ext.refl X.sub) a ea _ ?_;rintro v F2 H2 E ⟨b,xs,rfl,h1,h2,h3,h4⟩;exact k a b F2 H2 hm E (X.trans E) h1 ⟨X.h.free h1,h2,xs,h3,h4⟩
theorem jdl {l:List (κ×α)}{mv:Option α}{f:List (κ×α)->Option δ} (hi:σ[k']?=some (some (.ref a))) (o:OwnDT K He F H c l a) (hv:Ev K σ F H tv (rF c) mv) (hk:Ev K σ F H ty (rF Kt.cd) mk) (X:Ext Fe He F H) (hm:(mv.bind fun v=>mk.bind fun k=>jb5 l k v).bind f=some r)
  (k:∀ l' F' H',f l'=some r->Chg a F H F' H'->Ext Fe He F' H'->OwnDT K He F' H' c l' a->D.nx σ H'):jfv (GM k') ty tv D σ H:=by
 obtain⟨l',el,hm⟩:=bind_some hm;obtain⟨x,ex,el⟩:=bind_some el;obtain⟨y,ey,el⟩:=bind_some el;unfold jb5 at el;obtain⟨hl,rfl⟩:=ki el;refine hv F H (Ext.refl X.sub) x ex _ fun v F2 H2 E hvv=>⟨_,hi,hk F2 H2 E y ey _ fun w F3 H3 E3 hw=>?_⟩;obtain⟨b,rfl,hb⟩:=Kt.get hw;have E':=E.trans E3;have o2:=o.mono E';obtain⟨kvs,h1,h2⟩:=o2.h;have h5:=jha (k:=y) (c.mono E3.f hvv) h2;exact⟨a,_,rfl,DPut.t h1 (E3.sub _ _ hb) (by rw[XH,<- h2.length]; exact hl),k _ F3 _ hm (Jd E') ((X.trans E').upd o.e o2.f) ⟨o.e,o2.f,_,jB,h5⟩⟩
theorem jdm {m:Option (List (κ×α))}{f:List (κ×α)->Option δ} (he:Ev K σ F H te (rDT c) m) (X:Ext Fe He F H) (hm:m.bind f=some r) (k:∀ l v F' H',f l=some r->Ext F H F' H'->Ext Fe He F' H'->(cFD c).rep K F' l v->D.nx (σ.set i (some v)) H'):sFz i te D σ H:=by
 obtain⟨l,el,hm⟩:=bind_some hm;refine he F H (Ext.refl X.sub) l el _ ?_;rintro v F2 H2 E ⟨a,kvs,rfl,h1,h2,h3,h4⟩;refine⟨a,kvs,rfl,h3,fun o=>?_⟩;have E2:Ext F H (upd F2 a (.frz o (.dT kvs))) (upd H2 a (.frz o (.dT kvs))):=⟨E.f.trans (kn h2),Same.upd2 E.h h1,fun b u hb=>by
  by_cases q:b=a
  ·subst q; exact .inr (Ja h1)
  ·rw[jz q] at hb; exact E.new b u hb,Same.updB E.sub⟩
 exact k l _ _ _ hm E2 (X.trans E2) ⟨a,o,kvs,rfl,jB,Paired.mapP h4 fun _ _=>KtR.mono (kn h2)⟩
theorem jfJ {m:Option (List (κ×α))}{f:List (κ×α)->Option δ} (he:Ev K σ F H te (rDT c) m) (X:Ext Fe He F H) (hm:m.bind f=some r) (k:∀ l v F' H',f l=some r->Ext F H F' H'->Ext Fe He F' H'->(cFD c).rep K F' l v->u' D (σ.set i (some v)) H'):Gh (sFz i te) u' D σ H:=
 jdm (D:={ D with nx:=u' D }) he X hm k
theorem jfK {l:List (κ×α)}{f:List (κ×α)->Option δ} (hi:σ[j]?=some (some (.ref a))) (o:OwnDT K He F H c l a) (X:Ext Fe He F H) (hm:(some l).bind f=some r) (k:∀ l v F' H',f l=some r->Chg a F H F' H'->Ext Fe He F' H'->(cFD c).rep K F' l v->D.nx (σ.set i (some v)) H'):sFz i (GM j) D σ H:=by
 obtain⟨kvs,h1,h2⟩:=o.h;refine⟨_,hi,a,kvs,rfl,h1,fun ob=>?_⟩;have X2:Ext Fe He (upd F a (.frz ob (.dT kvs))) (upd H a (.frz ob (.dT kvs))):=⟨X.f.trans (kn o.f),Same.upd2 X.h o.e,fun b u hb=>by
  by_cases q:b=a
  ·subst q; exact .inr (Ja o.e)
  ·rw[jz q] at hb; exact X.new b u hb,Same.updB X.sub⟩
 exact k l _ _ _ hm ⟨kn o.f,fun b u q h=>by rw[jz q]; exact h,fun b u q h=>by rw[jz q] at h; exact .inl h⟩ X2 ⟨a,ob,kvs,rfl,jB,Paired.mapP h2 fun _ _=>KtR.mono (kn o.f)⟩
theorem jhb {l:List (κ×α)} (h:∀ F H,G F H->F a=some (.frz o (.dT kvs))/\Same F H) (hp:Paired (KtR K F1 c) l kvs):ItOk K (Itk a o kvs.length) Kt.cd (l.map (·.1)) G where
 go:=fun i F H g hi=>by
  rw[Xp,hp.length] at hi;exact⟨kvs,(h F H g).2 _ _ (h F H g).1,rfl,hi⟩
 yld:=fun i F H x H' g y k hk=>by
  obtain⟨e,b,rfl,y⟩:=y;subst e;obtain⟨s1,s2⟩:=h F H' g;rw[Xt] at hk;obtain⟨p,hpi,rfl⟩:=Option.map_eq_some_iff.mp hk;obtain⟨q,hq,r1,r2⟩:=Paired.at hp hpi;have hb:=y kvs q (s2 _ _ s1) hq;rw[r1] at hb;refine⟨upd F b (.tup ((Kt.k p.1).map kV)),⟨fun c' u hc=>?_,Same.refl _,fun c' u hc=>?_,fun c' u hc=>?_⟩,Kt.put jB⟩
  ·by_cases z:c'=b
   ·subst z;have:=s2 _ _ hc;rw[hb] at this;rw[jB];exact this
   ·rw[jz z]; exact hc
  ·by_cases z:c'=b
   ·subst z;exact .inr (jgz hb)
   ·rw[jz z] at hc; exact .inl hc
  ·by_cases z:c'=b
   ·subst z;rw[jB] at hc;rw[<- hc];exact hb
   ·rw[jz z] at hc; exact s2 _ _ hc
 stop:=fun F H g=>by
  rw[Xp,hp.length];exact⟨kvs,(h F H g).2 _ _ (h F H g).1,rfl,Xh _⟩
theorem jhc {m:Option (List (κ×α))} (h:Ev K σ F H t (rF (cFD c)) m):Ei K σ F H Fe He (jit t) (Kt.cd (κ:=κ)) (m.bind fun l=>some (l.map (·.1))):=by
 intro X l e R k;obtain⟨l0,e0,e⟩:=bind_some e;cases e;refine h F H (Ext.refl X.sub) l0 e0 _ ?_;rintro v F2 H2 E ⟨a,o,kvs,rfl,h1,h2⟩;exact⟨a,o,kvs,rfl,E.sub _ _ h1,k _ F2 H2 E (jhb (F1:=F2) (fun F' H' g=>⟨g.2 _ _ h1,g.1.sub⟩) h2)⟩
theorem Zj {l:List (κ×α)}{mm_:Option (List κ)} (h:Ev K σ F H t (rF (cFD c)) (some l)) (e_:mm_=some (l.map (·.1))):Ei K σ F H Fe He (jit t) (Kt.cd (κ:=κ)) mm_:=e_ ▸ jhc h
end
end L3
namespace L2
open PySem PySem.Spec
def jiu:TS:=fun _ _ _=>False
theorem xY {l:List Stmt}:PSs X l jiu:=fun _ _ _ _ _ _ h=>h.elim
theorem Yl {rest:List Expr}{t:TA} (ha:PE X (.List es p) te) (hr:PA X rest t):PA X (.List es p::rest) (jF te t):=ja ha hr (by rfl)
def rXN (K:W.Frag):List V->Hp->VK->Prop:=fun xs H Q=>(∃ a C d fr c cv b,xs=[.ref a,c]/\(∀ u,RelV c u->u=cv)/\H a=some (XO a C d fr)/\(∀ dx,d=some dx->∃ fs,H dx=some (XD dx fs))/\XIs K C/\W.kitOne K (.ref C) cv=some b/\Q (.bl b) H) \/
 (∃ c cv b,xs=[.non,c]/\(∀ u,RelV c u->u=cv)/\W.kitOne K (.type "NoneType") cv=some b/\Q (.bl b) H)
theorem qI:zw X (.builtin "isinstance") (rXN X.K):=by
 intro pins s σ H xs us Q I r h;rcases h with h | ⟨c,cv,b,e,hc,hk,q⟩
 ·exact Vk pins s σ H xs us Q I r h
 ·exact Q4 pins s σ H xs us Q I r ⟨_,c,cv,_,b,e,hc,.non,hk,q⟩
end L2
namespace L3
open PySem PySem.Spec L2
section
variable {F:Hp}{t:TE}{m:Option (Option α)}{o:Option α}
def cOp (c:Cd α):Cd (Option α):=⟨fun K H o v=>match o with | none=>v=.non | some l=>c.rep K H l v,
 fun {K F F' o v} s h=>by
  cases o with
  | none=>exact h
  | some l=>exact c.mono s h⟩
theorem jdn {mm_:Option α} (h:Ev K σ F H t (rF (cOp c)) m) (e_:mm_=m.bind id):Ev K σ F H t (rF c) mm_:=by
 subst e_;intro F1 H1 E z e Q k;obtain⟨l,el,e⟩:=bind_some e;have e':l=some z:=e;subst e';exact h F1 H1 E _ el Q fun v F2 H2 E2 hv=>k v F2 H2 E2 hv
theorem Gs {mm_:Option α} (h:Ev K σ F H t (rF (cOp c)) (some o)) (e_:mm_=o):Ev K σ F H t (rF c) mm_:=jdn h e_
def jfL (e:Option Er) (m:Option α):Option (Option α×Option Er):=match e with | some er=>some (none,some er) | none=>m.bind fun v=>some (some v,none)
variable {f:Nat}
def BE (K:W.Frag) (σ:St) (F H:Hp) (cs:Ecs) (tb:(St->XK)->TS) (me:Option Er):Prop:=
 ∀ F1 H1,Ext F H F1 H1->∀ er,me=some er->∀ E:St->XK,(∀ cls d F2 H2,Ext F1 H1 F2 H2->jd5 cs er cls d F2->E σ cls d H2)->∀ D,tb E D σ H1
def BV (K:W.Frag) (σ:St) (F H:Hp) (c:Cd α) (f:Nat) (tb:(St->XK)->TS) (mv:Option α):Prop:=
 ∀ F1 H1,Ext F H F1 H1->∀ z,mv=some z->∀ (E:St->XK) (D:Ends),(∀ v F2 H2,Ext F1 H1 F2 H2->c.rep K F2 z v->D.nx (σ.set f (some v)) H2)->tb E D σ H1
theorem jbl {tc:(St->XK)->TE}{me:Option Er}{g:(St->XK)->TG} (h:∀ E:St->XK,EvE K σ F H (tc E) cs (E σ) me):BE K σ F H cs (fun E=>GN (tc E) (g E)) me:=
 fun F1 H1 X er he E k D=>h E F1 H1 X er he k _
theorem jbm {tc:(St->XK)->TE}{mv:Option α} (h:∀ E:St->XK,Ev K σ F H (tc E) (rF c) mv):BV K σ F H c f (fun E=>GN (tc E) (kF f)) mv:=
 fun F1 H1 X z hz E D k=>h E F1 H1 X z hz _ fun v F2 H2 E2 hv=>k v F2 H2 E2 hv
theorem jbn {u:TT}{b:Bool}{t1 t2:(St->XK)->TS}{m1 m2:Option Er} (hc:Et K σ F H u (some b)) (h1:BE K σ F H cs t1 m1) (h2:BE K σ F H cs t2 m2):BE K σ F H cs (fun E=>ZN u (t1 E) (t2 E)) (bif b then m1 else m2):=by
 intro F1 H1 X er he E k D;refine hc F1 H1 X b rfl _ fun F2 H2 E2=>?_;cases b with
 | true=>exact VZ (h1 F2 H2 (X.trans E2) er he E (fun cls d F3 H3 E3 z=>k cls d F3 H3 (E2.trans E3) z) D)
 | false=>exact VY (h2 F2 H2 (X.trans E2) er he E (fun cls d F3 H3 E3 z=>k cls d F3 H3 (E2.trans E3) z) D)
theorem jbo {u:TT}{b:Bool}{t1 t2:(St->XK)->TS}{m1 m2:Option α} (hc:Et K σ F H u (some b)) (h1:BV K σ F H c f t1 m1) (h2:BV K σ F H c f t2 m2):BV K σ F H c f (fun E=>ZN u (t1 E) (t2 E)) (bif b then m1 else m2):=by
 intro F1 H1 X z hz E D k;refine hc F1 H1 X b rfl _ fun F2 H2 E2=>?_;cases b with
 | true=>exact VZ (h1 F2 H2 (X.trans E2) z hz E D (fun v F3 H3 E3 r=>k v F3 H3 (E2.trans E3) r))
 | false=>exact VY (h2 F2 H2 (X.trans E2) z hz E D (fun v F3 H3 E3 r=>k v F3 H3 (E2.trans E3) r))
theorem Ju {tb:(St->XK)->TS}:BE K σ F H cs tb none:=fun _ _ _ _ h=>by cases h
theorem Jv {tb:(St->XK)->TS}:BV K σ F H c f tb none:=fun _ _ _ _ h=>by cases h
theorem Ym {x:Option V} (h:σ[j]?=some x):σ.set j x=σ:=by
 refine List.ext_getElem? fun n=>?_;rw[List.getElem?_set];by_cases q:j=n
 ·subst q; rw[if_pos rfl,h]; simp[(List.getElem?_eq_some_iff.mp h).1]
 ·rw[if_neg q]
variable {tb:(St->XK)->TS}{me:Option Er}{mv:Option α}{g:Option α×Option Er->Option δ} 
theorem jfM (hE:BE K σ F H cs tb me) (hV:BV K σ F H c f tb mv) (T:jfp K CT cs) (hij:i≠j) (hfj:f≠j) (hi:σ[i]?=some none) (hj:σ[j]?=some (some .non)) (hf:σ[f]?=some (some .non)) (X:Ext Fe He F H) (hm:(jfL me mv).bind g=some r)
  (k:∀ a o w v F' H',g (a,o)=some r->Ext F H F' H'->Ext Fe He F' H'->(cOp c).rep K F' a w->(cOE cs).rep K F' o v->D.nx ((σ.set f (some w)).set j (some v)) H'):jh1 K CT i tb (GN (GM i) (kF j)) D σ H:=by
 have hil:i < σ.length:=(List.getElem?_eq_some_iff.mp hi).1;unfold jh1;cases hme:me with
 | some er=>
  rw[hme] at hm;have hm':g (none,some er)=some r:=hm;refine hE F H (Ext.refl X.sub) er hme _ (fun cls d F2 H2 E2 z=>?_) _;obtain⟨C,ns,rfl,hc,hl,hd⟩:=z;obtain⟨fo,h1,h2⟩:=T _ _ _ hc;refine⟨C,fo,rfl,h1,h2,fun a ha=>?_⟩;refine⟨_,wI hil,?_⟩;have e1:((σ.set i (some (V.ref a))).set j (some (V.ref a))).set i none=σ.set j (some (V.ref a)):=by
   refine List.ext_getElem? fun n=>?_;by_cases q:i=n
   ·subst q; rw[wI (by simpa using hil),wa (Ne.symm hij),hi]
   ·rw[wa q];by_cases q2:j=n
    ·subst q2; simp[List.getElem?_set]
    ·rw[wa q2,wa q,wa q2]
  have E3:Ext F2 H2 (upd F2 a (XO a C d false)) (upd H2 a (XO a C d false)):=Ext.newF E2.sub ha;have:=k none (some er) .non (.ref a) _ _ hm' (E2.trans E3) (X.trans (E2.trans E3)) rfl ⟨a,C,d,ns,rfl,jB,hc,hl,hd.imp id fun⟨dx,e,z⟩=>⟨dx,e,by rw[jz (qF z (E2.sub.free ha))]; exact z⟩⟩;show D.nx (((σ.set i (some (V.ref a))).set j (some (V.ref a))).set i none) _;rw[e1];rw[Ym hf] at this;exact this
 | none=>
  rw[hme] at hm;obtain⟨z,ez,hm⟩:=bind_some (show (mv.bind fun v=>some (some v,none)).bind g=some r from hm);obtain⟨y,ey,ez⟩:=bind_some ez;cases ez;refine hV F H (Ext.refl X.sub) y ey _ _ fun v F2 H2 E2 hv=>?_;have:=k (some y) none v .non F2 H2 hm E2 (X.trans E2) hv rfl;rw[Ym (j:=j) (x:=some V.non) (by rw[wa hfj]; exact hj)] at this;exact this
theorem jbp (hE:BE K σ F H cs tb me) (hV:BV K σ F H c f tb mv) (T:jfp K CT cs) (hij:i≠j) (hfj:f≠j) (hi:σ[i]?=some none) (hj:σ[j]?=some (some .non)) (hf:σ[f]?=some (some .non)) (X:Ext Fe He F H) (hm:(jfL me mv).bind g=some r)
  (k:∀ a o w v F' H',g (a,o)=some r->Ext F H F' H'->Ext Fe He F' H'->(cOp c).rep K F' a w->(cOE cs).rep K F' o v->u' D ((σ.set f (some w)).set j (some v)) H'):Gh (jh1 K CT i tb (GN (GM i) (kF j))) u' D σ H:=
 jfM (D:={ D with nx:=u' D }) hE hV T hij hfj hi hj hf X hm k
structure XClN (K:W.Frag) (mg:Str->Option Value) (cs:Ecs) (x:Str) (ks:List Nat):Prop where
 ex:∃ C,mg x=some (.ref C)/\jd6 K cs (.ref C) ks/\W.kitOne K (.type "NoneType") (.ref C)=some false
theorem jfN {mo:Option (Option Er)}{c:V} (hc:∀ u,RelV c u->u=cv) (hk:jd6 K cs cv ks) (hn:W.kitOne K (.type "NoneType") cv=some false) (h:Ev K σ F H t (rF (cOE cs)) mo) :
  Ev K σ F H (tCB (rXN K) (jF t (jF (tC c) qD))) (rF cB) (mo.bind fun o=>some (o.elim false (Uf ks))):=by
 intro F1 H1 E z e Q k;obtain⟨o,eo,e1⟩:=bind_some e;cases o with
 | none=>
  cases e1;refine h F1 H1 E _ eo _ fun v F2 H2 E2 hv=>?_;have e:v=.non:=hv;subst e;exact .inr ⟨c,cv,false,rfl,hc,hn,k _ F2 H2 E2 rfl⟩
 | some er=>
  cases e1;refine h F1 H1 E _ eo _ fun v F2 H2 E2 hv=>?_;obtain⟨a,C,d,ns,ev,ha,hcs,hl,hd⟩:=hv;subst ev;obtain⟨x1,x2⟩:=hk _ _ _ hcs;refine .inl ⟨a,C,d,false,c,cv,Uf ks er,rfl,hc,E2.sub _ _ ha,fun dx e=>?_,x1,x2,k _ F2 H2 E2 rfl⟩;rcases hd with⟨_,hn⟩ | ⟨dx',e',hx⟩
  ·rw[hn] at e; cases e
  ·rw[e'] at e; cases e; exact ⟨_,E2.sub _ _ hx⟩
theorem qj {oe:Option Er}{c:V}{mm_:Option Bool} (hc:∀ u,RelV c u->u=cv) (hk:jd6 K cs cv ks) (hn:W.kitOne K (.type "NoneType") cv=some false) (h:Ev K σ F H t (rF (cOE cs)) (some oe)) (e_:mm_=some (oe.elim false (Uf ks))) :
  Ev K σ F H (tCB (rXN K) (jF t (jF (tC c) qD))) (rF cB) mm_:=e_ ▸ jfN hc hk hn h
def jh2 (K:W.Frag) (C:Addr):Bool:=decide (W.kitOne K (.type "NoneType") (.ref C)=some false)
theorem Wu {es:List (Addr×Option Addr)} (h:Wp K CT es=true) (hm:mg x=some (.ref C)) (h2:Wq K es (.ref C) ks=true) (h3:jh2 K C=true):XClN K mg ((es.zip nss).map fun z=>(z.1.1,z.2)) x ks:=⟨C,hm,ja_ h h2,of_decide_eq_true h3⟩
end
end L3
namespace MM
open PySem L2 L3
section
theorem jhd {f:α->Option β}{a:α} (x:Option α) (e:x=some a):x.bind f=f a:=by rw[e]; rfl
theorem bs {f:α->Option β}{a:α}:(some a).bind f=f a:=jhd _ rfl
theorem jhe {a b:α} (x:Bool) (e:x=true):(bif x then a else b)=a:=by rw[e]; rfl
theorem ct {a b:α}:(bif true then a else b)=a:=jhe _ rfl
theorem jhf {a b:α} (x:Bool) (e:x=false):(bif x then a else b)=b:=by rw[e]; rfl
theorem cf {a b:α}:(bif false then a else b)=b:=jhf _ rfl
theorem isIn_iff [DecidableEq α] {a:α} :Qq a l=true ↔ a∈l:=by unfold Qq; exact decide_eq_true_iff
theorem isEq_iff [DecidableEq α] {a b:α}:V4 a b=true ↔ a=b:=by unfold V4; exact decide_eq_true_iff
theorem isEq_self [DecidableEq α] (a:α):V4 a a=true:=isEq_iff.mpr rfl
theorem rng (h:n<=1000000000):yg 0 (n:Int)=some ((List.range n).map fun k=>((k:Nat):Int)):=by
 unfold yg;rw[if_pos ⟨by omega,by omega,by omega,by omega⟩];unfold yR;rw[Int.sub_zero,Int.toNat_natCast];congr 2
 funext k
 omega
theorem rng2 {a b:Nat} (h:b<=1000000000) (ha:a<=1000000000):yg (a:Int) (b:Int)=some ((List.range (b-a)).map fun k=>((a+k:Nat):Int)):=by
 unfold yg;rw[if_pos ⟨by omega,by omega,by omega,by omega⟩];unfold yR;have:((b:Int)-(a:Int)).toNat=b-a:=by omega
 rw[this];congr 2
theorem at_nat {x:α} (h:l[i]?=some x):pAt l (i:Int)=some x:=by unfold pAt; exact jeK h
theorem at_get (h:i<l.length):pAt l (i:Int)=some l[i]:=at_nat (List.getElem?_eq_getElem h)
theorem app {x:α} (h:l.length<16777216):VQ l x=some (l++[x]):=by unfold VQ; exact if_pos h
theorem cat {m:List α} (h:l.length+m.length<=16777216):JT l m=some (l++m):=by unfold JT; exact if_pos h
theorem modP {i j:Int} (h:0<j):U7 i j=some (i % j):=W7 h
theorem divP {i j:Int} (h:0<j) (h2:j<2 ^ 250):jeQ i j=some (i / j):=W6 ⟨h,Int.lt_trans h2 (by have:(2:Nat) ^ 250<2 ^ 1000:=Nat.pow_lt_pow_right (by decide) (by decide); exact_mod_cast this)⟩
theorem mulP {i j:Int} (h:-1000000<i/\i<1000000):ZD i j=some (i * j):=jdY ⟨by omega,by omega⟩
theorem comp {p:α->Option Bool}{f:α->Option β} (q:α->Bool) (g:α->β) (hl:l.length<=16777216) (hp:∀ x∈l,p x=some (q x)) (hf:∀ x∈l,q x=true->f x=some (g x)):qa l p f=some ((l.filter q).map g):=by
 unfold qa;rw[if_pos hl];clear hl
 induction l with
 | nil=>rfl
 | cons x r ih=>
  unfold J0;have ih':=ih (fun y hy=>hp y (List.mem_cons_of_mem _ hy)) fun y hy=>hf y (List.mem_cons_of_mem _ hy);rw[hp x List.mem_cons_self,Option.bind_some,ih'];cases h:q x with
  | true=>rw[hf x List.mem_cons_self h]; simp[h]
  | false=>simp[h]
theorem comp1 {f:α->Option β} (g:α->β) (hl:l.length<=16777216) (hf:∀ x∈l,f x=some (g x)):qa l (fun _=>some true) f=some (l.map g):=by
 rw[comp (fun _=>true) g hl (fun _ _=>rfl) fun x hx _=>hf x hx,List.filter_eq_self.mpr (fun _ _=>rfl)]
theorem compR {p:Int->Option Bool}{f:Int->Option β} (q:Nat->Bool) (g:Nat->β) (hn:n<=1000000) (hp:∀ k,k<n->p (k:Int)=some (q k)) (hf:∀ k,k<n->q k=true->f (k:Int)=some (g k)) :
  qa ((List.range n).map fun k=>((k:Nat):Int)) p f=some (((List.range n).filter q).map g):=by
 rw[comp (fun x=>q x.toNat) (fun x=>g x.toNat) (by simp; omega)]
 ·rw[List.filter_map,List.map_map];simp[Function.comp_def]
 ·intro x hx;obtain⟨k,hk,rfl⟩:=List.mem_map.mp hx;rw[hp k (List.mem_range.mp hk),Int.toNat_natCast]
 ·intro x hx h;obtain⟨k,hk,rfl⟩:=List.mem_map.mp hx;rw[Int.toNat_natCast] at h ⊢;exact hf k (List.mem_range.mp hk) h
theorem compR1 {f:Int->Option β} (g:Nat->β) (hn:n<=1000000) (hf:∀ k,k<n->f (k:Int)=some (g k)) :
  qa ((List.range n).map fun k=>((k:Nat):Int)) (fun _=>some true) f=some ((List.range n).map g):=by
 rw[compR (fun _=>true) g hn (fun _ _=>rfl) fun k hk _=>hf k hk,List.filter_eq_self.mpr (fun _ _=>rfl)]
theorem forM_cons {f:β->α->Option β}{x:α}{r:List α}{b:β}:L3.forM (x::r) b f=(f b x).bind fun b'=>L3.forM r b' f:=rfl
theorem forM_inv {f:β->α->Option β} (I:Nat->β->Prop) (h0:I 0 b0) (hs:∀ k x b,l[k]?=some x->I k b->∃ b',f b x=some b'/\I (k+1) b'):∃ b',L3.forM l b0 f=some b'/\I l.length b':=by
 induction l generalizing b0 I with
 | nil=>exact ⟨b0,rfl,h0⟩
 | cons x r ih=>
  obtain⟨b1,e1,i1⟩:=hs 0 x b0 rfl h0;obtain⟨b2,e2,i2⟩:=ih (fun k b=>I (k+1) b) i1 fun k y b hk hi=>hs (k+1) y b (by simpa using hk) hi;exact⟨b2,by rw[forM_cons,e1]; exact e2,by simpa using i2⟩
theorem Zk {f:β->Int->Option β} (I:Nat->β->Prop) (h0:I 0 b0) (hs:∀ k b,k<n->I k b->∃ b',f b (k:Int)=some b'/\I (k+1) b'):∃ b',L3.forM ((List.range n).map fun k=>((k:Nat):Int)) b0 f=some b'/\I n b':=by
 obtain⟨b',e,i⟩:=forM_inv (l:=(List.range n).map fun k=>((k:Nat):Int)) (f:=f) I h0 fun k x b hk hi=>by
  rw[List.getElem?_map] at hk;by_cases hlt:k<n
  ·rw[List.getElem?_range hlt] at hk;cases hk;exact hs k b hlt hi
  ·rw[List.getElem?_eq_none (by simp; omega)] at hk;cases hk
 exact⟨b',e,by simpa using i⟩
theorem forM_then {f:β->Int->Option β}{R:Option δ->Prop} (I:Nat->β->Prop) (h0:I 0 b0) (hs:∀ k b,k<n->I k b->∃ b',f b (k:Int)=some b'/\I (k+1) b') (hk:∀ b,I n b->R (kk b)) :
  R ((L3.forM ((List.range n).map fun k=>((k:Nat):Int)) b0 f).bind kk):=by
 obtain⟨b,e,i⟩:=Zk (f:=f) I h0 hs;rw[e];exact hk b i
theorem forM_thenL {f:β->α->Option β}{R:Option δ->Prop} (I:Nat->β->Prop) (h0:I 0 b0) (hs:∀ k x b,l[k]?=some x->I k b->∃ b',f b x=some b'/\I (k+1) b') (hk:∀ b,I l.length b->R (kk b)) :
  R ((L3.forM l b0 f).bind kk):=by
 obtain⟨b,e,i⟩:=forM_inv (f:=f) I h0 hs;rw[e];exact hk b i
theorem jbq {f:β->α->Option (Fl β γ)}{x:α}{r:List α}{b b':β} (h:f b x=some (.nx b')):W3 (x::r) b f=W3 r b' f:=by
 show (f b x).bind _=_;rw[h];rfl
theorem forR_inv {f:β->α->Option (Fl β γ)} (I:Nat->β->Prop) (h0:I 0 b0) (hs:∀ k x b,l[k]?=some x->I k b->∃ b',f b x=some (.nx b')/\I (k+1) b'):∃ b',W3 l b0 f=some (.nx b')/\I l.length b':=by
 induction l generalizing b0 I with
 | nil=>exact ⟨b0,rfl,h0⟩
 | cons x r ih=>
  obtain⟨b1,e1,i1⟩:=hs 0 x b0 rfl h0;obtain⟨b2,e2,i2⟩:=ih (fun k b=>I (k+1) b) i1 fun k y b hk hi=>hs (k+1) y b (by simpa using hk) hi;exact⟨b2,by rw[jbq e1]; exact e2,by simpa using i2⟩
theorem shl1 {t:Nat} (h:t<=1000):JY 1 (t:Int)=some ((2 ^ t:Nat):Int):=by
 rw[jcx ⟨by omega,by omega,by decide⟩,Int.toNat_natCast];simp
theorem shr {b t:Nat}:jeR (b:Int) (t:Int)=some ((b / 2 ^ t:Nat):Int):=by
 rw[jcy (by omega),Int.toNat_natCast];simp[Int.natCast_ediv]
end
end MM
namespace L3
open PySem PySem.Spec L2
theorem Ext.xc {α:Type}{c:Cd α}{K:W.Frag}{F H F' H':Hp}{a:α}{v:V} (E:Ext F H F' H') (h:c.rep K F a v):c.rep K F' a v:=Cd.mono _ E.f h
theorem Ext.xd {G F H F' H':Hp} (E:Ext F H F' H') (h:Same G F):Same G F':=Same.trans h E.f
theorem Ext.xb {α:Type}{c:Cd α}{K:W.Frag}{He F H F' H':Hp}{a:List α}{v:V} (E:Ext F H F' H') (h:Bor K He F c a v):Bor K He F' c a v:=Bor.mono h E.f
end L3
namespace Lw
open PySem L2 L3
structure MOrder where
 many:Int
 beneath:(List Int)
 neighbours:(List (Int×Int))
def GV (u1 u2 u3:V):List (Str×V):=(GR "neighbours" u3 (GR "beneath" u2 (GR "many" u1 [])))
def jp (C:Addr):Cd MOrder:=⟨fun K H o v=>∃ a dx u1 u2 u3,v=.ref a/\H a=some (.ins C dx (GV u1 u2 u3))/\cI.rep K H o.many u1/\(cT cI).rep K H o.beneath u2/\(cT (cP cI cI)).rep K H o.neighbours u3,fun s ⟨a,dx,u1,u2,u3,e,h,r1,r2,r3⟩=>⟨a,dx,u1,u2,u3,e,s _ _ h,Cd.mono _ s r1,Cd.mono _ s r2,Cd.mono _ s r3⟩⟩
structure Txt_Order (K:W.Frag) (mg:Str->Option Value) (C:Addr):Prop where
 cl:Cls K C
 n_many:NoAttr K C "many"
 n_beneath:NoAttr K C "beneath"
 n_neighbours:NoAttr K C "neighbours"
theorem Qc (T:Txt_Order K mg C):jaj K (jp C) "many" cI (fun o=>o.many):=fun⟨a,dx,u1,u2,u3,e,h,r1,r2,r3⟩=>⟨a,C,dx,_,u1,e,h,T.cl,T.n_many,by unfold GV; rw[ku,if_neg (by decide +kernel),ku,if_neg (by decide +kernel),ku,if_pos rfl],r1⟩
theorem xj (T:Txt_Order K mg C):jaj K (jp C) "beneath" (cT cI) (fun o=>o.beneath):=fun⟨a,dx,u1,u2,u3,e,h,r1,r2,r3⟩=>⟨a,C,dx,_,u2,e,h,T.cl,T.n_beneath,by unfold GV; rw[ku,if_neg (by decide +kernel),ku,if_pos rfl],r2⟩
theorem qJ:jhY (jp C) C "size":=fun⟨a,dx,u1,u2,u3,e,h,_⟩=>⟨a,dx,_,e,h,by unfold GV; rw[ku,if_neg (by decide +kernel),ku,if_neg (by decide +kernel),ku,if_neg (by decide +kernel)]; rfl⟩
@[irreducible] def ko (script:(List Int)) (k_:Int):Option Int:=
 ((bif (decide ((script.length:Int)=0)) then some true else (((((pAt script 0)).bind fun t1=>some ((t1 % 2)))).bind fun t2=>(some (0)).bind fun t3=>some ((decide (t2=t3)))))).bind fun q6=>bif q6 then
 (bif (decide (k_<(script.length:Int))) then (pAt script k_) else some (0))
 else
 (((some (script)).bind fun t4=>((U7 k_ (script.length:Int))).bind fun t5=>(pAt t4 t5))).bind fun cell_here=>
 (some ((((cell_here+(7919 * (k_+1))) * 6364136223846793005) % 2305843009213693951))).bind fun low=>
 some (((((cell_here % (10 ^ 60:Int)) / 2305843009213693951) * 2305843009213693951)+low))
@[irreducible] def qk (script:(List Int)) (most:Int):Option (Int×(List (Int×Int))):=
 (((some (1)).bind fun t4=>((((((ko script 0)).bind fun t1=>some ((t1 / 2)))).bind fun t2=>(some ((mn2 most 6))).bind fun t3=>(U7 t2 t3))).bind fun t5=>some ((t4+t5)))).bind fun n_=>
 ((ko script 1)).bind fun bits=>
 (some (([]:List (Int×Int)))).bind fun pairs=>
 (((yg 0 n_)).bind fun l14=>L3.forM l14 (bits,pairs) (fun z8 high=>
 (((yg 0 high)).bind fun l12=>L3.forM l12 (z8.1,z8.2) (fun z10 low=>
 (bif (decide ((z10.1 % 2)=1)) then
 ((VQ z10.2 (low,high))).bind fun pairs=>
 some pairs
 else
 some z10.2).bind fun pairs=>
 (some ((z10.1 / 2))).bind fun bits=>
 some (bits,pairs))).bind fun z13=>
 some (z13.1,z13.2))).bind fun z15=>
 some ((n_,z15.2))
@[irreducible] def GJ (yc:Int) (columns:Int):Option (List (Int×Int)):=
 (some (([]:List (Int×Int)))).bind fun pairs=>
 (((yg 0 yc)).bind fun l25=>L3.forM l25 pairs (fun pairs r_=>
 (((yg 0 columns)).bind fun l24=>L3.forM l24 pairs (fun pairs c_=>
 (bif (decide ((c_+1)<columns)) then
 ((((((((ZD r_ columns)).bind fun t4=>(some (c_)).bind fun t5=>some ((t4+t5)))).bind fun t10=>((((((ZD r_ columns)).bind fun t6=>(some (c_)).bind fun t7=>some ((t6+t7)))).bind fun t8=>(some (1)).bind fun t9=>some ((t8+t9)))).bind fun t11=>some ((t10,t11)))).bind fun t12=>(VQ pairs t12))).bind fun pairs=>
 some pairs
 else
 some pairs).bind fun pairs=>
 (bif (decide ((r_+1)<yc)) then
 ((((((((ZD r_ columns)).bind fun t14=>(some (c_)).bind fun t15=>some ((t14+t15)))).bind fun t20=>((((((ZD r_ columns)).bind fun t16=>(some (columns)).bind fun t17=>some ((t16+t17)))).bind fun t18=>(some (c_)).bind fun t19=>some ((t18+t19)))).bind fun t21=>some ((t20,t21)))).bind fun t22=>(VQ pairs t22))).bind fun pairs=>
 some pairs
 else
 some pairs).bind fun pairs=>
 some pairs)).bind fun pairs=>
 some pairs)).bind fun pairs=>
 some pairs
@[irreducible] def yx (script:(List Int)) (most:Int):Option (Int×(List (Int×Int))):=
 ((bif (decide ((script.length:Int)=0)) then some true else (((((pAt script 0)).bind fun t1=>some ((t1 % 2)))).bind fun t2=>(some (0)).bind fun t3=>some ((decide (t2=t3)))))).bind fun q53=>bif q53 then
 (qk script most)
 else
 ((((ko script 0)).bind fun t4=>some ((t4 % 5)))).bind fun kind=>
 (((some (1)).bind fun t7=>((((ko script 1)).bind fun t5=>(some (most)).bind fun t6=>(U7 t5 t6))).bind fun t8=>some ((t7+t8)))).bind fun n_=>
 (((bif (Qq kind ([2,3]:List Int)) then (((((((ko script 0)).bind fun t9=>some ((t9 / 5)))).bind fun t10=>some ((t10 % 8)))).bind fun t11=>(some (0)).bind fun t12=>some ((decide (t12<t11)))) else some false)).bind fun q52=>bif q52 then
 (some ((mn2 n_ 7))).bind fun n_=>
 some n_
 else
 some n_).bind fun n_=>
 bif (decide (kind=0)) then
 (((some (1)).bind fun t15=>((((ko script 1)).bind fun t14=>some ((t14 % 3)))).bind fun t16=>some ((t15+t16)))).bind fun yc=>
 (((some (1)).bind fun t19=>((((ko script 2)).bind fun t17=>((jeQ most yc)).bind fun t18=>(U7 t17 t18))).bind fun t20=>some ((t19+t20)))).bind fun columns=>
 (((ZD yc columns)).bind fun t21=>((GJ yc columns)).bind fun t22=>some ((t21,t22)))
 else
 bif (decide (kind=1)) then
 ((some (n_)).bind fun t26=>((((yg 0 (n_-1))).bind fun l25=>qa l25 (fun _=>some true) (fun k_=>some ((k_,(k_+1)))))).bind fun t27=>some ((t26,t27)))
 else
 (some (([]:List (Int×Int)))).bind fun pairs=>
 (bif ((decide (2<kind))&&(decide (1<n_))) then
 (((((((((((ko script 2)).bind fun t28=>some ((t28 % 7)))).bind fun t34=>((((some (8)).bind fun t30=>((((ko script 2)).bind fun t29=>some ((t29 % 13)))).bind fun t31=>some ((t30+t31)))).bind fun t32=>(some ([]:List Int)).bind fun t33=>some (t32::t33)).bind fun t35=>some (t34::t35))).bind fun t36=>(some ((kind-3))).bind fun t37=>(pAt t36 t37))).bind fun t38=>(yg 0 t38))).bind fun l47=>L3.forM l47 pairs (fun pairs k_=>
 ((ko script (8+k_))).bind fun cell_here=>
 ((U7 cell_here (n_-1))).bind fun low=>
 (((((some (low)).bind fun t44=>(((some ((low+1))).bind fun t42=>((U7 (cell_here / 9) ((n_-1)-low))).bind fun t43=>some ((t42+t43)))).bind fun t45=>some ((t44,t45)))).bind fun t46=>(VQ pairs t46))).bind fun pairs=>
 some pairs)).bind fun pairs=>
 some pairs
 else
 some pairs).bind fun pairs=>
 some ((n_,pairs))
@[irreducible] def xz (n_:Int) (pairs:(List (Int×Int))):Option (List (List Int)):=
 ((((yg 0 n_)).bind fun l3=>qa l3 (fun _=>some true) (fun k_=>some (([]:List Int))))).bind fun below_here=>
 (((yg 0 n_)).bind fun l25=>L3.forM l25 below_here (fun below_here high=>
 (L3.forM pairs below_here (fun below_here z11=>
 (bif (decide (z11.2=high)) then
 (((((pAt below_here z11.1)).bind fun t12=>(some (([z11.1]:List Int))).bind fun t13=>(JT t12 t13))).bind fun l21=>L3.forM l21 below_here (fun below_here thing=>
 ((((some (thing)).bind fun t15=>((pAt below_here high)).bind fun t16=>some ((!Qq t15 t16)))).bind fun q20=>bif q20 then
 ((some (high)).bind fun t17=>(some (thing)).bind fun t18=>Vo below_here t17 t18).bind fun below_here=>
 some below_here
 else
 some below_here).bind fun below_here=>
 some below_here)).bind fun below_here=>
 some below_here
 else
 some below_here).bind fun below_here=>
 some below_here)).bind fun below_here=>
 some below_here)).bind fun below_here=>
 some below_here
@[irreducible] def kQ (many:Int) (pairs:(List (Int×Int))):Option Unit:=
 bif (!((decide (1<=many))&&(decide (many<=9)))) then
 none
 else
 (L3.forM pairs () (fun (_:Unit) z3=>
 bif (!((decide (0<=z3.1))&&((decide (z3.1<z3.2))&&(decide (z3.2<many))))) then
 none
 else
 some ())).bind fun _=>
 some ()
@[irreducible] def qe (many:Int) (pairs:(List (Int×Int))):Option (List Int):=
 (some (([]:List Int))).bind fun found=>
 (((yg 0 many)).bind fun l14=>L3.forM l14 found (fun found thing=>
 (some (0)).bind fun bits=>
 (L3.forM pairs bits (fun bits z7=>
 (bif (decide (z7.2=thing)) then
 (((((some (bits)).bind fun t8=>((pAt found z7.1)).bind fun t9=>some ((Builtin.bitOr t8 t9)))).bind fun t10=>((JY 1 z7.1)).bind fun t11=>some ((Builtin.bitOr t10 t11)))).bind fun bits=>
 some bits
 else
 some bits).bind fun bits=>
 some bits)).bind fun bits=>
 ((VQ found bits)).bind fun found=>
 some found)).bind fun found=>
 some (found)
@[irreducible] def zl (bits:Int) (thing:Int):Option Bool:=
 (((((jeR bits thing)).bind fun t1=>(some (1)).bind fun t2=>some ((Builtin.bitAnd t1 t2)))).bind fun t3=>(some (1)).bind fun t4=>some ((decide (t3=t4))))
@[irreducible] def qZ (beneath:(List Int)) (low:Int) (high:Int):Option Bool:=
 ((((((pAt beneath high)).bind fun t1=>(some (low)).bind fun t2=>(zl t1 t2))).bind fun t3=>some ((!t3)))).bind fun q13=>bif q13 then
 some (false)
 else
 (((((((yg (low+1) high)).bind fun l10=>qa l10 (fun _=>some true) (fun mid=>(((((pAt beneath high)).bind fun t6=>(some (mid)).bind fun t7=>(zl t6 t7))).bind fun q=>bif q then (((pAt beneath mid)).bind fun t8=>(some (low)).bind fun t9=>(zl t8 t9)) else some false)))).bind fun t11=>some ((t11.any id)))).bind fun t12=>some ((!t12)))
@[irreducible] def kR (beneath:(List Int)):Option (List (Int×Int)):=
 (some (([]:List (Int×Int)))).bind fun found=>
 (((yg 0 (beneath.length:Int))).bind fun l7=>L3.forM l7 found (fun found low=>
 (((yg (low+1) (beneath.length:Int))).bind fun l6=>L3.forM l6 found (fun found high=>
 (((qZ beneath low high)).bind fun q5=>bif q5 then
 ((VQ found (low,high))).bind fun found=>
 some found
 else
 some found).bind fun found=>
 some found)).bind fun found=>
 some found)).bind fun found=>
 some (found)
@[irreducible] def kS (many:Int) (pairs:(List (Int×Int))):Option MOrder:=
 ((kQ many pairs)).bind fun _=>
 (some (many)).bind fun f_many=>
 ((qe many pairs)).bind fun f_beneath=>
 ((kR f_beneath)).bind fun f_neighbours=>
 some (MOrder.mk f_many f_beneath f_neighbours)
@[irreducible] def ym (below_here:(List (List Int))) (row:(List Int)):Option (List Int):=
 (some (([]:List Int))).bind fun found=>
 (((yg 0 (below_here.length:Int))).bind fun l8=>L3.forM l8 found (fun found thing=>
 (((bif (!Qq thing row) then (((((pAt below_here thing)).bind fun l4=>qa l4 (fun _=>some true) (fun low=>some ((Qq low row))))).bind fun t5=>some ((t5.all id))) else some false)).bind fun q7=>bif q7 then
 ((VQ found thing)).bind fun found=>
 some found
 else
 some found).bind fun found=>
 some found)).bind fun found=>
 some found
@[irreducible] def qP (below_here:(List (List Int))):Option Int:=
 (some (([(([]:List Int),1)]:(List ((List Int)×Int))))).bind fun ways=>
 (((yg 0 (below_here.length:Int))).bind fun l19=>L3.forM l19 ways (fun ways step=>
 (some (([]:(List ((List Int)×Int))))).bind fun more=>
 (L3.forM (ways.map (·.1)) more (fun more row=>
 (((ym below_here row)).bind fun l17=>L3.forM l17 more (fun more thing=>
 ((((((JT row ([thing]:List Int))).bind fun t11=>(Y3 t11))).bind fun t12=>some (t12))).bind fun key=>
 ((((some (((GU more key).getD 0))).bind fun t13=>((zi ways row)).bind fun t14=>some ((t13+t14)))).bind fun t15=>(some (key)).bind fun t16=>jb5 more t16 t15).bind fun more=>
 some more)).bind fun more=>
 some more)).bind fun more=>
 (some (more)).bind fun ways=>
 some ways)).bind fun ways=>
 ((some (ways)).bind fun t20=>((Jk (below_here.length:Int))).bind fun t21=>(zi t20 t21))
@[irreducible] def zZ (below_here:(List (List Int))) (cell_here:Int):Option (List Int):=
 (some (([]:List Int))).bind fun row=>
 (((yg 0 (below_here.length:Int))).bind fun l10=>L3.forM l10 (cell_here,row) (fun z3 step=>
 ((ym below_here z3.2)).bind fun free_here=>
 (((some (z3.2)).bind fun t8=>(((((some (free_here)).bind fun t4=>((U7 z3.1 (free_here.length:Int))).bind fun t5=>(pAt t4 t5))).bind fun t6=>(some ([]:List Int)).bind fun t7=>some (t6::t7))).bind fun t9=>(JT t8 t9))).bind fun row=>
 ((jeQ z3.1 (free_here.length:Int))).bind fun cell_here=>
 some (cell_here,row))).bind fun z11=>
 some (z11.2)
@[irreducible] def xH (row:(List Int)) (cell_here:Int):Option (List Int):=
 ((U7 (cell_here / 5) (row.length:Int))).bind fun at_=>
 (some ((cell_here / 45))).bind fun rest_=>
 bif (decide ((cell_here % 5)=0)) then
 ((((some ((cut row none (some at_)))).bind fun t5=>(((((some (row)).bind fun t1=>((U7 rest_ (row.length:Int))).bind fun t2=>(pAt t1 t2))).bind fun t3=>(some ([]:List Int)).bind fun t4=>some (t3::t4))).bind fun t6=>(JT t5 t6))).bind fun t7=>(some ((cut row (some (at_+1)) none))).bind fun t8=>(JT t7 t8))
 else
 bif (decide ((cell_here % 5)=1)) then
 (JT (cut row none (some at_)) (cut row (some (at_+1)) none))
 else
 bif (decide ((cell_here % 5)=2)) then
 ((some (row)).bind fun t11=>((((U7 rest_ ((row.length:Int)+1))).bind fun t9=>(some ([]:List Int)).bind fun t10=>some (t9::t10))).bind fun t12=>(JT t11 t12))
 else
 bif (decide ((cell_here % 5)=3)) then
 (JT ((cut row none (some (at_+1))).reverse) (cut row (some (at_+1)) none))
 else
 ((((some ((cut row none (some at_)))).bind fun t17=>((((((U7 rest_ (((10 ^ 40:Int)+(10 ^ 20:Int))+1))).bind fun t13=>(some ((10 ^ 20:Int))).bind fun t14=>some ((t13-t14)))).bind fun t15=>(some ([]:List Int)).bind fun t16=>some (t15::t16))).bind fun t18=>(JT t17 t18))).bind fun t19=>(some ((cut row (some (at_+1)) none))).bind fun t20=>(JT t19 t20))
@[irreducible] def jP (self:MOrder):Option Int:=
 some (self.many)
@[irreducible] def km (bits:Int) (others:Int):Option Bool:=
 some ((decide ((Builtin.bitAnd bits others)=others)))
@[irreducible] def kz (order:MOrder) (line:(List Int)):Option Bool:=
 ((((Y3 line)).bind fun t2=>((((jP order)).bind fun t1=>(Jk t1))).bind fun t3=>some ((!V4 t2 t3)))).bind fun q12=>bif q12 then
 some (false)
 else
 (some (0)).bind fun ahead=>
 (W3 line ahead (fun ahead thing=>
 (((((some (ahead)).bind fun t5=>((pAt order.beneath thing)).bind fun t6=>(km t5 t6))).bind fun t7=>some ((!t7)))).bind fun q10=>bif q10 then
 (some (false)).bind fun y=>some (.rt y)
 else
 (((some (ahead)).bind fun t8=>((JY 1 thing)).bind fun t9=>some ((Builtin.bitOr t8 t9)))).bind fun ahead=>
 some (.nx ahead))).bind fun x_=>x_.el (fun c_=>some c_) (fun ahead=>
 some (true))
@[irreducible] def kj (order:MOrder) (line:(List Int)):Option Unit:=
 ((((kz order line)).bind fun t1=>some ((!t1)))).bind fun q2=>bif q2 then
 none
 else
 some ()
@[irreducible] def ql (bits:Int):Option (List Int):=
 (((yg 0 ((Builtin.Int.intBits bits:Nat):Int))).bind fun l3=>qa l3 (fun thing=>(zl bits thing)) (fun thing=>some (thing)))
@[irreducible] def kT (order:MOrder) (bits:Int):Option Bool:=
 ((bif (decide (bits<0)) then some true else ((((some (bits)).bind fun t1=>((jP order)).bind fun t2=>(jeR t1 t2))).bind fun t3=>(some (0)).bind fun t4=>some ((decide (t4<t3)))))).bind fun q11=>bif q11 then
 some (false)
 else
 (((((ql bits)).bind fun l9=>qa l9 (fun _=>some true) (fun thing=>((some (bits)).bind fun t7=>((pAt order.beneath thing)).bind fun t8=>(km t7 t8))))).bind fun t10=>some ((t10.all id)))
@[irreducible] def qw (order:MOrder):Option (List Int):=
 ((((((some (1)).bind fun t1=>((jP order)).bind fun t2=>(JY t1 t2))).bind fun t3=>(yg 0 t3))).bind fun l6=>qa l6 (fun bits=>(kT order bits)) (fun bits=>some (bits)))
@[irreducible] def xa (order:MOrder) (bits:Int) (thing:Int):Option Bool:=
 (((((zl bits thing)).bind fun t1=>some ((!t1)))).bind fun q=>bif q then ((some (bits)).bind fun t2=>((pAt order.beneath thing)).bind fun t3=>(km t2 t3)) else some false)
@[irreducible] def jX (order:MOrder) (ahead:Int):Option (List Int):=
 (((((jP order)).bind fun t1=>(yg 0 t1))).bind fun l4=>qa l4 (fun thing=>(xa order ahead thing)) (fun thing=>some (thing)))
@[irreducible] def kA (order:MOrder):Option (List (Int×Int)):=
 (some (([]:(List (Int×Int))))).bind fun ways=>
 (((((qw order)).bind fun t1=>some ((t1.reverse)))).bind fun l14=>L3.forM l14 ways (fun ways ahead=>
 ((((jX order ahead)).bind fun l8=>qa l8 (fun _=>some true) (fun thing=>((some (ahead)).bind fun t6=>((JY 1 thing)).bind fun t7=>some ((Builtin.bitOr t6 t7)))))).bind fun grown=>
 (((bif (decide (0<(grown.length:Int))) then (((qa grown (fun _=>some true) (fun bits=>(zi ways bits)))).bind fun t11=>some ((t11.sum))) else some (1))).bind fun t12=>(some (ahead)).bind fun t13=>jb5 ways t13 t12).bind fun ways=>
 some ways)).bind fun ways=>
 some ways
@[irreducible] def kJ (order:MOrder) (line:(List Int)):Option Int:=
 ((kj order line)).bind fun _=>
 ((kA order)).bind fun ways=>
 (some (0)).bind fun number=>
 (some (0)).bind fun ahead=>
 (L3.forM line (number,ahead) (fun z3 thing=>
 ((((jX order z3.2)).bind fun l6=>qa l6 (fun other=>some ((decide (other<thing)))) (fun other=>some (other)))).bind fun lesser=>
 (((some (z3.1)).bind fun t14=>((((qa lesser (fun _=>some true) (fun other=>((some (ways)).bind fun t11=>(((some (z3.2)).bind fun t9=>((JY 1 other)).bind fun t10=>some ((Builtin.bitOr t9 t10)))).bind fun t12=>(zi t11 t12))))).bind fun t13=>some ((t13.sum)))).bind fun t15=>some ((t14+t15)))).bind fun number=>
 (((some (z3.2)).bind fun t16=>((JY 1 thing)).bind fun t17=>some ((Builtin.bitOr t16 t17)))).bind fun ahead=>
 some (number,ahead))).bind fun z19=>
 some (z19.1)
@[irreducible] def qf (order:MOrder) (line:(List Int)):Option Er:=
 ((((kz order line)).bind fun t1=>some ((!t1)))).bind fun q6=>bif q6 then
 (((some (line)).bind fun i3=>(jbf i3).bind fun y4=>(zE Str.empty y4).bind fun j2=>(zE j2 (" is no line of the order":Str)).bind fun j5=>jf9 j5)).bind fun _=>some (Er.mk 3 [])
 else
 none
@[irreducible] def kY (order:MOrder) (line:(List Int)):Option Er:=
 orE ((some (order)).bind fun x1=>(some (line)).bind fun x2=>(qf x1 x2)) (((some (order)).bind fun x1=>(some (line)).bind fun x2=>(kj x1 x2)).bind fun _=>
 none)
@[irreducible] def yy (order_here:MOrder) (which:Int) (one:(List Int)):Option ((Option Int)×(Option Er)×(List Bool)):=
 (some (())).bind fun error=>
 (some (())).bind fun found=>
 (jfL (bif (decide (which=0)) then ((some (order_here)).bind fun x1=>(some (one)).bind fun x2=>(kY x1 x2)) else none) (bif (decide (which=0)) then ((some (order_here)).bind fun x1=>(some (one)).bind fun x2=>(kJ x1 x2)) else none)).bind fun z1=>
 (some (([(z1.2.elim false (Uf [3])),(z1.2.elim false (Uf [2])),(z1.2.elim false (Uf [4]))]:List Bool))).bind fun kinds=>
 some ((z1.1,z1.2,kinds))
@[irreducible] def kK (below_here:(List (List Int))) (row:(List Int)):Option Bool:=
 ((((Y3 row)).bind fun t1=>((Jk (below_here.length:Int))).bind fun t2=>some ((!V4 t1 t2)))).bind fun q14=>bif q14 then
 some (false)
 else
 (((yg 0 (row.length:Int))).bind fun l13=>W3 l13 () (fun (_:Unit) at_=>
 (((((((((some (below_here)).bind fun t5=>((pAt row at_)).bind fun t6=>(pAt t5 t6))).bind fun l9=>qa l9 (fun _=>some true) (fun low=>some ((Qq low (cut row none (some at_))))))).bind fun t10=>some ((t10.all id)))).bind fun t11=>some ((!t11)))).bind fun q12=>bif q12 then
 (some (false)).bind fun y=>some (.rt y)
 else
 some (.nx ()))).bind fun x_=>x_.el (fun c_=>some c_) (fun _=>
 some (true))
@[irreducible] def xO (found:Int):Option Bool:=
 some ((true&&(!false)))
@[irreducible] def xZ (many:Int) (cell_here:Int):Option Int:=
 bif (decide ((cell_here % 3)=0)) then
 (pAt ([many,(-1),(many-1),0]:List Int) ((cell_here / 3) % 4))
 else
 (((U7 (cell_here / 3) (((10 ^ 40:Int)+(10 ^ 20:Int))+1))).bind fun t1=>(some ((10 ^ 20:Int))).bind fun t2=>some ((t1-t2)))
@[irreducible] def qt (order:MOrder) (number:Int):Option (List Int):=
 ((kA order)).bind fun ways=>
 ((((bif (decide (0<=number)) then ((zi ways 0)).bind fun t1=>some (decide (number<t1)) else some false)).bind fun t2=>some ((!t2)))).bind fun q31=>bif q31 then
 none
 else
 (some (([]:List Int))).bind fun row=>
 (some (0)).bind fun ahead=>
 (some (number)).bind fun left=>
 (pWh (fun z4=>((some ((z4.1.length:Int))).bind fun t5=>((jP order)).bind fun t6=>some ((decide (t5<t6))))) (fun z4=>
 ((jX order z4.2.1)).bind fun choices=>
 (pWh (fun z7=>((some (z7.1)).bind fun t14=>(((some (ways)).bind fun t12=>(((some (z4.2.1)).bind fun t10=>(((some (1)).bind fun t8=>((pAt z7.2 0)).bind fun t9=>(JY t8 t9))).bind fun t11=>some ((Builtin.bitOr t10 t11)))).bind fun t13=>(zi t12 t13))).bind fun t15=>some ((decide (t15<=t14))))) (fun z7=>
 (((some (z7.1)).bind fun t22=>(((some (ways)).bind fun t20=>(((some (z4.2.1)).bind fun t18=>(((some (1)).bind fun t16=>((pAt z7.2 0)).bind fun t17=>(JY t16 t17))).bind fun t19=>some ((Builtin.bitOr t18 t19)))).bind fun t21=>(zi t20 t21))).bind fun t23=>some ((t22-t23)))).bind fun left=>
 (some ((cut z7.2 (some 1) none))).bind fun choices=>
 some (left,choices)) (z4.2.2,choices)).bind fun z24=>
 ((((pAt z24.2 0)).bind fun t29=>(VQ z4.1 t29))).bind fun row=>
 (((some (z4.2.1)).bind fun t27=>(((some (1)).bind fun t25=>((pAt z24.2 0)).bind fun t26=>(JY t25 t26))).bind fun t28=>some ((Builtin.bitOr t27 t28)))).bind fun ahead=>
 some (row,ahead,z24.1)) (row,ahead,left)).bind fun z30=>
 some (z30.1)
@[irreducible] def qQ (order:MOrder) (number:Int):Option Er:=
 ((kA order)).bind fun ways=>
 ((((bif (decide (0<=number)) then ((zi ways 0)).bind fun t1=>some (decide (number<t1)) else some false)).bind fun t2=>some ((!t2)))).bind fun q3=>bif q3 then
 (some (number)).bind fun a1=>some (Er.mk 2 [a1])
 else
 none
@[irreducible] def xv (order_here:MOrder) (which:Int) (one:Int):Option ((Option (List Int))×(Option Er)×(List Bool)):=
 (some (())).bind fun error=>
 (some (())).bind fun found=>
 (jfL (bif (decide (which=0)) then none else bif (decide (which=1)) then ((some (order_here)).bind fun x1=>(some (one)).bind fun x2=>(qQ x1 x2)) else none) (bif (decide (which=0)) then none else bif (decide (which=1)) then ((some (order_here)).bind fun x1=>(some (one)).bind fun x2=>(qt x1 x2)) else none)).bind fun z1=>
 (some (([(z1.2.elim false (Uf [3])),(z1.2.elim false (Uf [2])),(z1.2.elim false (Uf [4]))]:List Bool))).bind fun kinds=>
 some ((z1.1,z1.2,kinds))
@[irreducible] def jS (order:MOrder):Option Int:=
 (((kA order)).bind fun t1=>(some (0)).bind fun t2=>(zi t1 t2))
@[irreducible] def xP (order:MOrder):Option (List (List Int)):=
 ((jS order)).bind fun count=>
 bif (decide (1000<count)) then
 none
 else
 (some (([(([]:List Int),0)]:List ((List Int)×Int)))).bind fun begun=>
 (((((jP order)).bind fun t1=>(yg 0 t1))).bind fun l18=>L3.forM l18 begun (fun begun place=>
 (some (([]:List ((List Int)×Int)))).bind fun longer=>
 (L3.forM begun longer (fun longer z8=>
 ((((((jX order z8.2)).bind fun l15=>qa l15 (fun _=>some true) (fun thing=>(((JT z8.1 ([thing]:List Int))).bind fun t13=>(((some (z8.2)).bind fun t11=>((JY 1 thing)).bind fun t12=>some ((Builtin.bitOr t11 t12)))).bind fun t14=>some ((t13,t14)))))).bind fun t16=>(JT longer t16))).bind fun longer=>
 some longer)).bind fun longer=>
 (some (longer)).bind fun begun=>
 some begun)).bind fun begun=>
 (qa begun (fun _=>some true) (fun z21=>some (z21.1)))
@[irreducible] def yb (order:MOrder):Option Er:=
 ((jS order)).bind fun count=>
 bif (decide (1000<count)) then
 (((zE Str.empty ("there are ":Str)).bind fun j1=>(some (count)).bind fun i3=>(jf8 i3).bind fun y4=>(zE j1 y4).bind fun j2=>(zE j2 (" lines, and at most ":Str)).bind fun j5=>(some (1000)).bind fun i7=>(jf8 i7).bind fun y8=>(zE j5 y8).bind fun j6=>(zE j6 (" are listed":Str)).bind fun j9=>jf9 j9)).bind fun _=>some (Er.mk 4 [])
 else
 none
@[irreducible] def xw (order_here:MOrder) (which:Int) (one:Unit):Option ((Option (List (List Int)))×(Option Er)×(List Bool)):=
 (some (())).bind fun error=>
 (some (())).bind fun found=>
 (jfL (bif (decide (which=0)) then none else bif (decide (which=1)) then none else ((some (order_here)).bind fun x1=>(yb x1))) (bif (decide (which=0)) then none else bif (decide (which=1)) then none else ((some (order_here)).bind fun x1=>(xP x1)))).bind fun z1=>
 (some (([(z1.2.elim false (Uf [3])),(z1.2.elim false (Uf [2])),(z1.2.elim false (Uf [4]))]:List Bool))).bind fun kinds=>
 some ((z1.1,z1.2,kinds))
@[irreducible] def Vx (script:(List Int)):Option Bool:=
 ((yx script 9)).bind fun z1=>
 (((((((ko script 6)).bind fun t2=>some ((t2 % 8)))).bind fun t3=>(some (3)).bind fun t4=>some ((decide (t3=t4))))).bind fun q38=>bif q38 then
 (some (7)).bind fun n_=>
 (((some (([([(0,1),(1,2)]:List (Int×Int)),([(0,1),(2,3)]:List (Int×Int))]:List (List (Int×Int))))).bind fun t7=>((((((ko script 6)).bind fun t5=>some ((t5 / 8)))).bind fun t6=>some ((t6 % 2)))).bind fun t8=>(pAt t7 t8))).bind fun pairs=>
 some (n_,pairs)
 else
 some (z1.1,z1.2)).bind fun z9=>
 ((xz z9.1 z9.2)).bind fun below_here=>
 ((kS z9.1 z9.2)).bind fun order_here=>
 ((qP below_here)).bind fun many=>
 (((((some (below_here)).bind fun t10=>((ko script 3)).bind fun t11=>(zZ t10 t11))).bind fun t12=>((ko script 4)).bind fun t13=>(xH t12 t13))).bind fun row=>
 ((yy order_here 0 row)).bind fun z14=>
 (((((some (z14.2.2)).bind fun t18=>((((((kK below_here row)).bind fun t15=>some ((!t15)))).bind fun t16=>(some ([false,false]:List Bool)).bind fun t17=>some (t16::t17))).bind fun t19=>some ((!V4 t18 t19)))).bind fun q=>bif q then some true else (bif z14.2.1.isNone then ((((z14.1).bind fun t20=>(xO t20))).bind fun t21=>some ((!t21))) else some false))).bind fun q37=>bif q37 then
 some (false)
 else
 (((some (many)).bind fun t22=>((ko script 5)).bind fun t23=>(xZ t22 t23))).bind fun number_here=>
 ((xv order_here 1 number_here)).bind fun z24=>
 bif (!V4 z24.2.2 ([false,(!((decide (0<=number_here))&&(decide (number_here<many)))),false]:List Bool)) then
 some (false)
 else
 ((bif z24.2.1.isNone then ((((some (below_here)).bind fun t25=>(z24.1).bind fun t26=>(kK t25 t26))).bind fun t27=>some ((!t27))) else some false)).bind fun q36=>bif q36 then
 some (false)
 else
 ((bif (!z24.2.1.isNone) then (((((z24.2.1.bind fun er_=>some (Uf [0,1,2,3,4] er_))).bind fun t28=>some ((!t28)))).bind fun q=>bif q then some true else (((z24.2.1.bind fun er_=>jfq 2 0 er_)).bind fun t29=>(some (number_here)).bind fun t30=>some ((!decide (t29=t30))))) else some false)).bind fun q35=>bif q35 then
 some (false)
 else
 ((xw order_here 2 ())).bind fun z31=>
 (bif (V4 z31.2.2 ([false,false,(decide (1000<many))]:List Bool)) then (bif (!z31.2.1.isNone) then some true else ((((z31.1).bind fun t32=>some ((t32.length:Int)))).bind fun t33=>(some (many)).bind fun t34=>some ((decide (t33=t34))))) else some false)
end Lw
namespace MM
open PySem L2 L3 M01
theorem forM_map {f:β->α->Option β} (c:γ->α):∀ (l:List γ) (b:β),L3.forM (l.map c) b f=L3.forM l b (fun b x=>f b (c x))
 | [],_=>rfl
 | x::r,b=>by
  rw[List.map_cons,forM_cons,forM_cons];congr 1
  funext b'
  exact forM_map c r b'
theorem QI {f:β->α->Option β} (c:γ->β) (g:γ->α->γ):∀ {l:List α}{b:γ},(∀ b,∀ x∈l,f (c b) x=some (c (g b x)))->L3.forM l (c b) f=some (c (l.foldl g b))
 | [],_,_=>rfl
 | x::r,b,h=>by
  rw[forM_cons,h b x List.mem_cons_self,bs,List.foldl_cons];exact QI c g fun b y hy=>h b y (List.mem_cons_of_mem _ hy)
theorem forM_cast {f:β->α->Option β} (c:γ->β) (g:γ->α->γ) (b:γ) (e:b0=c b) (h:∀ b,∀ x∈l,f (c b) x=some (c (g b x))):L3.forM l b0 f=some (c (l.foldl g b)):=by
 rw[e];exact QI c g h
end MM
namespace Lw
open PySem L2 L3 M01
def zp (P:List (Nat×Nat)):List (Int×Int):=P.map fun p=>((p.1:Int),(p.2:Int))
theorem Vy (P:List (Nat×Nat)):(zp P).length=P.length:=by simp[zp]
theorem Yn (P Q:List (Nat×Nat)):zp (P++Q)=zp P++zp Q:=by simp[zp]
def zn (l:List Nat):List Int:=l.map fun t=>((t:Nat):Int)
theorem qg (l:List Nat):(zn l).length=l.length:=by simp[zn]
theorem jbr {l:List Nat}{t:Nat} (h:t<l.length):pAt (zn l) (t:Int)=some ((l.getD t 0:Nat):Int):=by
 refine MM.at_nat ?_;unfold zn;rw[Xt,X1,Xg h];rfl
def ths (n b:Nat):List Nat:=(List.range n).filter fun t=>b.testBit t
theorem Jw (n b:Nat):(ths n b).length<=n:=by
 have:=List.length_filter_le (fun t=>b.testBit t) (List.range n);rw[Xz] at this;exact this
theorem QJ {b t:Nat} (h:t∈ths n b):t<n/\b.testBit t=true:=by
 obtain⟨h1,h2⟩:=wL.mp h;exact⟨Xv.mp h1,h2⟩
theorem mem_ths {b t:Nat}:t∈ths n b ↔ t<n/\b.testBit t=true:=by
 unfold ths;rw[wL,Xv]
theorem jeh (l:List Nat) (f:Nat->Nat):((l.map fun i=>((f i:Nat):Int)).sum)=(((l.map f).sum:Nat):Int):=by
 induction l with
 | nil=>rfl
 | cons a r ih=>rw[Xl,Xl,X8,X8,ih]; omega
theorem Vz {f:Unit->α->Option Unit}:∀ {l:List α},(∀ x∈l,f () x=some ())->L3.forM l () f=some ()
 | [],_=>rfl
 | x::r,h=>by
  rw[MM.forM_cons,h x Xn,MM.bs];exact Vz fun y hy=>h y (Xj _ hy)
theorem jhg (l:List Nat) (f:Nat->Bool):(l.map f).all id=l.all f:=by
 rw[List.all_map];rfl
theorem jiv (h9:n<=9):2 ^ n<=512:=by
 have:2 ^ n<=2 ^ 9:=Nat.pow_le_pow_right (by decide) h9;exact this
structure Drawn (r:Option (Int×List (Int×Int))) (n:Nat) (P:List (Nat×Nat)):Prop where
 e:r=some ((n:Int),zp P)
 n1:1<=n
 n9:n<=9
 ok:Ok P n
 len:P.length<=1000
theorem Yo:Ok [] n:=fun p h=>by cases h
theorem Yp {Q:List (Nat×Nat)} (h:Ok P n) (h':Ok Q n):Ok (P++Q) n:=fun p hp=>(XG.mp hp).elim (h p) (h' p)
theorem Yq {a b:Nat} (h:a<b) (h':b<n):Ok [(a,b)] n:=fun p hp=>by
 have:p=(a,b):=by simpa using hp
 subst this;exact⟨h,h'⟩
def tb (n:Nat) (t:Nat->Nat->α):List (List α):=(List.range n).map fun i=>(List.range n).map fun j=>t i j
theorem jei {f:Nat->α} (h:j<n):pAt ((List.range n).map f) (j:Int)=some (f j):=by
 refine MM.at_nat ?_;rw[Xt,List.getElem?_range h];rfl
theorem jfO (h:i<n):ixN n (i:Int)=some i:=by
 unfold ixN;rw[if_pos (by omega),if_pos (by omega),X9]
theorem jbs {f:Nat->α}{y:α} (h:j<n):((List.range n).map f).set j y=(List.range n).map fun k=>if k=j then y else f k:=by
 refine List.ext_getElem? fun k=>?_;by_cases hk:k<n
 ·rw[Xt,List.getElem?_range hk];by_cases e:k=j
  ·subst e;rw[wI (by simpa using hk)];simp
  ·rw[wa (fun z=>e z.symm),Xt,List.getElem?_range hk];simp[e]
 ·rw[List.getElem?_eq_none (by simp; omega),List.getElem?_eq_none (by simp; omega)]
def bl (P:List (Nat×Nat)) (n i j:Nat):Bool:=((bel P n).getD j 0).testBit i
theorem QK (o:Ok P n) (hj:j<n):bl P n i j=true ↔ Lt P i j:=jad o j n hj i
theorem QL {t:Nat} (h:t<n):pAt (zn (bel P n)) (t:Int)=some (((bel P n).getD t 0:Nat):Int):=jbr (by rw[yO]; exact h)
theorem Jx {b t:Nat} (o:Ok P n) (ht:t<n):(b &&& (bel P n).getD t 0=(bel P n).getD t 0) ↔ ∀ s,s<n->bl P n s t=true->b.testBit s=true:=by
 constructor
 ·intro h s hs hb;unfold bl at hb;rw[<- h,Nat.testBit_and,X6] at hb;exact hb.1
 ·intro h;refine Nat.eq_of_testBit_eq fun i=>?_;rw[Nat.testBit_and];cases hb:((bel P n).getD t 0).testBit i with
  | false=>simp
  | true=>
   have:=Lt.lt o ((jad o t n ht i).mp hb);rw[h i (by omega) hb];rfl
def cvB (P:List (Nat×Nat)) (n l h:Nat):Bool:=bl P n l h&&!((List.range (h-(l+1))).any fun d=>bl P n (l+1+d) h&&bl P n l (l+1+d))
def cvL (P:List (Nat×Nat)) (n l:Nat):List (Nat×Nat):=(((List.range (n-(l+1))).map fun d=>l+1+d).filter fun h=>cvB P n l h).map fun h=>(l,h)
def cvs (P:List (Nat×Nat)) (n:Nat):List (Nat×Nat):=(List.range n).flatMap (cvL P n)
def dsB (P:List (Nat×Nat)) (n b:Nat):Bool:=decide (b<2 ^ n)&&(ths n b).all fun t=>decide (b &&& (bel P n).getD t 0=(bel P n).getD t 0)
def dss (P:List (Nat×Nat)) (n:Nat):List Nat:=(List.range (2 ^ n)).filter fun b=>dsB P n b
theorem ds_mem {b:Nat}:b∈dss P n ↔ dsB P n b=true:=by
 unfold dss;rw[wL,Xv];constructor
 ·exact fun h=>h.2
 ·intro h;refine⟨?_,h⟩;unfold dsB at h;rw[X6] at h;exact of_decide_eq_true h.1
theorem Gu (P:List (Nat×Nat)) (n:Nat):dsB P n 0=true:=by
 unfold dsB;have:ths n 0=[]:=by unfold ths; rw[List.filter_eq_nil_iff]; simp
 rw[this,Xk (Nat.pow_pos (by decide))];rfl
theorem Uk {S:List Nat} (h:j<S.length):S.getD j 0∈S:=by
 rw[X1,Xg h];exact List.getElem_mem h
theorem xQ (f:Nat->Nat):∀ {A B:List Nat},A.Nodup->(∀ x∈A,f x∈B)->(∀ x∈A,∀ y∈A,f x=f y->x=y)->A.length<=B.length
 | [],_,_,_,_=>wC _
 | a::r,B,hA,hm,hi=>by
  obtain⟨ha,hr⟩:=XL.mp hA;have h1:=hm a Xn;have h2:=xQ f (A:=r) (B:=B.erase (f a)) hr (fun x hx=>(List.mem_erase_of_ne (fun e=>ha (hi x (Xj _ hx) a Xn e ▸ hx))).mpr (hm x (Xj _ hx))) fun x hx y hy=>hi x (Xj _ hx) y (Xj _ hy);rw[List.length_erase_of_mem h1] at h2;have:0<B.length:=List.length_pos_of_mem h1;rw[XQ];omega
theorem VA {b:Nat} (o:Ok P n):dsB P n b=true ↔ b<2 ^ n/\∀ s t,t<n->b.testBit t=true->bl P n s t=true->b.testBit s=true:=by
 unfold dsB;rw[X6,Xw,wg];refine and_congr_right fun hb=>⟨fun h s t ht hbt hst=>?_,fun h t ht=>?_⟩
 ·have:=of_decide_eq_true (h t (mem_ths.mpr ⟨ht,hbt⟩));rw[Jx o ht] at this;have hlt:=Lt.lt o ((QK o ht).mp hst);exact this s (by omega) hst
 ·obtain⟨h1,h2⟩:=QJ ht;rw[Xw,Jx o h1];exact fun s _ hst=>h s t h1 h2 hst
structure Ris (L:List Nat) (n:Nat):Prop where
 up:L.Pairwise (· < ·)
 lt:∀ t∈L,t<n
namespace Ris
theorem mem (R:Ris L n) {s:Nat} (h:s∈L):∃ i,i<L.length/\L.getD i 0=s:=by
 obtain⟨i,hi,e⟩:=List.mem_iff_getElem.mp h;refine⟨i,hi,?_⟩;rw[X1,Xg hi];exact e
end Ris
def Dr (P:List (Nat×Nat)) (n b:Nat):List Nat:=(List.range n).filter fun t=>!b.testBit t&&decide (b &&& (bel P n).getD t 0=(bel P n).getD t 0)
theorem xR {b t:Nat} (o:Ok P n):t∈Dr P n b ↔ t<n/\b.testBit t=false/\∀ s,s<n->bl P n s t=true->b.testBit s=true:=by
 unfold Dr;rw[wL,Xv,X6,Bool.not_eq_true',Xw];exact and_congr_right fun h=>by rw[Jx o h]
theorem jej {b:Nat} (o:Ok P n) (h:Dr P n b=[]):∀ t,t<n->b.testBit t=true:=by
 intro t
 induction t using Nat.strongRecOn with
 | _ t ih=>
  intro ht;cases e:b.testBit t with
  | true=>rfl
  | false=>
   have:t∈Dr P n b:=(xR o).mpr ⟨ht,e,fun s hs hst=>ih s (Lt.lt o ((QK o ht).mp hst)).1 hs⟩;rw[h] at this;cases this
theorem eln (b:β) (f:γ->δ) (g:β->δ):(Fl.nx b:Fl β γ).el f g=g b:=rfl
theorem mem_zn {l:List Nat}{x:Int}:x∈zn l ↔ ∃ t∈l,x=(t:Int):=by
 unfold zn;rw[List.mem_map];exact⟨fun⟨t,h,e⟩=>⟨t,h,e.symm⟩,fun⟨t,h,e⟩=>⟨t,h,e.symm⟩⟩
theorem jfP {l:List Nat}{t:Nat}:((t:Int)∈zn l) ↔ t∈l:=by
 rw[mem_zn];exact⟨fun⟨s,h,e⟩=>by
   have:t=s:=by omega
   rw[this]; exact h,fun h=>⟨t,h,rfl⟩⟩
theorem Jy {l:List Nat}{t:Nat}:Qq (t:Int) (zn l)=decide (t∈l):=by
 rw[XM,MM.isIn_iff,jfP,Xw]
theorem Ul {l:List Nat} (h:l.Nodup):(zn l).Nodup:=by
 unfold zn;rw[List.nodup_iff_pairwise_ne,List.pairwise_map];exact h.imp fun hn e=>hn (by omega)
theorem jiw {l:List Nat} (h:l.Pairwise (· < ·)):(zn l).Pairwise (·<=·):=by
 unfold zn;rw[List.pairwise_map];exact h.imp fun hn=>by omega
theorem jdo {l:List Nat} (h:l.Pairwise (· < ·)):l.Nodup:=h.imp fun hn=>XF hn
theorem jdp {l m:List Int} (hl:l.Nodup) (hm:m.Nodup) (h:∀ x,x∈l ↔ x∈m):l.Perm m:=by
 have a:l.length<=m.length:=by
  have:∀ {l m:List Int},l.Nodup->(∀ x,x∈l->x∈m)->l.length<=m.length:=by
   intro l
   induction l with
   | nil=>intro m _ _; exact wC _
   | cons y l ih=>
    intro m nd sub;obtain⟨ny,nl⟩:=XL.mp nd;have hy:=sub y Xn;have:=ih (m:=m.erase y) nl fun z hz=>(List.mem_erase_of_ne (a:=z) (b:=y) (fun e=>ny (by rw[<- e]; exact hz))).mpr (sub z (Xj _ hz));rw[List.length_erase_of_mem hy] at this;have:=List.length_pos_of_mem hy;rw[XQ];omega
  exact this hl fun x hx=>(h x).mp hx
 have b:m.length<=l.length:=by
  have:∀ {l m:List Int},l.Nodup->(∀ x,x∈l->x∈m)->l.length<=m.length:=by
   intro l
   induction l with
   | nil=>intro m _ _; exact wC _
   | cons y l ih=>
    intro m nd sub;obtain⟨ny,nl⟩:=XL.mp nd;have hy:=sub y Xn;have:=ih (m:=m.erase y) nl fun z hz=>(List.mem_erase_of_ne (a:=z) (b:=y) (fun e=>ny (by rw[<- e]; exact hz))).mpr (sub z (Xj _ hz));rw[List.length_erase_of_mem hy] at this;have:=List.length_pos_of_mem hy;rw[XQ];omega
  exact this hm fun x hx=>(h x).mpr hx
 exact Jl hm (fun z hz=>(h z).mpr hz) (by omega)
theorem jhh {l:List Int}{m:List Nat} (hl:l.Nodup) (hm:m.Pairwise (· < ·)) (h:∀ x:Int,x∈l ↔ ∃ t∈m,x=(t:Int)):srt l=zn m:=
 (jaP (jdp (Ul (jdo hm)) hl fun x=>by rw[h x,mem_zn]) (jiw hm)).symm
theorem jdq {l:List Int}{m:List Nat} (hd:l.Nodup) (hm:m.Pairwise (· < ·)) (h:∀ x:Int,x∈l ↔ ∃ t∈m,x=(t:Int)) (hl:l.length<64):Y3 l=some (zn m):=by
 unfold Y3;rw[if_pos hl,jhh hd hm h]
theorem jhi {l:List Nat}{p:Int->Option Bool}{f:Int->Option β} (q:Nat->Bool) (g:Nat->β) (hl:l.length<=16777216) (hp:∀ k∈l,p (k:Int)=some (q k)) (hf:∀ k∈l,q k=true->f (k:Int)=some (g k)) :
  qa (zn l) p f=some ((l.filter q).map g):=by
 rw[MM.comp (fun x:Int=>q x.toNat) (fun x:Int=>g x.toNat) (by rw[qg]; exact hl) (fun x hx=>by
   obtain⟨t,ht,rfl⟩:=mem_zn.mp hx;rw[hp t ht]; rfl) (fun x hx e=>by
   obtain⟨t,ht,rfl⟩:=mem_zn.mp hx;rw[hf t ht e]; rfl)]
 congr 1;unfold zn;rw[List.filter_map,wH];rfl
theorem Jz {l:List Nat}{f:Int->Option β} (g:Nat->β) (hl:l.length<=16777216) (hf:∀ k∈l,f (k:Int)=some (g k)):qa (zn l) (fun _=>some true) f=some (l.map g):=by
 rw[jhi (fun _=>true) g hl (fun _ _=>rfl) fun k hk _=>hf k hk,List.filter_eq_self.mpr (fun _ _=>rfl)]
theorem QM (n b:Nat):(ths n b).Pairwise (· < ·):=(List.pairwise_lt_range).sublist List.filter_sublist
theorem Zl (o:Ok P n) (hj:j<n) (h:bl P n i j=true):i<j:=(((QK o hj).mp h).lt o).1
theorem jhj {t:Nat} (o:Ok P n) (ht:t<n):bl P n t t=false:=by
 cases h:bl P n t t with
 | false=>rfl
 | true=>exact absurd (Zl o ht h) (wJ _)
theorem jdr {l:List Nat} (h:∀ t∈l,t<n):MB.setN l<2 ^ n:=by
 refine Nat.lt_pow_two_of_testBit _ fun i hi=>?_;rw[MB.setN_bit];exact Xi fun hm=>by have:=h i hm; omega
theorem jbt {c:β->Option Bool}{f:β->Option β} (I:Nat->β->Prop) {R:β->Prop} (h:∀ k b,I k b->(c b=some false/\R b) \/ (c b=some true/\∃ b' k',f b=some b'/\k'<k/\I k' b')):∀ (m k:Nat) (b:β),k<m->I k b->∃ b',whM c f m b=some b'/\R b'
 | 0,k,b,hk,_=>absurd hk (Nat.not_lt_zero _)
 | m+1,k,b,hk,hI=>by
  rcases h k b hI with⟨h1,h2⟩ | ⟨h1,b',k',h2,h3,h4⟩
  ·exact⟨b,by rw[whM,h1,MM.bs,MM.cf],h2⟩
  ·obtain⟨b1,e1,r1⟩:=jbt I h m k' b' (by omega) h4;exact⟨b1,by rw[whM,h1,MM.bs,MM.ct,h2,MM.bs]; exact e1,r1⟩
theorem jds {c:β->Option Bool}{f:β->Option β}{T:Option δ->Prop}{b:β} (I:Nat->β->Prop) (R:β->Prop) (k:Nat) (hk:k<100000) (hI:I k b)
  (h:∀ k b,I k b->(c b=some false/\R b) \/ (c b=some true/\∃ b' k',f b=some b'/\k'<k/\I k' b')) (hT:∀ b,R b->T (kk b)):T ((pWh c f b).bind kk):=by
 obtain⟨b',e,r⟩:=jbt I h 100000 k b hk hI;unfold pWh;rw[e,MM.bs];exact hT b' r
theorem Zm {f:β->α->Option (Fl β γ)}{kk:Fl β γ->Option δ}{R:Option δ->Prop} (I:Nat->β->Prop) (h0:I 0 b0) (hs:∀ k x b,l[k]?=some x->I k b->∃ b',f b x=some (.nx b')/\I (k+1) b')
  (hk:∀ b,I l.length b->R (kk (.nx b))):R ((W3 l b0 f).bind kk):=by
 obtain⟨b',e,h⟩:=MM.forR_inv I h0 hs;rw[e,MM.bs];exact hk b' h
structure Ln (P:List (Nat×Nat)) (n:Nat) (l:List Nat):Prop where
 nd:l.Nodup
 mem:∀ t,t∈l ↔ t<n
 pw:l.Pairwise fun x y=>bl P n y x=false
theorem Ln.len {l:List Nat} (h:Ln P n l):l.length=n:=by
 have a:=xQ id h.nd (fun x hx=>Xv.mpr ((h.mem x).mp hx)) (fun _ _ _ _ e=>e);have b:=xQ id (List.nodup_range (n:=n)) (fun x hx=>(h.mem x).mpr (Xv.mp hx)) (fun _ _ _ _ e=>e);rw[Xz] at a b;omega
theorem Ln.before {l a c:List Nat}{s t:Nat} (h:Ln P n l) (o:Ok P n) (e:l=a++t::c) (hb:bl P n s t=true):s∈a:=by
 have ht:t<n:=(h.mem t).mp (by rw[e]; simp);have hs:s<n:=Nat.lt_trans (Zl o ht hb) ht;have hm:=(h.mem s).mpr hs;rw[e] at hm;have pw:=h.pw;rw[e,List.pairwise_append] at pw;rcases XG.mp hm with hm | hm
 ·exact hm
 ·rcases XB.mp hm with rfl | hm
  ·rw[jhj o ht] at hb; cases hb
  ·rw[(List.pairwise_cons.mp pw.2.1).1 s hm] at hb; cases hb
theorem Ln.nb {a c:List Nat}{x y:Nat} (h:Ln P n (a++x::y::c)):bl P n y x=false:=by
 have pw:=h.pw;rw[List.pairwise_append,List.pairwise_cons] at pw;exact pw.2.1.1 y Xn
theorem jek:cut l none (some (i:Int))=l.take i:=by
 unfold cut;rw[HT.sIx_none,HT.sIx_nat,List.drop_zero,Nat.sub_zero];by_cases h:i<=l.length
 ·rw[Nat.min_eq_left h]
 ·rw[Nat.min_eq_right (by omega),List.take_of_length_le (Xh _),List.take_of_length_le (by omega)]
theorem jdt:cut l (some (i:Int)) none=l.drop i:=by
 unfold cut;rw[HT.sIx_none,HT.sIx_nat];by_cases h:i<=l.length
 ·rw[Nat.min_eq_left h,List.take_of_length_le (by rw[List.length_drop]; omega)]
 ·rw[Nat.min_eq_right (by omega),Nat.sub_self,List.take_zero,List.drop_eq_nil_of_le (by omega)]
theorem jhk (l m:List Nat):zn (l++m)=zn l++zn m:=by simp[zn]
theorem Wv (t:Nat) (l:List Nat):zn (t::l)=(t:Int)::zn l:=rfl
theorem jbu (l:List Nat) (i:Nat):(zn l).take i=zn (l.take i):=by simp[zn,List.map_take]
theorem jbv {a c:List Nat}{x:Nat}:pAt (zn (a++x::c)) ((a.length:Nat):Int)=some (x:Int):=MM.at_nat (by simp[zn])
theorem jdu (h9:n<=100):Jk (n:Int)=some (zn (List.range n)):=by
 unfold Jk;rw[if_pos ⟨⟨by omega,by omega⟩,by omega⟩];unfold yR;rw[Int.sub_zero,X9];congr 1;unfold zn;refine List.map_congr_left fun k _=>?_;omega
theorem jdv {u v:List Nat}{k:Nat} (h:(u++k::v).Nodup):k∉u:=fun z=>by
 rw[List.nodup_append] at h;exact h.2.2 k z k Xn rfl
section
variable {X:Type}{f:Nat->X->X}{S:X->Prop}{N:Nat}
def act (f:Nat->X->X) (w:List Nat) (x:X):X:=w.foldl (fun x i=>f i x) x
structure Far (f:Nat->X->X) (S:X->Prop) (N:Nat):Prop where
 st:∀ {x:X}{i:Nat},S x->i<N->S (f i x)
 far:∀ {x:X}{i j:Nat},S x->i+1<j->j<N->f i (f j x)=f j (f i x)
theorem qm (f:Nat->X->X) (u v:List Nat) (x:X):act f (u++v) x=act f v (act f u x):=List.foldl_append
theorem GW (f:Nat->X->X) (i:Nat) (v:List Nat) (x:X):act f (i::v) x=act f v (f i x):=rfl
theorem Far.act (F:Far f S N):∀ {w:List Nat}{x:X},(∀ i∈w,i<N)->S x->S (act f w x)
 | [],x,_,h=>h
 | i::w,x,hw,h=>Far.act F (w:=w) (fun j hj=>hw j (Xj _ hj)) (F.st h (hw i Xn))
theorem Far.comm1 (F:Far f S N) (hi:i<N):∀ {v:List Nat}{x:X},(∀ j∈v,(i+1<j \/ j+1<i)/\j<N)->S x->Lw.act f v (f i x)=f i (Lw.act f v x)
 | [],x,_,_=>rfl
 | j::v,x,hv,h=>by
  obtain⟨h1,h2⟩:=hv j Xn;rw[GW,GW];have e:f j (f i x)=f i (f j x):=by
   rcases h1 with h1 | h1
   ·exact(F.far h h1 h2).symm
   ·exact F.far h h1 hi
  rw[e];exact Far.comm1 F hi (fun k hk=>hv k (Xj _ hk)) (F.st h h2)
theorem Far.comm (F:Far f S N) {v:List Nat} (hv:∀ j∈v,j<N):∀ {u:List Nat}{x:X},(∀ i∈u,i<N)->(∀ i∈u,∀ j∈v,i+1<j \/ j+1<i)->S x->Lw.act f (u++v) x=Lw.act f (v++u) x
 | [],x,_,_,_=>by rw[List.nil_append,XU]
 | i::u,x,hu,huv,h=>by
  have hi:=hu i Xn;rw[List.cons_append,GW,Far.comm F hv (fun k hk=>hu k (Xj _ hk)) (fun k hk=>huv k (Xj _ hk)) (F.st h hi),qm,qm,GW,
   F.comm1 hi (fun j hj=>⟨huv i Xn j hj,hv j hj⟩) h]
def eW (N m:Nat):List Nat:=List.range' m (N-m)
def rW (N m:Nat):List Nat:=(eW N m).reverse
def bW (N m:Nat):List Nat:=(List.range' m (N-m)).flatMap (rW N)
theorem jbw {m:Nat} (h:i∈eW N m):m<=i/\i<N:=by
 unfold eW at h;have:=List.mem_range'_1.mp h;omega
theorem jbx {m:Nat} (h:i∈rW N m):m<=i/\i<N:=jbw (List.mem_reverse.mp h)
theorem jfQ {m:Nat} (h:m<N):eW N m=m::eW N (m+1):=by
 unfold eW;rw[show N-m=(N-(m+1))+1 by omega,List.range'_succ]
theorem jfR {m:Nat} (h:m<N):rW N m=rW N (m+1)++[m]:=by
 unfold rW;rw[jfQ h,List.reverse_cons]
theorem jhl:rW N N=[]:=by
 unfold rW eW;rw[Nat.sub_self];rfl
theorem Ww {a c:Nat} (h:i∈(List.range' a c).flatMap (rW N)):i<N:=by
 obtain⟨m,_,hi⟩:=List.mem_flatMap.mp h;exact(jbx hi).2
theorem Far.turn (F:Far f S N) (m:Nat):∀ c,m+c<=N->∀ {x:X},S x->Lw.act f ((List.range' m c).flatMap (rW N)) x=Lw.act f ((List.range' (m+1) c).flatMap (rW N)++List.range' m c) x
 | 0,_,x,_=>rfl
 | c+1,h,x,hx=>by
  have hs:S (Lw.act f ((List.range' (m+1) c).flatMap (rW N)) x):=F.act (fun i hi=>Ww hi) hx;rw[List.range'_1_concat,List.range'_1_concat,wF,wF,List.flatMap_singleton,List.flatMap_singleton,qm,Far.turn F m c (by omega) hx,jfR (show m+c<N by omega),<- qm,List.append_assoc,qm,<- List.append_assoc,qm,
   F.comm (v:=rW N (m+c+1)) (fun j hj=>(jbx hj).2) (fun i hi=>by have:=List.mem_range'_1.mp hi; omega) (fun i hi j hj=>by
    have:=List.mem_range'_1.mp hi;have:=(jbx hj).1;omega) hs]
  rw[show m+1+c=m+c+1 by omega];simp only[qm]
theorem Far.bStep (F:Far f S N) {m:Nat} (hm:m<N) {x:X} (hx:S x):Lw.act f (bW N m) x=Lw.act f (bW N (m+1)++eW N m) x:=by
 have h:=F.turn m (N-m) (by omega) hx;have e:(List.range' (m+1) (N-m)).flatMap (rW N)=bW N (m+1):=by
  unfold bW;rw[show N-m=(N-(m+1))+1 by omega,List.range'_1_concat,wF,List.flatMap_singleton,show m+1+(N-(m+1))=N by omega,jhl,XU]
 rw[e] at h;exact h
theorem Far.bEq (F:Far f S N):∀ c m,m+c=N->∀ {x:X},S x->Lw.act f (bW N m) x=Lw.act f ((List.range' m c).reverse.flatMap (eW N)) x
 | 0,m,h,x,_=>by
  unfold bW;rw[show N-m=0 by omega];rfl
 | c+1,m,h,x,hx=>by
  rw[F.bStep (by omega) hx,qm,Far.bEq F c (m+1) (by omega) hx,List.range'_succ,List.reverse_cons,wF,List.flatMap_singleton,qm]
def dW (k:Nat):List Nat:=(List.range' 1 k).reverse.flatMap List.range
theorem jby (k:Nat):dW (k+1)=List.range (k+1)++dW k:=by
 unfold dW;rw[List.range'_1_concat,List.reverse_append,List.reverse_singleton,List.singleton_append,List.flatMap_cons,Nat.add_comm 1 k]
theorem jbz {k:Nat} (h:i∈dW k):i<k:=by
 obtain⟨m,hm,hi⟩:=List.mem_flatMap.mp h;have:=List.mem_range'_1.mp (List.mem_reverse.mp hm);have:=Xv.mp hi;omega
theorem Wx {k:Nat} (h:k<=N):List.range k++eW N k=List.range N:=by
 unfold eW;rw[List.range_eq_range',List.range_eq_range'];have:=List.range'_append_1 (s:=0) (m:=k) (n:=N-k);rw[Nat.zero_add,show k+(N-k)=N by omega] at this;exact this
theorem Far.dEq (F:Far f S N):∀ k,k<N->∀ {x:X},S x->Lw.act f (dW k++(List.range (k+1)).reverse.flatMap (eW N)) x=Lw.act f (List.replicate (k+1) (List.range N)).flatten x
 | 0,_,x,_=>by
  have e:(List.range 1).reverse.flatMap (eW N)=List.range N:=by
   show eW N 0++[]=_;rw[XU,List.range_eq_range'];rfl
  rw[Nat.zero_add,e];show Lw.act f ([]++List.range N) x=Lw.act f (List.range N++[]) x;rw[List.nil_append,XU]
 | k+1,h,x,hx=>by
  have hx2:S (Lw.act f (List.range (k+1)) x):=F.act (fun i hi=>by have:=Xv.mp hi; omega) hx;have hx3:S (Lw.act f (List.range N) x):=F.act (fun i hi=>Xv.mp hi) hx;have er:(List.range (k+1+1)).reverse.flatMap (eW N)=eW N (k+1)++(List.range (k+1)).reverse.flatMap (eW N):=by
   rw[List.range_succ,List.reverse_append,List.reverse_singleton,List.singleton_append,List.flatMap_cons]
  rw[er,jby,List.append_assoc,qm,<- List.append_assoc,qm,
   F.comm (v:=eW N (k+1)) (fun j hj=>(jbw hj).2) (fun i hi=>by have:=jbz hi; omega) (fun i hi j hj=>by
    have:=jbz hi;have:=(jbw hj).1;omega) hx2,
   qm,<- qm f (List.range (k+1)),Wx (show k+1<=N by omega),<- qm,Far.dEq F k (by omega) hx3,<- qm]
  rfl
theorem Far.over (F:Far f S N) {x:X} (hx:S x):Lw.act f (dW N++bW N 0) x=Lw.act f (List.replicate (N+1) (List.range N)).flatten x:=by
 cases N with
 | zero=>rfl
 | succ k=>
  have hx3:S (Lw.act f (List.range (k+1)) x):=F.act (fun i hi=>Xv.mp hi) hx;have hx4:S (Lw.act f (dW k) (Lw.act f (List.range (k+1)) x)):=F.act (fun i hi=>by have:=jbz hi; omega) hx3;have er:(List.range' 0 (k+1)).reverse=(List.range (k+1)).reverse:=by rw[List.range_eq_range']
  rw[jby,List.append_assoc,qm,qm,F.bEq (k+1) 0 (by omega) hx4,er,<- qm,F.dEq k (by omega) hx3,<- qm];rfl
theorem Far.mir (F:Far f S N):Far (fun i=>f (N-1-i)) S N where
 st:=fun hx hi=>F.st hx (by omega)
 far:=fun {x i j} hx h1 h2=>(F.far (i:=N-1-j) (j:=N-1-i) hx (by omega) (by omega)).symm
theorem jbA (w:List Nat) (x:X):Lw.act (fun i=>f (N-1-i)) w x=Lw.act f (w.map fun i=>N-1-i) x:=by
 unfold Lw.act;rw[List.foldl_map]
theorem VB {k:Nat} (h:k<=N):(List.range k).map (fun i=>N-1-i)=rW N (N-k):=by
 unfold rW eW;refine List.ext_getElem (by simp; omega) fun i h1 h2=>?_;simp at h1;simp;omega
theorem jhm {m:Nat} (h:m<=N):(rW N m).map (fun i=>N-1-i)=List.range (N-m):=by
 unfold rW eW;refine List.ext_getElem (by simp) fun i h1 h2=>?_;simp at h1;simp;omega
theorem jbB:(List.range N).map (fun i=>N-i)=(List.range' 1 N).reverse:=by
 refine List.ext_getElem (by simp) fun i h1 h2=>?_;simp at h1;simp;omega
theorem jhn:dW N=(List.range N).flatMap fun i=>List.range (N-i):=by
 unfold dW;rw[<- jbB,List.flatMap_map]
theorem jho:bW N 0=(List.range N).flatMap (rW N):=by
 unfold bW;rw[Nat.sub_zero,List.range_eq_range']
theorem zt {f g:α->List β} (h:∀ x∈l,f x=g x):l.flatMap f=l.flatMap g:=by
 induction l with
 | nil=>rfl
 | cons a l ih=>rw[List.flatMap_cons,List.flatMap_cons,h a Xn,ih fun x hx=>h x (Xj _ hx)]
theorem jhp:(dW N).map (fun i=>N-1-i)=bW N 0:=by
 rw[jhn,jho,List.map_flatMap];exact zt fun i hi=>by
  have:=Xv.mp hi;rw[VB (by omega),show N-(N-i)=i by omega]
theorem jhq:(bW N 0).map (fun i=>N-1-i)=dW N:=by
 rw[jhn,jho,List.map_flatMap];exact zt fun i hi=>by
  have:=Xv.mp hi;rw[jhm (by omega)]
theorem jfS:(List.range N).map (fun i=>N-1-i)=(List.range N).reverse:=by
 rw[VB (Xh N),Nat.sub_self];unfold rW eW;rw[Nat.sub_zero,List.range_eq_range']
theorem jbC (g:α->β) (w:List α):∀ k:Nat,((List.replicate k w).flatten).map g=(List.replicate k (w.map g)).flatten
 | 0=>rfl
 | k+1=>by rw[List.replicate_succ,List.flatten_cons,ww,jbC g w k,List.replicate_succ,List.flatten_cons]
theorem Far.under (F:Far f S N) {x:X} (hx:S x):Lw.act f (bW N 0++dW N) x=Lw.act f (List.replicate (N+1) (List.range N).reverse).flatten x:=by
 have h:=F.mir.over hx;rw[jbA,jbA,ww,jhp,jhq,jbC,jfS] at h;exact h
end
end Lw
namespace MM
open PySem L2 L3
def ins (x:Int):List Int->List Int
 | []=>[x]
 | y::r=>bif decide (x<=y) then x::y::r else y::ins x r
section
variable [DecidableEq κ]
theorem put_len {l:List (κ×α)}{k:κ}{v:α}:(VS l k v).length<=l.length+1:=by
 unfold VS;cases l.any (fun p=>decide (p.1=k)) with
 | true=>rw[cond_true,List.length_map]; omega
 | false=>rw[cond_false,List.length_append]; simp
end
end MM
namespace Lw
theorem jh3 (c:Int) {m:Nat} (h:0<m):∃ k:Nat,k<m/\c % (m:Int)=(k:Int):=by
 have h1:=Int.emod_nonneg c (show (m:Int)≠0 by omega);have h2:=Int.emod_lt_of_pos c (show (0:Int)<(m:Int) by omega);exact⟨(c % (m:Int)).toNat,by omega,by omega⟩
end Lw
namespace Lw
open PySem L2 L3 M01
section
variable [DecidableEq κ]
theorem GK (k b:κ) (v:α):∀ l:List (κ×α),((l.map fun p=>bif decide (p.1=k) then (p.1,v) else p).find? fun p=>decide (p.1=b)).map (·.2)=if b=k then (if l.any (fun p=>decide (p.1=k))=true then some v else none) else (l.find? fun p=>decide (p.1=b)).map (·.2)
 | []=>by simp
 | p::l=>by
  have ih:=GK k b v l;rw[Xl,wd,wd,List.any_cons];by_cases hp:p.1=k
  ·rw[Xk hp];simp only[wm,Bool.true_or,if_true];by_cases hb:b=k
   ·rw[if_pos hb,Xk (by rw[hp,hb])];rfl
   ·rw[if_neg hb,Xi (by rw[hp]; exact fun z=>hb z.symm)];rw[ih,if_neg hb]
  ·rw[Xi hp];simp only[wb,Bool.false_or];by_cases hb:b=k
   ·rw[Xi (by rw[hb]; exact hp),ih]
   ·by_cases hpb:p.1=b
    ·rw[Xk hpb,if_neg hb]
    ·rw[Xi hpb,ih,if_neg hb]
theorem jfT {l:List (κ×α)}{k b:κ}{v:α}:zi (VS l k v) b=if b=k then some v else zi l b:=by
 unfold zi GU VS;cases h:l.any (fun p=>decide (p.1=k)) with
 | true=>
  rw[wm,GK,h];simp
 | false=>
  rw[wb,List.find?_append];by_cases hb:b=k
  ·rw[if_pos hb,hb];have:(l.find? fun p=>decide (p.1=k))=none:=by
    rw[List.find?_eq_none];intro p hp;have:=(List.any_eq_false.mp h) p hp;simpa using this
   rw[this];simp
  ·rw[if_neg hb];cases (l.find? fun p=>decide (p.1=b)) with
   | some p=>rfl
   | none=>
    rw[Option.none_or,wd,Xi (fun z=>hb z.symm)];rfl
end
section
variable {b t:Nat}
theorem JA {b t s:Nat}:(b ||| 2 ^ t).testBit s=(b.testBit s||decide (t=s)):=by
 rw[Nat.testBit_or,Nat.testBit_two_pow]
theorem Zn (o:Ok P n) (hd:dsB P n b=true) (ht:t∈Dr P n b):dsB P n (b ||| 2 ^ t)=true:=by
 obtain⟨h1,h2,h3⟩:=(xR o).mp ht;obtain⟨d1,d2⟩:=(VA o).mp hd;refine(VA o).mpr ⟨Nat.or_lt_two_pow d1 (Nat.pow_lt_pow_right (by decide) h1),fun s u hu hb hbl=>?_⟩;rw[JA,Bool.or_eq_true] at hb;rw[JA,Bool.or_eq_true];rcases hb with hb | hb
 ·exact .inl (d2 s u hu hb hbl)
 ·have:t=u:=of_decide_eq_true hb;subst this;exact .inl (h3 s (Nat.lt_trans (Zl o hu hbl) hu) hbl)
theorem QN (o:Ok P n) (ht:t∈Dr P n b):(ths n (b ||| 2 ^ t)).length=(ths n b).length+1:=by
 obtain⟨h1,h2,_⟩:=(xR o).mp ht;have hp:(ths n (b ||| 2 ^ t)).Perm (t::ths n b):=by
  have nd1:(ths n (b ||| 2 ^ t)).Nodup:=(QM n _).imp fun h=>XF h
  have nd2:(t::ths n b).Nodup:=XL.mpr ⟨(fun z=>by rw[(QJ z).2] at h2; cases h2),(QM n _).imp fun h=>XF h⟩;refine(List.perm_ext_iff_of_nodup nd1 nd2).mpr fun s=>?_;rw[mem_ths,XB,mem_ths,JA,Bool.or_eq_true,Xw];constructor
  ·rintro⟨a,c | c⟩
   ·exact .inr ⟨a,c⟩
   ·exact .inl c.symm
  ·rintro (rfl | ⟨a,c⟩)
   ·exact⟨h1,.inr rfl⟩
   ·exact⟨a,.inl c⟩
 rw[hp.length_eq,XQ]
theorem jix (o:Ok P n) (ht:t∈Dr P n b):b<b ||| 2 ^ t:=by
 have h2:=((xR o).mp ht).2.1;refine Nat.lt_of_le_of_ne Nat.left_le_or fun e=>?_;have:(b ||| 2 ^ t).testBit t=true:=by rw[JA]; simp
 rw[<- e,h2] at this;cases this
def Wy (P:List (Nat×Nat)) (n:Nat):Nat->Nat->Nat
 | 0,_=>1
 | k+1,b=>if Dr P n b=[] then 1 else ((Dr P n b).map fun t=>Wy P n k (b ||| 2 ^ t)).sum
def Wn (P:List (Nat×Nat)) (n b:Nat):Nat:=Wy P n (n-(ths n b).length) b
theorem Yr (o:Ok P n) (h:Dr P n b=[]):(ths n b).length=n:=by
 have:=jej o h;have e:ths n b=List.range n:=by
  unfold ths;rw[List.filter_eq_self];intro t ht;exact this t (Xv.mp ht)
 rw[e,Xz]
theorem Gv (o:Ok P n) (h:Dr P n b=[]):Wn P n b=1:=by
 unfold Wn;rw[Yr o h,Nat.sub_self];rfl
theorem VC (o:Ok P n) (h:Dr P n b≠[]):Wn P n b=((Dr P n b).map fun t=>Wn P n (b ||| 2 ^ t)).sum:=by
 have hl:=Jw n b;obtain⟨t,ht⟩:=List.exists_mem_of_ne_nil _ h;have hb:=QN o ht;have hl2:=Jw n (b ||| 2 ^ t)
 obtain⟨k,ek⟩:∃ k,n-(ths n b).length=k+1:=⟨n-(ths n b).length-1,by omega⟩
 conv=>lhs; unfold Wn
 rw[ek];show (if Dr P n b=[] then 1 else ((Dr P n b).map fun t=>Wy P n k (b ||| 2 ^ t)).sum)=_
 rw[if_neg h];congr 1;refine List.map_congr_left fun s hs=>?_;unfold Wn;rw[QN o hs,show n-((ths n b).length+1)=k by omega]
theorem Dr_up:(Dr P n b).Pairwise (· < ·):=(List.pairwise_lt_range).sublist List.filter_sublist
theorem Ys:(Dr P n b).length<=n:=by
 have:=List.length_filter_le (fun t=>!b.testBit t&&decide (b &&& (bel P n).getD t 0=(bel P n).getD t 0)) (List.range n);rw[Xz] at this;exact this
inductive Sf (P:List (Nat×Nat)) (n:Nat):Nat->List Nat->Prop
 | nil {c:Nat}:Dr P n c=[]->Sf P n c []
 | cons {c s:Nat}{l:List Nat}:s∈Dr P n c->Sf P n (c ||| 2 ^ s) l->Sf P n c (s::l)
def ws (P:List (Nat×Nat)) (n b:Nat) (l:List Nat):Nat:=(l.map fun t=>Wn P n (b ||| 2 ^ t)).sum
theorem jel (l m:List Nat):ws P n b (l++m)=ws P n b l+ws P n b m:=by
 unfold ws;rw[ww,List.sum_append]
theorem jbD (t:Nat) (m:List Nat):ws P n b (t::m)=Wn P n (b ||| 2 ^ t)+ws P n b m:=by
 unfold ws;rw[Xl,X8]
def rk (P:List (Nat×Nat)) (n:Nat):Nat->List Nat->Nat
 | _,[]=>0
 | b,t::l=>ws P n b ((Dr P n b).filter fun s=>decide (s<t))+rk P n (b ||| 2 ^ t) l
theorem jhr (h:L.Pairwise (· < ·)) (ht:t∈L):∃ C,L=(L.filter fun s=>decide (s<t))++t::C:=by
 obtain⟨A,C,rfl⟩:=List.append_of_mem ht;refine⟨C,?_⟩;rw[List.pairwise_append,List.pairwise_cons] at h;have e1:A.filter (fun s=>decide (s<t))=A:=List.filter_eq_self.mpr fun s hs=>Xk (h.2.2 s hs t Xn);have e2:(t::C).filter (fun s=>decide (s<t))=[]:=by
  rw[List.filter_eq_nil_iff];intro s hs;rw[Xw];rcases XB.mp hs with rfl | hs
  ·omega
  ·have:=h.2.1.1 s hs;omega
 rw[List.filter_append,e1,e2,XU]
theorem jiY {w:Nat->Nat}:∀ {C:List Nat}{m:Nat},m<(C.map w).sum->∃ A t B,C=A++t::B/\(A.map w).sum<=m/\m<(A.map w).sum+w t
 | [],m,h=>by simp at h
 | t::C,m,h=>by
  by_cases hm:m<w t
  ·exact⟨[],t,C,rfl,by simp,by simpa using hm⟩
  ·rw[Xl,X8] at h;have hm':w t<=m:=Nat.le_of_not_lt hm;obtain⟨k,rfl⟩:=Nat.exists_eq_add_of_le hm';obtain⟨A,s,B,rfl,h1,h2⟩:=jiY (w:=w) (C:=C) (m:=k) (by omega);refine⟨t::A,s,B,rfl,?_,?_⟩
   ·rw[Xl,X8]; omega
   ·rw[Xl,X8]; omega
theorem yX (u:List Nat) (t:Nat):MB.setN (u++[t])=MB.setN u ||| 2 ^ t:=by
 unfold MB.setN;rw[List.foldl_append];rfl
theorem Um {l:List Nat} (o:Ok P n) (L:Ln P n l):∀ (v u:List Nat),l=u++v->Sf P n (MB.setN u) v
 | [],u,e=>by
  rw[XU] at e;subst e;refine .nil ?_;rw[List.eq_nil_iff_forall_not_mem];intro t ht;obtain⟨h1,h2,_⟩:=(xR o).mp ht;rw[MB.setN_bit,Xk ((L.mem t).mpr h1)] at h2;cases h2
 | t::v,u,e=>by
  have ht:t<n:=(L.mem t).mp (by rw[e]; simp);have nd:=L.nd;rw[e] at nd;refine .cons ((xR o).mpr ⟨ht,?_,fun s hs hb=>?_⟩) ?_
  ·rw[MB.setN_bit,Xi (jdv nd)]
  ·rw[MB.setN_bit];exact Xk (L.before o e hb)
  ·rw[<- yX];exact Um o L v (u++[t]) (by rw[e]; simp)
theorem jem:∀ (u x:List Nat) (b:Nat),rk P n b (u++x)=rk P n b u+rk P n (u.foldl (fun a t=>a ||| 2 ^ t) b) x
 | [],x,b=>by
  show rk P n b x=0+rk P n b x;omega
 | t::u,x,b=>by
  show ws P n b _+rk P n (b ||| 2 ^ t) (u++x)=ws P n b _+rk P n (b ||| 2 ^ t) u+rk P n (u.foldl (fun a t=>a ||| 2 ^ t) (b ||| 2 ^ t)) x
  rw[jem u x];omega
theorem jfU (u x:List Nat):rk P n 0 (u++x)=rk P n 0 u+rk P n (MB.setN u) x:=jem u x 0
end
theorem jbE {l:List Nat} (o:Ok P n) (hlt:l.length<n):0<(Dr P n (MB.setN l)).length/\(Dr P n (MB.setN l)).length<=n:=by
 have hb:∀ s,(MB.setN l).testBit s=true ↔ s∈l:=fun s=>by rw[MB.setN_bit,Xw]
 have hdl:(Dr P n (MB.setN l)).length<=n:=by
  have:=List.length_filter_le (fun t=>!(MB.setN l).testBit t&&decide ((MB.setN l) &&& (bel P n).getD t 0=(bel P n).getD t 0)) (List.range n);rw[Xz] at this;exact this
 refine⟨?_,hdl⟩;rcases Nat.eq_zero_or_pos (Dr P n (MB.setN l)).length with h0 | h0
 ·have:=jej o (List.length_eq_zero_iff.mp h0);have b:=xQ id (List.nodup_range (n:=n)) (fun x hx=>(hb x).mp (this x (Xv.mp hx))) (fun _ _ _ _ e=>e);rw[Xz] at b;omega
 ·exact h0
structure Bg (P:List (Nat×Nat)) (n:Nat) (l:List Nat):Prop where
 nd:l.Nodup
 lt:∀ t∈l,t<n
 pw:l.Pairwise fun x y=>bl P n y x=false
 dc:∀ t∈l,∀ s,bl P n s t=true->s∈l
theorem Bg.snoc {d:Nat}{l:List Nat} (o:Ok P n) (b:Bg P n l) (hd:d∈Dr P n (MB.setN l)):Bg P n (l++[d]):=by
 have hb:∀ s,(MB.setN l).testBit s=true ↔ s∈l:=fun s=>by rw[MB.setN_bit,Xw]
 obtain⟨d1,d2,d3⟩:=(xR o).mp hd;have dn:d∉l:=fun z=>by rw[(hb d).mpr z] at d2; cases d2
 have dlow:∀ s,bl P n s d=true->s∈l:=fun s hs=>(hb s).mp (d3 s (Nat.lt_trans (Zl o d1 hs) d1) hs);refine⟨?_,fun t ht=>?_,?_,fun t ht s hs=>?_⟩
 ·rw[List.nodup_append];exact⟨b.nd,by simp,fun a ha b hb e=>by rw[XC] at hb; subst hb; subst e; exact dn ha⟩
 ·rcases XG.mp ht with ht | ht
  ·exact b.lt t ht
  ·rw[XC.mp ht]; exact d1
 ·rw[List.pairwise_append];refine⟨b.pw,by simp,fun a ha x hx=>?_⟩;rw[XC] at hx;subst hx;cases hz:bl P n x a with
  | false=>rfl
  | true=>exact absurd (b.dc a ha x hz) dn
 ·rcases XG.mp ht with ht | ht
  ·exact List.mem_append_left _ (b.dc t ht s hs)
  ·rw[XC.mp ht] at hs;exact List.mem_append_left _ (dlow s hs)
theorem Bg.ln {l:List Nat} (b:Bg P n l) (hl:l.length=n):Ln P n l:=by
 refine⟨b.nd,fun t=>⟨b.lt t,fun ht=>?_⟩,b.pw⟩;apply Classical.byContradiction;intro hn;have a:=xQ id (A:=t::l) (B:=List.range n) (XL.mpr ⟨hn,b.nd⟩) (fun x hx=>Xv.mpr (by
  rcases XB.mp hx with rfl | hx
  ·exact ht
  ·exact b.lt x hx)) (fun _ _ _ _ e=>e)
 rw[Xz,XQ] at a;omega
section
variable {P':List (Nat×Nat)}{m g b b':Nat}
def upg (g s:Nat):Nat:=if s<g then s else s+1
def dng (g t:Nat):Nat:=if g<t then t-1 else t
theorem jhs {t:Nat} (h:t≠g):upg g (dng g t)=t:=by
 unfold upg dng;split <;> split <;> omega
theorem jdw {s:Nat} (hg:g<m+1):upg g s<m+1 ↔ s<m:=by
 unfold upg;split <;> omega
structure Wo (P P':List (Nat×Nat)) (m g:Nat):Prop where
 ok:Ok P' m
 bl:∀ s u,u<m->(bl P' m s u=true ↔ bl P (m+1) (upg g s) (upg g u)=true)
theorem Wo.dr (w:Wo P P' m g) (o:Ok P (m+1)) (hg:g<m+1) (h1:b.testBit g=true) (h2:∀ s,b'.testBit s=b.testBit (upg g s)) (t:Nat):t∈Dr P (m+1) b ↔ t∈(Dr P' m b').map (upg g):=by
 rw[xR o,List.mem_map];constructor
 ·rintro⟨a1,a2,a3⟩;have hne:t≠g:=fun e=>by rw[e,h1] at a2; cases a2
  have hu:=jhs hne;have hlt:dng g t<m:=(jdw hg).mp (by rw[hu]; exact a1);refine⟨dng g t,(xR w.ok).mpr ⟨hlt,by rw[h2,hu]; exact a2,fun s hs hb=>?_⟩,hu⟩;rw[h2];exact a3 _ ((jdw hg).mpr hs) (by have:=(w.bl s _ hlt).mp hb; rwa [hu] at this)
 ·rintro⟨s,hs,rfl⟩;obtain⟨a1,a2,a3⟩:=(xR w.ok).mp hs;refine⟨(jdw hg).mpr a1,by rw[<- h2]; exact a2,fun x hx hb=>?_⟩;by_cases hxg:x=g
  ·rw[hxg]; exact h1
  ·have hu:=jhs hxg;rw[<- hu,<- h2];exact a3 _ ((jdw hg).mp (by rw[hu]; exact hx)) ((w.bl _ s a1).mpr (by rw[hu]; exact hb))
theorem Yt (n:Nat):ths n 0=[]:=by
 unfold ths;rw[List.filter_eq_nil_iff];intro t _;simp
def Wz:List (Nat×Nat)->Nat->Nat->List (Nat×Nat)
 | [],c,v=>[(c,v)]
 | p::d,c,v=>if p.1=c then (p.1,p.2+v)::d else p::Wz d c v
def ph (W:Nat->Nat) (d:List (Nat×Nat)):Nat:=(d.map fun p=>p.2 * W p.1).sum
theorem jen (W:Nat->Nat) (c v:Nat):∀ d,ph W (Wz d c v)=ph W d+v * W c
 | []=>by simp[Wz,ph]
 | p::d=>by
  unfold Wz;split
  ·rename_i h
   unfold ph;rw[Xl,Xl,X8,X8];dsimp only;rw[h,Nat.add_mul];omega
  ·have:=jen W c v d;unfold ph at this ⊢;rw[Xl,Xl,X8,X8,this];omega
theorem WA (c v:Nat):∀ d a,a∈(Wz d c v).map (·.1) ↔ a=c \/ a∈d.map (·.1)
 | [],a=>by simp[Wz]
 | p::d,a=>by
  unfold Wz;split
  ·rename_i h
   rw[Xl,Xl,XB];constructor
   ·exact .inr
   ·rintro (e | e)
    ·exact .inl (e.trans h.symm)
    ·exact e
  ·rw[Xl,Xl,XB,XB,WA c v d];constructor
   ·rintro (e | e | e)
    ·exact .inr (.inl e)
    ·exact .inl e
    ·exact .inr (.inr e)
   ·rintro (e | e | e)
    ·exact .inr (.inl e)
    ·exact .inl e
    ·exact .inr (.inr e)
theorem jeo (c v:Nat):∀ d:List (Nat×Nat),(d.map (·.1)).Nodup->((Wz d c v).map (·.1)).Nodup
 | [],_=>by simp[Wz]
 | p::d,h=>by
  rw[Xl,XL] at h;unfold Wz;split
  ·rw[Xl,XL];exact h
  ·rename_i q
   rw[Xl,XL,WA];exact⟨fun e=>e.elim q h.1,jeo c v d h.2⟩
section
variable [DecidableEq κ]
theorem VD (p:κ×α) (l:List (κ×α)) (k:κ):GU (p::l) k=if p.1=k then some p.2 else GU l k:=by
 unfold GU;rw[wd];by_cases h:p.1=k
 ·rw[Xk h,if_pos h]; rfl
 ·rw[Xi h,if_neg h]
theorem jfV {p:κ×α}{l:List (κ×α)}{k:κ}{v:α} (h:p.1≠k):VS (p::l) k v=p::VS l k v:=by
 unfold VS;rw[List.any_cons,Xi h,Bool.false_or,Xl,Xi h];cases l.any fun p=>decide (p.1=k) <;> rfl
theorem jfW {p:κ×α}{l:List (κ×α)}{v:α} (h:∀ q∈l,q.1≠p.1):VS (p::l) p.1 v=(p.1,v)::l:=by
 unfold VS;rw[List.any_cons,Xk rfl,Bool.true_or,Xl,Xk rfl];show (p.1,v)::_=_;congr 1
 conv=>rhs; rw[<- List.map_id l]
 refine List.map_congr_left fun q hq=>?_;rw[Xi (h q hq)];rfl
end
def Uo (n:Nat) (p:Nat×Nat):List Int×Int:=(zn (ths n p.1),(p.2:Int))
theorem GX:∀ {l m:List Nat},zn l=zn m->l=m
 | [],[],_=>rfl
 | [],_::_,h=>by cases h
 | _::_,[],h=>by cases h
 | a::l,c::m,h=>by
  rw[Wv,Wv] at h;injection h with h1 h2
  rw[GX h2,show a=c by omega]
theorem Uq (hb:b<2 ^ n) (hb':b'<2 ^ n) (h:ths n b=ths n b'):b=b':=by
 refine Nat.eq_of_testBit_eq fun i=>?_;by_cases hi:i<n
 ·have e:i∈ths n b ↔ i∈ths n b':=by rw[h]
  rw[mem_ths,mem_ths] at e;rw[XM];exact⟨fun z=>(e.mp ⟨hi,z⟩).2,fun z=>(e.mpr ⟨hi,z⟩).2⟩
 ·have hp:2 ^ n<=2 ^ i:=Nat.pow_le_pow_right (by decide) (by omega);rw[Nat.testBit_lt_two_pow (Xx hb hp),Nat.testBit_lt_two_pow (Xx hb' hp)]
theorem jdx (hb:b<2 ^ n):MB.setN (ths n b)=b:=by
 refine Nat.eq_of_testBit_eq fun i=>?_;rw[MB.setN_bit];by_cases hi:i<n
 ·rw[XM,Xw,mem_ths];exact⟨fun z=>z.2,fun z=>⟨hi,z⟩⟩
 ·have hp:2 ^ n<=2 ^ i:=Nat.pow_le_pow_right (by decide) (by omega);rw[Nat.testBit_lt_two_pow (Xx hb hp),Xi];exact fun z=>hi (mem_ths.mp z).1
theorem WB {p:Nat×Nat}:∀ {d:List (Nat×Nat)},(∀ q∈d,q.1<2 ^ n)->(d.map (·.1)).Nodup->p∈d->GU (d.map (Uo n)) (zn (ths n p.1))=some ((p.2:Nat):Int)
 | [],_,_,h=>by cases h
 | q::d,hl,nd,h=>by
  rw[Xl,VD];rw[Xl,XL] at nd;rcases XB.mp h with rfl | h'
  ·rw[if_pos (show (Uo n p).1=zn (ths n p.1) from rfl)]; rfl
  ·rw[if_neg,WB (fun x hx=>hl x (Xj _ hx)) nd.2 h'];intro e;have:=Uq (hl q Xn) (hl p h) (GX e);exact nd.1 (List.mem_map.mpr ⟨p,h',this.symm⟩)
theorem jbF {c v:Nat} (hc:c<2 ^ n):∀ {d:List (Nat×Nat)},(∀ q∈d,q.1<2 ^ n)->(d.map (·.1)).Nodup->VS (d.map (Uo n)) (zn (ths n c)) ((GU (d.map (Uo n)) (zn (ths n c))).getD 0+(v:Int))=(Wz d c v).map (Uo n)
 | [],_,_=>by
  show [(zn (ths n c),(0:Int)+(v:Int))]=[(zn (ths n c),(v:Int))];rw[Int.zero_add]
 | q::d,hl,nd=>by
  rw[Xl,XL] at nd;have hl':∀ x∈d,x.1<2 ^ n:=fun x hx=>hl x (Xj _ hx);rw[Xl,VD];unfold Wz;by_cases h:q.1=c
  ·subst h;rw[if_pos rfl,if_pos (show (Uo n q).1=zn (ths n q.1) from rfl),Xl];have:=jfW (p:=Uo n q) (l:=d.map (Uo n)) (v:=((some (Uo n q).2).getD 0+(v:Int))) (fun x hx e=>by
    obtain⟨y,hy,rfl⟩:=List.mem_map.mp hx;have:=Uq (hl' y hy) hc (GX e);exact nd.1 (List.mem_map.mpr ⟨y,hy,this⟩))
   exact this
  ·have hne:(Uo n q).1≠zn (ths n c):=fun e=>h (Uq (hl q Xn) hc (GX e));rw[if_neg h,if_neg hne,jfV hne,jbF hc hl' nd.2,Xl]
theorem jfX (o:Ok P n) {t:Nat} (ht:t∈Dr P n b):(ths n (b ||| 2 ^ t)).Perm (ths n b++[t]):=by
 obtain⟨h1,h2,_⟩:=(xR o).mp ht;have nd1:(ths n (b ||| 2 ^ t)).Nodup:=(QM n _).imp fun h=>XF h
 have nd2:(t::ths n b).Nodup:=XL.mpr ⟨(fun z=>by rw[(QJ z).2] at h2; cases h2),(QM n _).imp fun h=>XF h⟩;refine List.Perm.trans ((List.perm_ext_iff_of_nodup nd1 nd2).mpr fun s=>?_) (List.perm_append_comm (l₁:=[t]) (l₂:=ths n b));rw[mem_ths,XB,mem_ths,JA,Bool.or_eq_true,Xw];constructor
 ·rintro⟨a,c | c⟩
  ·exact .inr ⟨a,c⟩
  ·exact .inl c.symm
 ·rintro (rfl | ⟨a,c⟩)
  ·exact⟨h1,.inr rfl⟩
  ·exact⟨a,.inl c⟩
theorem jht (o:Ok P n) {t:Nat} (ht:t∈Dr P n b):srt (zn (ths n b)++[(t:Int)])=zn (ths n (b ||| 2 ^ t)):=by
 refine(jaP ?_ ?_).symm
 ·have:=(jfX o ht).map fun x:Nat=>(x:Int);rw[ww] at this;exact this
 ·unfold zn;rw[List.pairwise_map];exact(QM n _).imp fun h=>by omega
structure Ct (P:List (Nat×Nat)) (n k:Nat) (d:List (Nat×Nat)):Prop where
 nd:(d.map (·.1)).Nodup
 ds:∀ p∈d,dsB P n p.1=true
 len:∀ p∈d,(ths n p.1).length=k
theorem Ct.lt (o:Ok P n) {k:Nat}{d:List (Nat×Nat)} (h:Ct P n k d):∀ p∈d,p.1<2 ^ n:=fun p hp=>((VA o).mp (h.ds p hp)).1
theorem Ct.add (o:Ok P n) {k t v:Nat}{d:List (Nat×Nat)} (h:Ct P n (k+1) d) (hb:dsB P n b=true) (hl:(ths n b).length=k) (ht:t∈Dr P n b):Ct P n (k+1) (Wz d (b ||| 2 ^ t) v):=by
 have key:∀ p∈Wz d (b ||| 2 ^ t) v,p.1=b ||| 2 ^ t \/ ∃ q∈d,q.1=p.1:=fun p hp=>by
  rcases (WA _ v d p.1).mp (List.mem_map.mpr ⟨p,hp,rfl⟩) with e | e
  ·exact .inl e
  ·obtain⟨q,hq,e⟩:=List.mem_map.mp e;exact .inr ⟨q,hq,e⟩
 refine⟨jeo _ _ _ h.nd,fun p hp=>?_,fun p hp=>?_⟩
 ·rcases key p hp with e | ⟨q,hq,e⟩
  ·rw[e]; exact Zn o hb ht
  ·rw[<- e]; exact h.ds q hq
 ·rcases key p hp with e | ⟨q,hq,e⟩
  ·rw[e,QN o ht,hl]
  ·rw[<- e]; exact h.len q hq
end
theorem Qd (n:Nat) (t:Nat->Bool):(List.range (n+1)).all t=(t 0&&(List.range n).all fun k=>t (k+1)):=by
 rw[List.range_succ_eq_map,List.all_cons,List.all_map];rfl
theorem GY {α β:Type}{f:β->α->Option (Fl β Bool)}:∀ {l:List α} (st:Nat->β) (test:Nat->Bool),(∀ k x,l[k]?=some x->f (st k) x=some (if test k=true then .nx (st (k+1)) else .rt false))->W3 l (st 0) f=some (if (List.range l.length).all test=true then .nx (st l.length) else .rt false)
 | [],st,test,_=>rfl
 | x::r,st,test,h=>by
  have h0:=h 0 x rfl;have ih:=GY (l:=r) (fun k=>st (k+1)) (fun k=>test (k+1)) (fun k y hy=>h (k+1) y hy);unfold W3;rw[h0,MM.bs,XQ,Qd];cases ht:test 0 with
  | true=>
   rw[if_pos rfl,Bool.true_and];exact ih
  | false=>
   rw[if_neg (by decide),Bool.false_and,if_neg (by decide)]
theorem WC (l:List α) (a b:Option Int):(cut l a b).length<=l.length:=by
 unfold cut;rw[List.length_take,List.length_drop];omega
theorem jbG {i:Int} (h0:0<=i) (h:i<l.length):∃ v,pAt l i=some v:=by
 obtain⟨k,rfl⟩:=Int.eq_ofNat_of_zero_le h0;have hk:k<l.length:=by omega
 exact⟨l[k],MM.at_nat (Xg hk)⟩
theorem qx (ns:List Int) (k:Nat):∃ c,ko ns (k:Int)=some c:=by
 unfold ko;by_cases h:0<ns.length
 ·have e:decide ((ns.length:Int)=0)=false:=Xi (by omega);have e0:pAt ns 0=some ns[0]:=MM.at_get (i:=0) h;have h2:k % ns.length<ns.length:=Nat.mod_lt _ h;have e2:(k:Int) % (ns.length:Int)=((k % ns.length:Nat):Int):=by simp
  rw[e,MM.cf,e0];simp only[MM.bs];by_cases hp:ns[0] % 2=0
  ·rw[Xk hp,MM.ct];by_cases hk:k<ns.length
   ·rw[Xk (show (k:Int)<(ns.length:Int) by omega),MM.ct];exact⟨_,MM.at_get hk⟩
   ·rw[Xi (show ¬ (k:Int)<(ns.length:Int) by omega),MM.cf];exact⟨_,rfl⟩
  ·rw[Xi hp,MM.cf,MM.modP (by omega),e2,MM.bs,MM.at_get h2];simp only[MM.bs];exact⟨_,rfl⟩
 ·have e:decide ((ns.length:Int)=0)=true:=Xk (by omega);rw[e,MM.ct,MM.bs,MM.ct,Xi (show ¬ (k:Int)<(ns.length:Int) by omega),MM.cf];exact⟨_,rfl⟩
theorem jdy (c:Int) {m:Nat} (h:0<m):∃ k:Nat,k<m/\c % (m:Int)=(k:Int):=by
 have h1:=Int.emod_nonneg c (show (m:Int)≠0 by omega);have h2:=Int.emod_lt_of_pos c (show (0:Int)<(m:Int) by omega);exact⟨(c % (m:Int)).toNat,by omega,by omega⟩
theorem jhu (b t:Nat):zl (b:Int) (t:Int)=some (b.testBit t):=by
 unfold zl;rw[MM.shr];simp only[MM.bs];congr 1;have e1:Builtin.bitAnd ((b / 2 ^ t:Nat):Int) 1=(((b / 2 ^ t) &&& 1:Nat):Int):=MB.and_nat _ 1;rw[e1,Nat.and_one_is_mod,XM,Xw,Nat.testBit_eq_decide_div_mod_eq,Xw];omega
theorem jep {b:Nat} (h:b<2 ^ n) (hn:n<=100):ql (b:Int)=some (zn (ths n b)):=by
 unfold ql;have h1:=MB.bits_le h;rw[MM.rng (by omega)];simp only[MM.bs];rw[MM.compR (fun t=>b.testBit t) (fun t=>((t:Nat):Int)) (by omega) (fun k hk=>jhu b k) (fun k hk _=>rfl),MB.things_eq h];rfl
theorem WD (o:Ok P n) (h1:1<=n) (h9:n<=9):kQ (n:Int) (zp P)=some ():=by
 unfold kQ;have e:(!((decide ((1:Int)<=(n:Int)))&&(decide ((n:Int)<=9))))=false:=by
  rw[Xk (by omega),Xk (by omega)]; rfl
 rw[e,MM.cf,Vz,MM.bs];intro x hx;obtain⟨p,hp,rfl⟩:=List.mem_map.mp hx;obtain⟨h2,h3⟩:=o p hp;have e2:(!((decide ((0:Int)<=(p.1:Int)))&&((decide ((p.1:Int)<(p.2:Int)))&&(decide ((p.2:Int)<(n:Int))))))=false:=by
  rw[Xk (by omega),Xk (by omega),Xk (by omega)]; rfl
 rw[e2,MM.cf]
theorem Zo (o:Ok P n) (h9:n<=9):qe (n:Int) (zp P)=some (zn (bel P n)):=by
 unfold qe;rw[MM.rng (by omega)];simp only[MM.bs];refine MM.forM_then (R:=fun r=>r=some (zn (bel P n))) (fun k z=>z=zn (bel P k)) rfl ?_ ?_
 ·rintro k z hk rfl;unfold zp;rw[MM.forM_map,MM.forM_cast (b0:=(0:Int)) (fun b:Nat=>(b:Int)) (fun acc p=>if p.2=k then acc ||| (bel P k).getD p.1 0 ||| 2 ^ p.1 else acc) 0 rfl (fun b p hp=>by
   obtain⟨h2,h3⟩:=o p hp;by_cases h:p.2=k
   ·have e:decide ((p.2:Int)=(k:Int))=true:=Xk (by omega);rw[e,jbr (by rw[yO]; omega),MM.shl1 (by omega)];simp only[MM.ct,MM.bs];rw[MB.or_nat,MB.or_nat,if_pos h]
   ·have e:decide ((p.2:Int)=(k:Int))=false:=Xi (by omega);rw[e];simp only[MM.cf,MM.bs];rw[if_neg h])]
  simp only[MM.bs];rw[MM.app (by rw[qg,yO]; omega)];simp only[MM.bs];refine⟨_,rfl,?_⟩;show zn (bel P k)++[_]=zn (bel P k++[G_ P (bel P k) k]);unfold zn G_;rw[ww];rfl
 ·rintro z rfl;rfl
theorem jdz {l h:Nat} (hl:l<n) (hh:h<n) (h9:n<=9):qZ (zn (bel P n)) (l:Int) (h:Int)=some (cvB P n l h):=by
 unfold qZ;rw[QL hh];simp only[MM.bs,jhu];show (bif (!bl P n l h) then some false else _)=some (bl P n l h&&_);cases hb:bl P n l h with
 | false=>
  rw[wn,MM.ct,Bool.false_and]
 | true=>
  rw[XT,MM.cf,Bool.true_and];have e:(l:Int)+1=((l+1:Nat):Int):=by omega
  rw[e,MM.rng2 (by omega) (by omega)];simp only[MM.bs];rw[MM.comp1 (fun x=>bl P n x.toNat h&&bl P n l x.toNat) (by simp; omega) (fun x hx=>by
   obtain⟨d,hd,rfl⟩:=List.mem_map.mp hx;have:=Xv.mp hd;rw[jhu];simp only[MM.bs];rw[QL (by omega),X9];simp only[MM.bs,jhu];show (bif bl P n (l+1+d) h then some (bl P n l (l+1+d)) else some false)=_;cases bl P n (l+1+d) h <;> rfl)]
  simp only[MM.bs];congr 2;rw[wH,List.any_map];congr 1
theorem WE (h9:n<=9):kR (zn (bel P n))=some (zp (cvs P n)):=by
 unfold kR;rw[qg,yO,MM.rng (by omega)];simp only[MM.bs];refine MM.forM_then (R:=fun r=>r=some (zp (cvs P n))) (fun k z=>z=zp ((List.range k).flatMap (cvL P n))/\z.length<=9 * k) ⟨rfl,Xh _⟩ ?_ ?_
 ·rintro k z hk ⟨rfl,hlen⟩;have e:(k:Int)+1=((k+1:Nat):Int):=by omega
  rw[e,MM.rng2 (by omega) (by omega)];simp only[MM.bs];refine MM.forM_thenL (R:=fun r=>∃ b',r=some b'/\b'=zp ((List.range (k+1)).flatMap (cvL P n))/\b'.length<=9 * (k+1)) (fun j z=>z=zp ((List.range k).flatMap (cvL P n)++((((List.range j).map fun d=>k+1+d).filter fun h=>cvB P n k h).map fun h=>(k,h)))/\z.length<=9 * k+j)
   ⟨by simp,hlen⟩ ?_ ?_
  ·rintro j x z hx ⟨rfl,hz⟩;rw[Xt] at hx;cases hr:(List.range (n-(k+1)))[j]? with
   | none=>rw[hr] at hx; cases hx
   | some d=>
    rw[hr] at hx;have hjn:j<n-(k+1):=by
     have:=(List.getElem?_eq_some_iff.mp hr).1;simpa using this
    have hd:d=j:=by
     rw[List.getElem?_range hjn] at hr;exact(Option.some.inj hr).symm
    subst hd;obtain rfl:((k+1+d:Nat):Int)=x:=Option.some.inj hx;rw[jdz hk (by omega) h9];simp only[MM.bs];rw[List.range_succ,ww,List.filter_append,ww];cases hc:cvB P n k (k+1+d) with
    | false=>
     simp only[MM.cf,MM.bs];refine⟨_,rfl,?_,by omega⟩;simp[hc]
    | true=>
     simp only[MM.ct];rw[MM.app (by omega)];simp only[MM.bs];refine⟨_,rfl,?_,by simp; omega⟩;simp[hc,zp]
  ·rintro z ⟨rfl,hz⟩;refine⟨_,rfl,?_,?_⟩
   ·rw[Xp,Xz,List.range_succ,wF];simp[cvL]
   ·rw[Xp,Xz] at hz ⊢;omega
 ·rintro z ⟨rfl,_⟩;rfl
def zj (P:List (Nat×Nat)) (n:Nat):MOrder:=⟨(n:Int),zn (bel P n),zp (cvs P n)⟩
theorem Zp (o:Ok P n) (h1:1<=n) (h9:n<=9):kS (n:Int) (zp P)=some (zj P n):=by
 unfold kS;rw[WD o h1 h9,Zo o h9];simp only[MM.bs];rw[WE h9];rfl
theorem size (P:List (Nat×Nat)) (n:Nat):jP (zj P n)=some (n:Int):=by
 unfold jP;rfl
theorem z_ (b c:Nat):km (b:Int) (c:Int)=some (decide (b &&& c=c)):=by
 unfold km;congr 1;rw[MB.and_nat,XM,Xw,Xw];omega
theorem Qe (P:List (Nat×Nat)) (h9:n<=9) (b:Nat):kT (zj P n) (b:Int)=some (dsB P n b):=by
 unfold kT;rw[size];simp only[MM.bs];have e0:decide ((b:Int)<0)=false:=Xi (by omega);rw[e0,MM.cf,MM.shr];simp only[MM.bs];unfold dsB;have hp:0<2 ^ n:=Nat.pow_pos (by decide);by_cases hb:b<2 ^ n
 ·have e1:decide ((0:Int)<((b / 2 ^ n:Nat):Int))=false:=Xi (by rw[Nat.div_eq_of_lt hb]; omega);rw[e1,MM.cf,jep hb (by omega),Xk hb,Bool.true_and];simp only[MM.bs];unfold zn;rw[MM.comp1 (fun x=>decide (b &&& (bel P n).getD x.toNat 0=(bel P n).getD x.toNat 0)) (by rw[Xp]; have:=Jw n b; omega) (fun x hx=>by
   obtain⟨t,ht,rfl⟩:=List.mem_map.mp hx;have:=(QJ ht).1;show (pAt (zn (bel P n)) (t:Int)).bind _=_;rw[QL this];simp only[MM.bs];rw[z_,X9])]
  simp only[MM.bs];congr 1;rw[wH,jhg];rfl
 ·have h2:0<b / 2 ^ n:=Nat.div_pos (by omega) hp;have e1:decide ((0:Int)<((b / 2 ^ n:Nat):Int))=true:=Xk (by omega);rw[e1,MM.ct,Xi hb];rfl
theorem jdA (P:List (Nat×Nat)) (h9:n<=9):qw (zj P n)=some (zn (dss P n)):=by
 have hp:=jiv h9;unfold qw;rw[size];simp only[MM.bs];rw[MM.shl1 (by omega)];simp only[MM.bs];rw[MM.rng (by omega)];simp only[MM.bs];rw[MM.compR (fun b=>dsB P n b) (fun b=>((b:Nat):Int)) (by omega) (fun b hb=>Qe P h9 b) (fun b hb _=>rfl)];rfl
theorem jbH (x:Int):xO x=some true:=by unfold xO; rfl
theorem GL {l:List Nat} (o:Ok P n) (h9:n<=9) (h:Ln P n l):kz (zj P n) (zn l)=some true:=by
 have hlen:=h.len;unfold kz;rw[size,jdq (m:=List.range n) (Ul h.nd) List.pairwise_lt_range (fun x=>by
  rw[mem_zn];constructor
  ·rintro⟨t,ht,rfl⟩; exact ⟨t,Xv.mpr ((h.mem t).mp ht),rfl⟩
  ·rintro⟨t,ht,rfl⟩; exact ⟨t,(h.mem t).mpr (Xv.mp ht),rfl⟩) (by rw[qg]; omega)]
 simp only[MM.bs];rw[jdu (by omega)];simp only[MM.bs];rw[MM.isEq_self,XT,MM.cf];refine Zm (R:=fun r=>r=some true) (fun k (z:Int)=>z=((MB.setN (l.take k):Nat):Int)) rfl (fun k x z hx hz=>?_) (fun z _=>by rw[eln])
 ·subst hz;obtain⟨t,ht,rfl⟩:∃ t,l[k]?=some t/\x=(t:Int):=by
   unfold zn at hx;rw[Xt] at hx;obtain⟨p,hp,e⟩:=Option.map_eq_some_iff.mp hx;exact⟨p,hp,e.symm⟩
  have htn:t<n:=(h.mem t).mp (XA ht);obtain⟨hk,ek⟩:=List.getElem?_eq_some_iff.mp ht;have es:l=l.take k++t::l.drop (k+1):=by
   rw[<- ek,<- List.drop_eq_getElem_cons hk,List.take_append_drop]
  have eb:(zj P n).beneath=zn (bel P n):=rfl;rw[eb,QL htn];simp only[MM.bs];rw[z_,Xk ((Jx o htn).mpr fun s hs hst=>by rw[MB.setN_bit]; exact Xk (h.before o es hst))];simp only[MM.bs,XT,MM.cf];rw[MM.shl1 (by omega)];simp only[MM.bs];refine⟨_,rfl,?_⟩;rw[MB.or_nat,List.take_add_one,ht];unfold MB.setN;rw[List.foldl_append];rfl
theorem Ur {l:List Nat} (o:Ok P n) (h9:n<=9) (h:Ln P n l):((((kz (zj P n) (zn l))).bind fun t1=>some ((!t1)))).bind (fun q2=>bif q2 then (none:Option Unit) else some ())=some ():=by
 rw[GL o h9 h];simp only[MM.bs,XT,MM.cf]
theorem Zq {l:List Nat} (o:Ok P n) (h9:n<=9) (h:Ln P n l):kj (zj P n) (zn l)=some ():=by
 unfold kj;exact Ur o h9 h
theorem Zr (ns:List Int) {m:Nat} (h1:1<=m) (h9:m<=9):∃ n P,Drawn (qk ns (m:Int)) n P/\P.length<=300:=by
 unfold qk;obtain⟨c0,e0⟩:=qx ns 0;obtain⟨c1,e1⟩:=qx ns 1;have e0:ko ns 0=some c0:=e0;have e1:ko ns 1=some c1:=e1;obtain⟨m',hm1,hm9,hmn⟩:∃ m':Nat,1<=m'/\m'<=9/\mn2 (m:Int) 6=(m':Int):=by
  unfold mn2;split
  ·exact⟨6,by decide,by decide,rfl⟩
  ·exact⟨m,h1,h9,rfl⟩
 rw[e0,e1,hmn];simp only[MM.bs];obtain⟨z,hz,ez⟩:=jdy (c0 / 2) (m:=m') (by omega);rw[MM.modP (by omega),ez];simp only[MM.bs];rw[show 1+(z:Int)=((z+1:Nat):Int) by omega,MM.rng (by omega),MM.bs];refine MM.forM_then (R:=fun r=>∃ n P,Drawn r n P/\P.length<=300) (fun k (st:Int×List (Int×Int))=>∃ P,st.2=zp P/\Ok P (z+1)/\P.length<=9 * k) ⟨[],rfl,Yo,Xh _⟩ ?_ ?_
 ·rintro k ⟨bs,st⟩ hk ⟨P,hP,ho,hl⟩;have hP:st=zp P:=hP;subst hP;dsimp only;rw[MM.rng (by omega),MM.bs];refine MM.forM_then (R:=fun r=>∃ b':Int×List (Int×Int),r=some b'/\∃ P,b'.2=zp P/\Ok P (z+1)/\P.length<=9 * (k+1)) (fun j (s:Int×List (Int×Int))=>∃ P,s.2=zp P/\Ok P (z+1)/\P.length<=9 * k+j) ⟨P,rfl,ho,by omega⟩ ?_ ?_
  ·rintro j ⟨bs',st'⟩ hj ⟨P',hP',ho',hl'⟩;have hP':st'=zp P':=hP';subst hP';dsimp only;cases decide (bs' % 2=1) with
   | true=>
    rw[MM.ct,MM.app (by rw[Vy]; omega),MM.bs,MM.bs];refine⟨_,rfl,P'++[(j,k)],by rw[Yn]; rfl,Yp ho' (Yq hj (by omega)),by simp; omega⟩
   | false=>
    rw[MM.cf,MM.bs];exact⟨_,rfl,P',rfl,ho',by omega⟩
  ·rintro⟨bs',st'⟩ ⟨P',hP',ho',hl'⟩;exact⟨_,rfl,P',hP',ho',by omega⟩
 ·rintro⟨bs',st'⟩ ⟨P',hP',ho',hl'⟩;have hP':st'=zp P':=hP';subst hP';exact⟨z+1,P',⟨rfl,by omega,by omega,ho',by omega⟩,by omega⟩
theorem jiy {r w:Nat} (hr:1<=r) (hw:1<=w) (h9:r * w<=9):∃ P,GJ (r:Int) (w:Int)=some (zp P)/\Ok P (r * w)/\P.length<=300:=by
 have r9:r<=9:=XI (Nat.le_mul_of_pos_right r (by omega)) h9;have w9:w<=9:=XI (Nat.le_mul_of_pos_left w (by omega)) h9;unfold GJ;simp only[MM.bs];rw[MM.rng (by omega),MM.bs];refine MM.forM_then (R:=fun x=>∃ P,x=some (zp P)/\Ok P (r * w)/\P.length<=300) (fun k (st:List (Int×Int))=>∃ P,st=zp P/\Ok P (r * w)/\P.length<=20 * k) ⟨[],rfl,Yo,Xh _⟩ ?_ ?_
 ·rintro k st hk ⟨P,rfl,ho,hl⟩;rw[MM.rng (by omega),MM.bs];refine MM.forM_then (R:=fun x=>∃ b',x=some b'/\∃ P,b'=zp P/\Ok P (r * w)/\P.length<=20 * (k+1)) (fun j (s:List (Int×Int))=>∃ P,s=zp P/\Ok P (r * w)/\P.length<=20 * k+2 * j) ⟨P,rfl,ho,by omega⟩ ?_ ?_
  ·rintro j st' hj ⟨P',rfl,ho',hl'⟩;have hkw:k * w+w<=r * w:=by
    have:=Nat.mul_le_mul_right w hk;rw[Nat.succ_mul] at this;exact this
   have em:(k:Int) * (w:Int)=((k * w:Nat):Int):=by simp
   rw[MM.mulP (by omega),em];simp only[MM.bs];obtain⟨P1,e1,o1,l1⟩:∃ P1,(bif decide ((j:Int)+1<(w:Int)) then (VQ (zp P') (((k * w:Nat):Int)+(j:Int),((k * w:Nat):Int)+(j:Int)+1)).bind fun pairs=>some pairs else some (zp P'))=some (zp P1)/\Ok P1 (r * w)/\P1.length<=20 * k+2 * j+1:=by
    by_cases h:j+1<w
    ·rw[Xk (by omega),MM.ct,MM.app (by rw[Vy]; omega),MM.bs];refine⟨P'++[(k * w+j,k * w+j+1)],?_,Yp ho' (Yq (by omega) (by omega)),by simp; omega⟩;rw[Yn];congr 1
    ·rw[Xi (by omega),MM.cf];exact⟨P',rfl,ho',by omega⟩
   rw[e1,MM.bs];obtain⟨P2,e2,o2,l2⟩:∃ P2,(bif decide ((k:Int)+1<(r:Int)) then (VQ (zp P1) (((k * w:Nat):Int)+(j:Int),((k * w:Nat):Int)+(w:Int)+(j:Int))).bind fun pairs=>some pairs else some (zp P1))=some (zp P2)/\Ok P2 (r * w)/\P2.length<=20 * k+2 * j+2:=by
    by_cases h:k+1<r
    ·have h2:k * w+w+w<=r * w:=by
      have:=Nat.mul_le_mul_right w (show k+1+1<=r by omega);rw[Nat.succ_mul,Nat.succ_mul] at this;exact this
     rw[Xk (by omega),MM.ct,MM.app (by rw[Vy]; omega),MM.bs];refine⟨P1++[(k * w+j,k * w+w+j)],?_,Yp o1 (Yq (by omega) (by omega)),by simp; omega⟩;rw[Yn];congr 1
    ·rw[Xi (by omega),MM.cf];exact⟨P1,rfl,o1,by omega⟩
   rw[e2,MM.bs];exact⟨_,rfl,P2,rfl,o2,by omega⟩
  ·rintro st' ⟨P',rfl,ho',hl'⟩;exact⟨_,rfl,P',rfl,ho',by omega⟩
 ·rintro st ⟨P,rfl,ho,hl⟩;exact⟨P,rfl,ho,by omega⟩
theorem jhv (ns:List Int) {m:Nat} (h3:3<=m) (h9:m<=9):∃ n P,Drawn (yx ns (m:Int)) n P/\P.length<=300:=by
 unfold yx;obtain⟨c0,e0⟩:=qx ns 0;obtain⟨c1,e1⟩:=qx ns 1;obtain⟨c2,e2⟩:=qx ns 2;have e0:ko ns 0=some c0:=e0;have e1:ko ns 1=some c1:=e1;have e2:ko ns 2=some c2:=e2;obtain⟨q,hq⟩:∃ q,(bif decide ((ns.length:Int)=0) then some true else ((pAt ns 0).bind fun t1=>some (t1 % 2)).bind fun t2=>(some 0).bind fun t3=>some (decide (t2=t3)))=some q:=by
  by_cases h:0<ns.length
  ·rw[Xi (by omega),MM.cf,show pAt ns 0=some ns[0] from MM.at_get (i:=0) h];exact⟨_,rfl⟩
  ·rw[Xk (by omega),MM.ct];exact⟨_,rfl⟩
 rw[hq,MM.bs];cases q with
 | true=>rw[MM.ct]; exact Zr ns (by omega) h9
 | false=>
 rw[MM.cf,e0,e1,e2];simp only[MM.bs];obtain⟨z,hz,ez⟩:=jdy c1 (m:=m) (by omega);rw[MM.modP (by omega),ez];simp only[MM.bs];obtain⟨n,hn,hn1,hn9⟩:∃ n:Nat,((bif Qq (c0 % 5) ([2,3]:List Int) then some (decide (0<c0 / 5 % 8)) else some false).bind fun q52=>bif q52 then some (mn2 (1+(z:Int)) 7) else some (1+(z:Int)))=some (n:Int)/\1<=n/\n<=9:=by
  have h7:∃ k:Nat,mn2 (1+(z:Int)) 7=(k:Int)/\1<=k/\k<=9:=by
   unfold mn2;split
   ·exact⟨7,rfl,by decide,by decide⟩
   ·exact⟨1+z,by omega,by omega,by omega⟩
  obtain⟨k,ek,k1,k9⟩:=h7;rw[ek];cases Qq (c0 % 5) ([2,3]:List Int) with
  | true=>
   rw[MM.ct,MM.bs];cases decide (0<c0 / 5 % 8) with
   | true=>exact ⟨k,rfl,k1,k9⟩
   | false=>exact ⟨1+z,by rw[MM.cf]; congr 1,by omega,by omega⟩
  | false=>exact ⟨1+z,by rw[MM.cf,MM.bs,MM.cf]; congr 1,by omega,by omega⟩
 rw[hn,MM.bs];cases hk0:decide (c0 % 5=0) with
 | true=>
  rw[MM.ct];obtain⟨r,hr,er⟩:=jdy c1 (m:=3) (by decide);have er:c1 % 3=(r:Int):=er;have hb:(1000:Int)<2 ^ 250:=by decide
  have hq:(m:Int) / (1+(r:Int))=((m / (r+1):Nat):Int):=by
   rw[show (1+(r:Int))=((r+1:Nat):Int) by omega];exact(Int.natCast_ediv m (r+1)).symm
  have hqp:0<m / (r+1):=Nat.div_pos (by omega) (by omega);obtain⟨w,hw,ew⟩:=jdy c2 hqp;rw[er,MM.divP (by omega) (by omega),MM.bs,hq,MM.modP (by omega),ew];simp only[MM.bs];have hrw:(r+1) * (w+1)<=9:=by
   have a:=Nat.mul_le_mul_left (r+1) hw;have b:=Nat.mul_div_le m (r+1);exact XI a (XI b h9)
  obtain⟨P,eP,oP,lP⟩:=jiy (r:=r+1) (w:=w+1) (by omega) (by omega) hrw;rw[show 1+(r:Int)=((r+1:Nat):Int) by omega,show 1+(w:Int)=((w+1:Nat):Int) by omega,MM.mulP (by omega),eP];simp only[MM.bs];exact⟨(r+1) * (w+1),P,⟨by congr 1,Nat.mul_pos (by omega) (by omega),hrw,oP,by omega⟩,lP⟩
 | false=>
 rw[MM.cf];cases hk1:decide (c0 % 5=1) with
 | true=>
  rw[MM.ct,show (n:Int)-1=((n-1:Nat):Int) by omega,MM.rng (by omega),MM.bs,MM.compR1 (fun k=>(((k:Nat):Int),(((k+1:Nat)):Int))) (by omega) (fun k hk=>by simp)];simp only[MM.bs];refine⟨n,(List.range (n-1)).map fun k=>(k,k+1),⟨?_,hn1,hn9,fun p hp=>?_,by simp; omega⟩,by simp; omega⟩
  ·simp[zp,Function.comp_def]
  ·obtain⟨k,hk,rfl⟩:=List.mem_map.mp hp;have:=Xv.mp hk;exact⟨by simp,by simp; omega⟩
 | false=>
 rw[MM.cf];cases hkk:(decide (2<c0 % 5)&&decide (1<(n:Int))) with
 | false=>
  rw[MM.cf];exact⟨n,[],⟨rfl,hn1,hn9,Yo,by simp⟩,by simp⟩
 | true=>
  rw[MM.ct];rw[X6,Xw,Xw] at hkk;obtain⟨a,ha,ea⟩:=jdy c2 (m:=7) (by decide);obtain⟨b,hb,eb⟩:=jdy c2 (m:=13) (by decide);have ea:c2 % 7=(a:Int):=ea;have eb:c2 % 13=(b:Int):=eb;obtain⟨q,eq,hq'⟩:∃ q:Nat,pAt ([c2 % 7,8+c2 % 13]:List Int) (c0 % 5-3)=some (q:Int)/\q<=20:=by
   have h5:c0 % 5=3 \/ c0 % 5=4:=by omega
   rw[ea,eb];rcases h5 with h | h <;> rw[h]
   ·exact⟨a,MM.at_nat (i:=0) rfl,by omega⟩
   ·exact⟨8+b,MM.at_nat (i:=1) (by show some _=some _; congr 1),by omega⟩
  rw[eq,MM.bs,MM.rng (by omega),MM.bs];refine MM.forM_then (R:=fun r=>∃ n' P,Drawn (r.bind fun pairs=>some ((n:Int),pairs)) n' P/\P.length<=300) (fun k (st:List (Int×Int))=>∃ P,st=zp P/\Ok P n/\P.length<=k) ⟨[],rfl,Yo,Xh _⟩ ?_ ?_
  ·rintro k st hk ⟨P,rfl,ho,hl⟩;obtain⟨c,ec⟩:=qx ns (8+k);have ec:ko ns (8+(k:Int))=some c:=by
    rw[show (8+(k:Int))=((8+k:Nat):Int) by omega];exact ec
   obtain⟨lo,hlo,elo⟩:=jdy c (m:=n-1) (by omega);obtain⟨d,hd,ed⟩:=jdy (c / 9) (m:=n-1-lo) (by omega);rw[ec,MM.bs,show (n:Int)-1=((n-1:Nat):Int) by omega,MM.modP (by omega),elo,MM.bs,show ((n-1:Nat):Int)-(lo:Int)=((n-1-lo:Nat):Int) by omega,MM.modP (by omega),ed];simp only[MM.bs];rw[MM.app (by rw[Vy]; omega),MM.bs];refine⟨_,rfl,P++[(lo,lo+1+d)],by rw[Yn]; rfl,Yp ho (Yq (by omega) (by omega)),by simp; omega⟩
  ·rintro st ⟨P,rfl,ho,hl⟩;exact⟨n,P,⟨rfl,hn1,hn9,ho,by omega⟩,by omega⟩
def yc (n:Nat) (tbl:Nat->List Nat):List (List Int):=(List.range n).map fun h=>zn (tbl h)
structure Tb (P:List (Nat×Nat)) (n k:Nat) (tbl:Nat->List Nat):Prop where
 nd:∀ h,(tbl h).Nodup
 lt:∀ h,∀ t∈tbl h,t<n
 dn:∀ h,h<k->∀ t,t∈tbl h ↔ bl P n t h=true
 no:∀ h,k<h->tbl h=[]
theorem Yu (nd:L.Nodup) (lt:∀ t∈L,t<n):L.length<=n:=by
 have:=xQ id (A:=L) (B:=List.range n) nd (fun t ht=>Xv.mpr (lt t ht)) (fun _ _ _ _ e=>e)
 rwa [Xz] at this
theorem jdB {k t:Nat} (hk:k<n) (hl:(tbl k).length<=1000):Vo (yc n tbl) (k:Int) (t:Int)=some (yc n fun h=>if h=k then tbl k++[t] else tbl h):=by
 unfold Vo yc;rw[show ((List.range n).map fun h=>zn (tbl h)).length=n by simp,jfO hk,MM.bs];have e:((List.range n).map fun h=>zn (tbl h))[k]?=some (zn (tbl k)):=by
  rw[Xt,List.getElem?_range hk];rfl
 rw[e,MM.bs,if_pos (by rw[qg]; omega),jbs hk];congr 1;refine List.map_congr_left fun h _=>?_;dsimp only;by_cases q:h=k
 ·rw[if_pos q,if_pos q]; simp[zn]
 ·rw[if_neg q,if_neg q]
theorem jfY {t h:Nat} (o:Ok P n) (hh:h<n):bl P n t h=true ↔ ∃ p∈P,p.2=h/\(t=p.1 \/ bl P n t p.1=true):=by
 rw[QK o hh];constructor
 ·intro L;cases L with
  | one hp=>exact ⟨_,hp,rfl,.inl rfl⟩
  | step L' hp=>
   have:=(o _ hp).1;exact⟨_,hp,rfl,.inr ((QK o (Nat.lt_trans this hh)).mpr L')⟩
 ·rintro⟨⟨a,b⟩,hp,rfl,rfl | hb⟩
  ·exact .one hp
  ·have:=(o _ hp).1;exact .step ((QK o (Nat.lt_trans this hh)).mp hb) hp
theorem jbI (o:Ok P n) (h9:n<=9) (hP:P.length<=300):∃ tbl,xz (n:Int) (zp P)=some (yc n tbl)/\(∀ h,h<n->(tbl h).length<=1000)/\∀ h,h<n->∀ t,t∈tbl h ↔ bl P n t h=true:=by
 unfold xz;rw[MM.rng (by omega),MM.bs,MM.compR1 (fun _=>([]:List Int)) (by omega) (fun _ _=>rfl),MM.bs];refine MM.forM_then (R:=fun x=>∃ tbl,x=some (yc n tbl)/\(∀ h,h<n->(tbl h).length<=1000)/\∀ h,h<n->∀ t,t∈tbl h ↔ bl P n t h=true) (fun k z=>∃ tbl,z=yc n tbl/\Tb P n k tbl/\tbl k=[]) ?_ ?_ ?_
 ·exact⟨fun _=>[],rfl,⟨fun _=>List.nodup_nil,fun _ t h=>absurd h List.not_mem_nil,fun h hh=>absurd hh (Nat.not_lt_zero _),fun _ _=>rfl⟩,rfl⟩
 ·rintro k z hk ⟨tbl,rfl,T,e0⟩;have mid:∃ tbl',L3.forM (zp P) (yc n tbl) (fun below_here z11=>(bif decide (z11.2=(k:Int)) then (((pAt below_here z11.1).bind fun t12=>(some ([z11.1]:List Int)).bind fun t13=>JT t12 t13).bind fun l21=>L3.forM l21 below_here (fun below_here thing=>
    (((some thing).bind fun t15=>(pAt below_here (k:Int)).bind fun t16=>some (!Qq t15 t16)).bind fun q20=>bif q20 then ((some (k:Int)).bind fun t17=>(some thing).bind fun t18=>Vo below_here t17 t18).bind fun below_here=>some below_here else some below_here).bind fun below_here=>some below_here)).bind fun below_here=>some below_here else some below_here).bind fun below_here=>some below_here)=some (yc n tbl') /\
    Tb P n k tbl'/\∀ t,t∈tbl' k ↔ ∃ p∈P,p.2=k/\(t=p.1 \/ bl P n t p.1=true):=by
   obtain⟨b',eb,tbl',rfl,T',h'⟩:=MM.forM_inv (l:=zp P) (b0:=yc n tbl) (f:=fun below_here z11=>(bif decide (z11.2=(k:Int)) then (((pAt below_here z11.1).bind fun t12=>(some ([z11.1]:List Int)).bind fun t13=>JT t12 t13).bind fun l21=>L3.forM l21 below_here (fun below_here thing=>
    (((some thing).bind fun t15=>(pAt below_here (k:Int)).bind fun t16=>some (!Qq t15 t16)).bind fun q20=>bif q20 then ((some (k:Int)).bind fun t17=>(some thing).bind fun t18=>Vo below_here t17 t18).bind fun below_here=>some below_here else some below_here).bind fun below_here=>some below_here)).bind fun below_here=>some below_here else some below_here).bind fun below_here=>some below_here)
    (fun i z=>∃ tbl',z=yc n tbl'/\Tb P n k tbl'/\∀ t,t∈tbl' k ↔ ∃ p∈P.take i,p.2=k/\(t=p.1 \/ bl P n t p.1=true)) ⟨tbl,rfl,T,fun t=>by rw[e0]; simp⟩ (fun i x z hx hz=>by
     obtain⟨tb,rfl,Tt,ht⟩:=hz;unfold zp at hx;rw[Xt] at hx;cases q:P[i]? with
     | none=>rw[q] at hx; cases hx
     | some p=>
     rw[q] at hx;cases hx;have hpm:p∈P:=XA q;have hop:=o p hpm;have htake:P.take (i+1)=P.take i++[p]:=by rw[List.take_succ,q]; rfl
     dsimp only;by_cases hk2:p.2=k
     ·rw[Xk (by omega),MM.ct];have hp1:p.1<k:=by omega
      have hl1:=Yu (Tt.nd p.1) (Tt.lt p.1);have er:pAt (yc n tb) ((p.1:Nat):Int)=some (zn (tb p.1)):=jei (f:=fun h=>zn (tb h)) (show p.1<n by omega);rw[er,MM.bs,MM.bs,MM.cat (by rw[qg]; simp; omega),MM.bs];have e1:zn (tb p.1)++[((p.1:Nat):Int)]=zn (tb p.1++[p.1]):=by simp[zn]
      rw[e1];obtain⟨b2,eb2,tb2,rfl,T2,h2⟩:=MM.forM_inv (l:=zn (tb p.1++[p.1])) (b0:=yc n tb) (f:=fun below_here thing=>
       (((some thing).bind fun t15=>(pAt below_here (k:Int)).bind fun t16=>some (!Qq t15 t16)).bind fun q20=>bif q20 then ((some (k:Int)).bind fun t17=>(some thing).bind fun t18=>Vo below_here t17 t18).bind fun below_here=>some below_here else some below_here).bind fun below_here=>some below_here)
       (fun j z=>∃ tb2,z=yc n tb2/\Tb P n k tb2/\∀ t,t∈tb2 k ↔ t∈tb k \/ t∈(tb p.1++[p.1]).take j) ⟨tb,rfl,Tt,fun t=>by simp⟩ (fun j y z hy hz=>by
        obtain⟨t3,rfl,T3,h3⟩:=hz;unfold zn at hy;rw[Xt] at hy;cases q2:(tb p.1++[p.1])[j]? with
        | none=>rw[q2] at hy; cases hy
        | some s=>
        rw[q2] at hy;cases hy;have hsm:s∈tb p.1++[p.1]:=XA q2;have hsn:s<n:=by
         rcases XG.mp hsm with h | h
         ·exact Tt.lt _ s h
         ·rw[XC.mp h]; omega
        have htk:(tb p.1++[p.1]).take (j+1)=(tb p.1++[p.1]).take j++[s]:=by rw[List.take_succ,q2]; rfl
        have er2:pAt (yc n t3) (k:Int)=some (zn (t3 k)):=jei (f:=fun h=>zn (t3 h)) hk;have hl3:=Yu (T3.nd k) (T3.lt k);dsimp only;rw[MM.bs,er2,MM.bs,MM.bs,Jy];by_cases hin:s∈t3 k
        ·rw[Xk hin,XT,MM.cf,MM.bs];refine⟨_,rfl,t3,rfl,T3,fun t=>?_⟩;rw[htk,h3,XG,XC];constructor
         ·rintro (h | h)
          ·exact .inl h
          ·exact .inr (.inl h)
         ·rintro (h | h | rfl)
          ·exact .inl h
          ·exact .inr h
          ·exact(h3 t).mp hin
        ·rw[Xi hin,wn,MM.ct,MM.bs,MM.bs,jdB hk (by omega),MM.bs,MM.bs];refine⟨_,rfl,_,rfl,⟨fun h=>?_,fun h t ht=>?_,fun h hh t=>?_,fun h hh=>?_⟩,fun t=>?_⟩
         ·by_cases e:h=k
          ·rw[if_pos e,List.nodup_append];exact⟨T3.nd k,by simp,fun a ha b hb=>by rw[XC.mp hb]; exact fun e'=>hin (e' ▸ ha)⟩
          ·rw[if_neg e]; exact T3.nd h
         ·by_cases e:h=k
          ·rw[if_pos e] at ht;rcases XG.mp ht with h' | h'
           ·exact T3.lt _ t h'
           ·rw[XC.mp h']; exact hsn
          ·rw[if_neg e] at ht; exact T3.lt _ t ht
         ·rw[if_neg (by omega)]; exact T3.dn h hh t
         ·rw[if_neg (by omega)]; exact T3.no h hh
         ·rw[if_pos rfl,htk,XG,XC,XG,XC,h3];constructor
          ·rintro ((h | h) | h)
           ·exact .inl h
           ·exact .inr (.inl h)
           ·exact .inr (.inr h)
          ·rintro (h | h | h)
           ·exact .inl (.inl h)
           ·exact .inl (.inr h)
           ·exact .inr h)
      rw[eb2,MM.bs,MM.bs];refine⟨_,rfl,tb2,rfl,T2,fun t=>?_⟩;rw[h2,qg,List.take_length,ht,htake,XG,XC,Tt.dn p.1 hp1];constructor
      ·rintro (⟨x,hx,h⟩ | h | h)
       ·exact⟨x,List.mem_append_left _ hx,h⟩
       ·exact⟨p,XV _ (XC.mpr rfl),hk2,.inr h⟩
       ·exact⟨p,XV _ (XC.mpr rfl),hk2,.inl h⟩
      ·rintro⟨x,hx,h1,h⟩;rcases XG.mp hx with hx | hx
       ·exact .inl ⟨x,hx,h1,h⟩
       ·rw[XC.mp hx] at h;exact .inr (h.elim .inr .inl)
     ·rw[Xi (by omega),MM.cf,MM.bs];refine⟨_,rfl,tb,rfl,Tt,fun t=>?_⟩;rw[ht,htake];constructor
      ·rintro⟨x,hx,h⟩;exact⟨x,List.mem_append_left _ hx,h⟩
      ·rintro⟨x,hx,h1,h⟩;rcases XG.mp hx with hx | hx
       ·exact⟨x,hx,h1,h⟩
       ·rw[XC.mp hx] at h1;exact absurd h1 hk2)
   refine⟨tbl',eb,T',fun t=>?_⟩;rw[h',Vy,List.take_length]
  obtain⟨tbl',em,T',h'⟩:=mid;rw[em,MM.bs];refine⟨_,rfl,tbl',rfl,⟨T'.nd,T'.lt,fun h hh t=>?_,fun h hh=>T'.no h (by omega)⟩,T'.no (k+1) (by omega)⟩;by_cases e:h=k
  ·rw[e,h',jfY o hk]
  ·exact T'.dn h (by omega) t
 ·rintro z ⟨tbl,rfl,T,_⟩;exact⟨tbl,rfl,fun h _=>by have:=Yu (T.nd h) (T.lt h); omega,T.dn⟩
structure Bw (P:List (Nat×Nat)) (n:Nat) (tbl:Nat->List Nat):Prop where
 len:∀ h,h<n->(tbl h).length<=1000
 mem:∀ h,h<n->∀ t,t∈tbl h ↔ bl P n t h=true
theorem Ga (n:Nat) (tbl:Nat->List Nat):(yc n tbl).length=n:=by simp[yc]
theorem WF {k:Nat} (hk:k<n):pAt (yc n tbl) (k:Int)=some (zn (tbl k)):=by
 refine MM.at_nat ?_;unfold yc;rw[Xt,List.getElem?_range hk];rfl
theorem jbJ {l:List Nat} (o:Ok P n) (h9:n<=9) (B:Bw P n tbl):ym (yc n tbl) (zn l)=some (zn (Dr P n (MB.setN l))):=by
 unfold ym;simp only[MM.bs];rw[Ga,MM.rng (by omega),MM.bs];have hb:∀ s,(MB.setN l).testBit s=true ↔ s∈l:=fun s=>by rw[MB.setN_bit,Xw]
 refine MM.forM_then (R:=fun r=>r=some (zn (Dr P n (MB.setN l)))) (fun k (f:List Int)=>f=zn ((List.range k).filter fun t=>decide (t∈Dr P n (MB.setN l)))) rfl ?_ ?_
 ·rintro j f hj rfl;have hfl:=List.length_filter_le (fun t=>decide (t∈Dr P n (MB.setN l))) (List.range j);rw[Xz] at hfl;have et:(bif (!Qq (j:Int) (zn l)) then (((((pAt (yc n tbl) (j:Int))).bind fun l4=>qa l4 (fun _=>some true) (fun low=>some ((Qq low (zn l)))))).bind fun t5=>some ((t5.all id))) else some false)=some (decide (j∈Dr P n (MB.setN l))):=by
   rw[Jy];by_cases hjl:j∈l
   ·rw[Xk hjl,XT,MM.cf];congr 1
    symm
    rw[Xi];intro z;have:=((xR o).mp z).2.1;rw[(hb j).mpr hjl] at this;cases this
   ·rw[Xi hjl,wn,MM.ct,WF hj];simp only[MM.bs];rw[Jz (fun t=>decide (t∈l)) (by have:=B.len j hj; omega) (fun t _=>by rw[Jy])];simp only[MM.bs];congr 1;rw[List.all_map,XM,wg,Xw,xR o];constructor
    ·intro h;refine⟨hj,?_,fun x hx hbl=>?_⟩
     ·cases hz:(MB.setN l).testBit j with
      | false=>rfl
      | true=>exact absurd ((hb j).mp hz) hjl
     ·have:=h x ((B.mem j hj x).mpr hbl);exact(hb x).mpr (of_decide_eq_true this)
    ·rintro⟨_,_,h⟩ x hx;have hbl:=(B.mem j hj x).mp hx;exact Xk ((hb x).mp (h x (Nat.lt_trans (Zl o hj hbl) hj) hbl))
  rw[et];simp only[MM.bs];rw[List.range_succ,List.filter_append];by_cases h:j∈Dr P n (MB.setN l)
  ·rw[Xk h,MM.ct,MM.app (by rw[qg]; omega)];simp only[MM.bs];refine⟨_,rfl,?_⟩;simp[zn,h]
  ·rw[Xi h,MM.cf];simp only[MM.bs];refine⟨_,rfl,?_⟩;simp[h]
 ·rintro f rfl;congr 2
  conv=>rhs; unfold Dr
  refine List.filter_congr fun t ht=>?_;rw[XM,Xw];unfold Dr;rw[wL];exact and_iff_right ht
theorem jiz (o:Ok P n) (h9:n<=9) (B:Bw P n tbl) (c:Int):∃ l,Ln P n l/\zZ (yc n tbl) c=some (zn l):=by
 unfold zZ;simp only[MM.bs];rw[Ga,MM.rng (by omega),MM.bs];refine MM.forM_then (R:=fun r=>∃ l,Ln P n l/\r=some (zn l)) (fun k (z:Int×List Int)=>∃ l:List Nat,z.2=zn l/\l.length=k/\Bg P n l) ⟨[],rfl,rfl,List.nodup_nil,by simp,.nil,by simp⟩ ?_ ?_
 ·rintro k ⟨z1,z2⟩ hk ⟨l,rfl,hlk,b⟩;dsimp only;obtain⟨p1,p2⟩:=jbE (l:=l) o (by omega);rw[jbJ o h9 B,MM.bs];rw[qg,MM.modP (by omega)];obtain⟨m,hm,em⟩:=jh3 z1 p1;simp only[MM.bs,em];rw[jbr hm];simp only[MM.bs];have h250:(2:Int) ^ 250 > 1000:=by decide
  rw[MM.cat (by rw[qg]; simp; omega),MM.bs,MM.divP (by omega) (by omega)];simp only[MM.bs];refine⟨_,rfl,l++[(Dr P n (MB.setN l)).getD m 0],by rw[jhk]; rfl,by simp[hlk],b.snoc o (Uk hm)⟩
 ·rintro⟨z1,z2⟩ ⟨l,rfl,hlk,b⟩;exact⟨l,b.ln hlk,rfl⟩
section
variable {b:Nat}
theorem Zs {t:Nat} (ht:t<n):xa (zj P n) (b:Int) (t:Int)=some (!b.testBit t&&decide (b &&& (bel P n).getD t 0=(bel P n).getD t 0)):=by
 unfold xa;have eb:(zj P n).beneath=zn (bel P n):=rfl;rw[jhu,eb,QL ht];simp only[MM.bs];cases b.testBit t with
 | true=>rw[XT,MM.cf,Bool.false_and]
 | false=>rw[wn,MM.ct,z_,Bool.true_and]
theorem Us (h9:n<=9):jX (zj P n) (b:Int)=some (zn (Dr P n b)):=by
 unfold jX;rw[size,MM.bs,MM.rng (by omega),MM.bs,MM.compR (fun t=>!b.testBit t&&decide (b &&& (bel P n).getD t 0=(bel P n).getD t 0)) (fun t=>((t:Nat):Int)) (by omega) (fun t ht=>Zs ht) (fun _ _ _=>rfl)];rfl
theorem WG {t:Nat} (h:t∈Dr P n b):t<n:=Xv.mp (wL.mp h).1
theorem JB (o:Ok P n) (h9:n<=9):∃ d,kA (zj P n)=some d/\∀ b,dsB P n b=true->zi d (b:Int)=some ((Wn P n b:Nat):Int):=by
 unfold kA;simp only[MM.bs];rw[jdA P h9,MM.bs];have er:(zn (dss P n)).reverse=zn (dss P n).reverse:=by
  unfold zn;rw[<- List.map_reverse]
 rw[er,MM.bs];have hdl:(dss P n).length<=512:=by
  have:=List.length_filter_le (fun b=>dsB P n b) (List.range (2 ^ n));rw[Xz] at this;have:=jiv h9;unfold dss;omega
 have hup:(dss P n).Pairwise (· < ·):=(List.pairwise_lt_range).sublist List.filter_sublist;refine MM.forM_thenL (R:=fun r=>∃ d,r=some d/\∀ b,dsB P n b=true->zi d (b:Int)=some ((Wn P n b:Nat):Int))
  (fun k (d:List (Int×Int))=>d.length<=k/\∀ b∈(dss P n).reverse.take k,zi d (b:Int)=some ((Wn P n b:Nat):Int)) ⟨Xh _,fun b hb=>by simp at hb⟩ ?_ ?_
 ·rintro k x d hx ⟨hl,hd⟩;obtain⟨b,hb,rfl⟩:∃ b,(dss P n).reverse[k]?=some b/\x=(b:Int):=by
   unfold zn at hx;rw[Xt] at hx;obtain⟨p,hp,e⟩:=Option.map_eq_some_iff.mp hx;exact⟨p,hp,e.symm⟩
  obtain⟨hk,ek⟩:=List.getElem?_eq_some_iff.mp hb;rw[wE] at hk;have hbd:dsB P n b=true:=ds_mem.mp (List.mem_reverse.mp (XA hb));have hgr:∀ t∈Dr P n b,zi d ((b ||| 2 ^ t:Nat):Int)=some ((Wn P n (b ||| 2 ^ t):Nat):Int):=fun t ht=>by
   refine hd _ ?_;have hm:b ||| 2 ^ t∈(dss P n).reverse:=List.mem_reverse.mpr (ds_mem.mpr (Zn o hbd ht))
   obtain⟨j,hj,ej⟩:=List.getElem_of_mem hm;have hgt:=jix o ht;have hpw:(dss P n).reverse.Pairwise (fun x y=>y<x):=List.pairwise_reverse.mpr hup;have hjk:j<k:=by
    rcases Nat.lt_trichotomy j k with c | c | c
    ·exact c
    ·subst c;rw[ej] at ek;omega
    ·have:=List.pairwise_iff_getElem.mp hpw k j (by rw[wE]; exact hk) hj c;rw[ej,ek] at this;omega
   rw[<- ej];exact List.mem_take_iff_getElem.mpr ⟨j,by rw[Nat.lt_min]; exact ⟨hjk,hj⟩,rfl⟩
  have hdr:=Ys (P:=P) (n:=n) (b:=b);rw[Us h9,MM.bs,Jz (fun t=>((b ||| 2 ^ t:Nat):Int)) (by omega) (fun t ht=>by
   rw[MM.shl1 (by have:=WG ht; omega)];simp only[MM.bs];rw[MB.or_nat])]
  simp only[MM.bs];have ew:(bif decide (0<((((Dr P n b).map fun t=>((b ||| 2 ^ t:Nat):Int)).length:Nat):Int)) then (((qa ((Dr P n b).map fun t=>((b ||| 2 ^ t:Nat):Int)) (fun _=>some true) (fun bits=>(zi d bits)))).bind fun t11=>some ((t11.sum))) else some (1))=some ((Wn P n b:Nat):Int):=by
   by_cases h0:Dr P n b=[]
   ·rw[h0,Gv o h0];rfl
   ·have hpos:0<(Dr P n b).length:=List.length_pos_iff.mpr h0;rw[Xk (by rw[Xp]; omega),MM.ct];have ez:((Dr P n b).map fun t=>((b ||| 2 ^ t:Nat):Int))=zn ((Dr P n b).map fun t=>b ||| 2 ^ t):=by
     unfold zn;rw[wH];rfl
    rw[ez,Jz (fun c=>((Wn P n c:Nat):Int)) (by rw[Xp]; omega) (fun c hc=>by
     obtain⟨t,ht,rfl⟩:=List.mem_map.mp hc;exact hgr t ht),MM.bs,jeh,VC o h0,wH]
    rfl
  rw[ew,MM.bs];have epp:jb5 d (b:Int) ((Wn P n b:Nat):Int)=some (VS d (b:Int) ((Wn P n b:Nat):Int)):=by
   unfold jb5;rw[if_pos (by omega)]
  rw[epp,MM.bs];refine⟨_,rfl,XI MM.put_len (by omega),fun c hc=>?_⟩;rw[jfT];by_cases hcb:c=b
  ·subst hcb;rw[if_pos rfl]
  ·rw[if_neg (by omega)];rw[List.take_add_one,hb] at hc;rcases XG.mp hc with hc | hc
   ·exact hd c hc
   ·exact absurd (by simpa using hc) hcb
 ·rintro d ⟨_,hd⟩;refine⟨d,rfl,fun b hb=>hd b ?_⟩;rw[qg,List.take_length];exact List.mem_reverse.mpr (ds_mem.mpr hb)
end
section
variable {b:Nat}
theorem jeq (o:Ok P n) (h9:n<=9) {d:List (Int×Int)} (hd:∀ b,dsB P n b=true->zi d (b:Int)=some ((Wn P n b:Nat):Int)) {f:Int×Int->Int->Option (Int×Int)}
  (hf:∀ (m b t:Nat),dsB P n b=true->t<n->f ((m:Int),(b:Int)) (t:Int)=some (((m+ws P n b ((Dr P n b).filter fun s=>decide (s<t)):Nat):Int),((b ||| 2 ^ t:Nat):Int))) :
  ∀ {l:List Nat}{b m:Nat},dsB P n b=true->Sf P n b l->∃ c,L3.forM (zn l) ((m:Int),(b:Int)) f=some (((m+rk P n b l:Nat):Int),c)
 | [],b,m,_,_=>⟨_,rfl⟩
 | t::l,b,m,hb,h=>by
  cases h with
  | cons ht hs=>
   rw[Wv,MM.forM_cons,hf m b t hb (WG ht),MM.bs];obtain⟨c,e⟩:=jeq o h9 hd hf (l:=l) (m:=m+ws P n b ((Dr P n b).filter fun s=>decide (s<t))) (Zn o hb ht) hs;refine⟨c,?_⟩;rw[e];congr 2;show ((m+ws P n b _+rk P n (b ||| 2 ^ t) l:Nat):Int)=((m+(ws P n b _+rk P n (b ||| 2 ^ t) l):Nat):Int)
   omega
theorem jbK {l:List Nat} (o:Ok P n) (h9:n<=9) (L:Ln P n l):kJ (zj P n) (zn l)=some ((rk P n 0 l:Nat):Int):=by
 unfold kJ;obtain⟨d,ed,hd⟩:=JB o h9;rw[Zq o h9 L,MM.bs,ed];simp only[MM.bs];have S0:Sf P n 0 l:=Um o L l [] rfl;obtain⟨c,e⟩:=jeq o h9 hd (f:=fun z3 thing=>
  ((((jX (zj P n) z3.2)).bind fun l6=>qa l6 (fun other=>some ((decide (other<thing)))) (fun other=>some (other)))).bind fun lesser=>
  (((some (z3.1)).bind fun t14=>((((qa lesser (fun _=>some true) (fun other=>((some (d)).bind fun t11=>(((some (z3.2)).bind fun t9=>((JY 1 other)).bind fun t10=>some ((Builtin.bitOr t9 t10)))).bind fun t12=>(zi t11 t12))))).bind fun t13=>some ((t13.sum)))).bind fun t15=>some ((t14+t15)))).bind fun number=>
  (((some (z3.2)).bind fun t16=>((JY 1 thing)).bind fun t17=>some ((Builtin.bitOr t16 t17)))).bind fun ahead=>
  some (number,ahead)) (fun m b t hb ht=>by
   have hdr:=Ys (P:=P) (n:=n) (b:=b);have hfl:=List.length_filter_le (fun s=>decide (s<t)) (Dr P n b);rw[Us h9,MM.bs,jhi (fun s=>decide (s<t)) (fun s=>(s:Int)) (by omega) (fun s _=>by
    congr 1;rw[decide_eq_decide];omega) (fun _ _ _=>rfl),MM.bs]
   have ez:(((Dr P n b).filter fun s=>decide (s<t)).map fun s:Nat=>(s:Int))=zn ((Dr P n b).filter fun s=>decide (s<t)):=rfl;rw[ez,Jz (fun s=>((Wn P n (b ||| 2 ^ s):Nat):Int)) (by omega) (fun s hs=>by
    have hs':=(wL.mp hs).1;simp only[MM.bs];rw[MM.shl1 (by have:=WG hs'; omega)];simp only[MM.bs];rw[MB.or_nat];exact hd _ (Zn o hb hs'))]
   simp only[MM.bs];rw[jeh,MM.shl1 (by omega)];simp only[MM.bs];rw[MB.or_nat];congr 2) (l:=l) (b:=0) (m:=0) (Gu P n) S0
 have e':L3.forM (zn l) ((0:Int),(0:Int)) _=_:=e;simp only[MM.bs] at e';rw[e',MM.bs,Nat.zero_add]
theorem QO {w:Nat->Nat}{p:Nat->Prop}{c:Int×List Int->Option Bool}{f:Int×List Int->Option (Int×List Int)} (hc:∀ (m t:Nat) (C:List Nat),p t->c ((m:Int),zn (t::C))=some (decide (w t<=m))) (hf:∀ (m t:Nat) (C:List Nat),p t->w t<=m->f ((m:Int),zn (t::C))=some (((m-w t:Nat):Int),zn C)) :
  ∀ {A:List Nat}{t:Nat}{B:List Nat}{m k:Nat},(∀ s∈A++t::B,p s)->A.length<k->(A.map w).sum<=m->m<(A.map w).sum+w t->whM c f k ((m:Int),zn (A++t::B))=some (((m-(A.map w).sum:Nat):Int),zn (t::B))
 | [],t,B,m,k+1,hp,_,_,h2=>by
  unfold whM;have h2':m<w t:=by simpa using h2
  rw[List.nil_append,hc _ _ _ (hp t (by simp)),MM.bs,Xi (by omega),MM.cf];rfl
 | a::A,t,B,m,k+1,hp,hk,h1,h2=>by
  rw[Xl,X8] at h1 h2;unfold whM;rw[List.cons_append,hc _ _ _ (hp a (by simp)),MM.bs,Xk (by omega),MM.ct,hf _ _ _ (hp a (by simp)) (by omega),MM.bs,QO hc hf (A:=A) (fun s hs=>hp s (by simp at hs ⊢; exact .inr hs)) (by simp at hk; omega) (by omega) (by omega),Xl,X8];congr 3;omega
theorem Zt {m:Nat} (o:Ok P n) (h9:n<=9) (hm:m<Wn P n 0):∃ l,qt (zj P n) (m:Int)=some (zn l)/\Ln P n l/\rk P n 0 l=m:=by
 unfold qt;obtain⟨d,ed,hd⟩:=JB o h9;rw[ed,MM.bs];have e0:zi d 0=some ((Wn P n 0:Nat):Int):=hd 0 (Gu P n);rw[Xk (show (0:Int)<=(m:Int) by omega),MM.ct,e0];simp only[MM.bs];rw[Xk (show (m:Int)<((Wn P n 0:Nat):Int) by omega)];simp only[MM.bs,XT,MM.cf];refine jds (T:=fun r=>∃ l,r=some (zn l)/\Ln P n l/\rk P n 0 l=m)
  (fun k (z:List Int×Int×Int)=>∃ (u:List Nat) (lf:Nat),z=(zn u,((MB.setN u:Nat):Int),(lf:Int))/\Bg P n u/\k+u.length=n/\lf<Wn P n (MB.setN u)/\∀ v,m+rk P n (MB.setN u) v=rk P n 0 (u++v)+lf)
  (fun z=>∃ (u:List Nat),z.1=zn u/\Ln P n u/\rk P n 0 u=m)
  n (by omega) ⟨[],m,rfl,⟨List.nodup_nil,by simp,.nil,by simp⟩,by simp,hm,fun v=>by show m+rk P n 0 v=rk P n 0 v+m; omega⟩ ?_ ?_
 ·rintro k z ⟨u,lf,rfl,b,hk,hlf,hacc⟩;dsimp only;rw[size];simp only[MM.bs];rw[qg];have hds:dsB P n (MB.setN u)=true:=(VA o).mpr ⟨jdr b.lt,fun s t ht hb hbl=>by
   rw[MB.setN_bit,Xw] at hb;rw[MB.setN_bit,Xw];exact b.dc t hb s hbl⟩
  by_cases hlt:u.length<n
  ·right
   refine⟨congrArg some (Xk (by omega)),?_⟩;have hpos:=(jbE (l:=u) o hlt).1;have hne:Dr P n (MB.setN u)≠[]:=List.length_pos_iff.mp hpos;rw[VC o hne] at hlf;obtain⟨A,t,B,eD,h1,h2⟩:=jiY hlf;have hdr:=Ys (P:=P) (n:=n) (b:=MB.setN u);rw[eD] at hdr;have htD:t∈Dr P n (MB.setN u):=by rw[eD]; simp
   have htn:=WG htD;have hall:∀ s∈A++t::B,s<n/\zi d ((MB.setN u ||| 2 ^ s:Nat):Int)=some ((Wn P n (MB.setN u ||| 2 ^ s):Nat):Int):=fun s hs=>by
    rw[<- eD] at hs;exact⟨WG hs,hd _ (Zn o hds hs)⟩
   rw[Us h9,MM.bs,eD];have eget:∀ s∈A++t::B,∀ C,(((some (d)).bind fun t12=>(((some ((MB.setN u:Nat):Int)).bind fun t10=>(((some (1)).bind fun t8=>((pAt (zn (s::C)) 0)).bind fun t9=>(JY t8 t9))).bind fun t11=>some ((Builtin.bitOr t10 t11)))).bind fun t13=>(zi t12 t13)))=some ((Wn P n (MB.setN u ||| 2 ^ s):Nat):Int):=fun s hs C=>by
    have e1:pAt (zn (s::C)) 0=some (s:Int):=jbv (a:=[]);simp only[MM.bs];rw[e1];simp only[MM.bs];rw[MM.shl1 (by have:=(hall s hs).1; omega),MM.bs,MB.or_nat];exact(hall s hs).2
   have el:pWh (fun z7:Int×List Int=>((some (z7.1)).bind fun t14=>(((some (d)).bind fun t12=>(((some ((MB.setN u:Nat):Int)).bind fun t10=>(((some (1)).bind fun t8=>((pAt z7.2 0)).bind fun t9=>(JY t8 t9))).bind fun t11=>some ((Builtin.bitOr t10 t11)))).bind fun t13=>(zi t12 t13))).bind fun t15=>some ((decide (t15<=t14))))) (fun z7=>
     (((some (z7.1)).bind fun t22=>(((some (d)).bind fun t20=>(((some ((MB.setN u:Nat):Int)).bind fun t18=>(((some (1)).bind fun t16=>((pAt z7.2 0)).bind fun t17=>(JY t16 t17))).bind fun t19=>some ((Builtin.bitOr t18 t19)))).bind fun t21=>(zi t20 t21))).bind fun t23=>some ((t22-t23)))).bind fun left=>
     (some ((cut z7.2 (some 1) none))).bind fun choices=>
     some (left,choices)) ((lf:Int),zn (A++t::B))=some (((lf-(A.map fun s=>Wn P n (MB.setN u ||| 2 ^ s)).sum:Nat):Int),zn (t::B)):=by
    unfold pWh;refine QO (w:=fun s=>Wn P n (MB.setN u ||| 2 ^ s)) (p:=fun s=>s∈A++t::B) (fun m' s C hs=>?_) (fun m' s C hs hle=>?_) (fun s hs=>hs) (by rw[XR] at hdr; omega) h1 h2
    ·dsimp only;rw[eget s hs C];simp only[MM.bs];congr 1;rw[decide_eq_decide];omega
    ·dsimp only;rw[eget s hs C];simp only[MM.bs];have ec:cut (zn (s::C)) (some 1) none=zn C:=by
      have:=jdt (l:=zn (s::C)) (i:=1);rw[show ((1:Nat):Int)=1 from rfl] at this;rw[this];rfl
     rw[ec];congr 2;omega
   simp only[MM.bs] at el;rw[el];simp only[MM.bs];have e1:pAt (zn (t::B)) 0=some (t:Int):=jbv (a:=[]);rw[e1];simp only[MM.bs];rw[MM.app (by rw[qg]; omega),MM.shl1 (by omega)];simp only[MM.bs];rw[MB.or_nat];refine⟨_,k-1,rfl,by omega,u++[t],lf-(A.map fun s=>Wn P n (MB.setN u ||| 2 ^ s)).sum,?_,b.snoc o htD,by simp; omega,?_,fun v=>?_⟩
   ·rw[yX];refine Prod.ext ?_ rfl;show zn u++[(t:Int)]=zn (u++[t]);simp[zn]
   ·rw[yX];omega
   ·have:=hacc (t::v);rw[show u++[t]++v=u++t::v by simp,yX];have er:rk P n (MB.setN u) (t::v)=ws P n (MB.setN u) ((Dr P n (MB.setN u)).filter fun s=>decide (s<t))+rk P n (MB.setN u ||| 2 ^ t) v:=rfl
    have ef:(Dr P n (MB.setN u)).filter (fun s=>decide (s<t))=A:=by
     have hup:=Dr_up (P:=P) (n:=n) (b:=MB.setN u);rw[eD] at hup ⊢;rw[List.pairwise_append,List.pairwise_cons] at hup;have f1:A.filter (fun s=>decide (s<t))=A:=List.filter_eq_self.mpr fun s hs=>Xk (hup.2.2 s hs t Xn);have f2:(t::B).filter (fun s=>decide (s<t))=[]:=by
      rw[List.filter_eq_nil_iff];intro s hs;rw[Xw];rcases XB.mp hs with rfl | hs
      ·omega
      ·have:=hup.2.1.1 s hs;omega
     rw[List.filter_append,f1,f2,XU]
    rw[er,ef] at this;have ew:ws P n (MB.setN u) A=(A.map fun s=>Wn P n (MB.setN u ||| 2 ^ s)).sum:=rfl
    rw[ew] at this;omega
  ·left
   have hln:=b.ln (by omega);have hD:Dr P n (MB.setN u)=[]:=by
    have:=Um o hln [] u (by simp);cases this with
    | nil h=>exact h
   rw[Gv o hD] at hlf;refine⟨congrArg some (Xi (by omega)),u,rfl,hln,?_⟩;have:=hacc [];rw[XU] at this;have e0:rk P n (MB.setN u) []=0:=rfl;omega
 ·rintro z ⟨u,e,hln,hr⟩;exact⟨u,by rw[e],hln,hr⟩
end
section
def fc:Nat->Nat
 | 0=>1
 | k+1=>(k+1) * fc k
theorem jer:∀ k,1<=fc k
 | 0=>Xh _
 | k+1=>Nat.mul_pos (by omega) (jer k)
theorem jhw {l:List Nat}{f:Nat->Nat}{c:Nat}:(∀ t∈l,f t<=c)->(l.map f).sum<=l.length * c:=by
 induction l with
 | nil=>intro _; simp
 | cons a r ih=>
  intro h;have h1:=h a Xn;have h2:=ih fun t ht=>h t (Xj _ ht);rw[Xl,X8,XQ,Nat.succ_mul];omega
theorem Yv:∀ l:List α,(l.map fun _=>1).sum=l.length
 | []=>rfl
 | _::l=>by
  rw[Xl,X8,Yv l,XQ];omega
theorem jfZ (o:Ok P n) (b:Nat):(ths n b).length+(Dr P n b).length<=n:=by
 have nd:(ths n b++Dr P n b).Nodup:=by
  rw[List.nodup_append];refine⟨(QM n _).imp fun h=>XF h,Dr_up.imp fun h=>XF h,fun x hx y hy e=>?_⟩;subst e;have:=(QJ hx).2;rw[((xR o).mp hy).2.1] at this;cases this
 have:=xQ id (A:=ths n b++Dr P n b) (B:=List.range n) nd (fun t ht=>Xv.mpr (by
  rcases XG.mp ht with ht | ht
  ·exact(QJ ht).1
  ·exact WG ht)) (fun _ _ _ _ e=>e)
 rwa [XR,Xz] at this
theorem jhx (o:Ok P n):∀ (k b:Nat),n-(ths n b).length=k->Wy P n k b<=fc k
 | 0,_,_=>Xh _
 | k+1,b,hk=>by
  show (if Dr P n b=[] then 1 else ((Dr P n b).map fun t=>Wy P n k (b ||| 2 ^ t)).sum)<=fc (k+1)
  split
  ·exact jer _
  ·have h:=jhw (l:=Dr P n b) (f:=fun t=>Wy P n k (b ||| 2 ^ t)) (c:=fc k) fun t ht=>jhx o k _ (by rw[QN o ht]; omega)
   have hd:=jfZ o b;exact XI h (Nat.mul_le_mul_right _ (by omega))
theorem jes (o:Ok P n):∀ (k b:Nat),n-(ths n b).length=k->1<=Wn P n b
 | 0,b,hk=>by
  by_cases h:Dr P n b=[]
  ·rw[Gv o h]; exact Xh _
  ·obtain⟨t,ht⟩:=List.exists_mem_of_ne_nil _ h;have:=QN o ht;have:=Jw n (b ||| 2 ^ t)
   omega
 | k+1,b,hk=>by
  by_cases h:Dr P n b=[]
  ·rw[Gv o h]; exact Xh _
  ·obtain⟨t,ht⟩:=List.exists_mem_of_ne_nil _ h;have hw:=jes o k (b ||| 2 ^ t) (by rw[QN o ht]; omega)
   obtain⟨C,e⟩:=jhr Dr_up ht;rw[VC o h,e];show 1<=ws P n b _;rw[jel,jbD];omega
def Zu (P:List (Nat×Nat)) (n:Nat) (p:List Nat×Nat):List (List Nat×Nat):=(Dr P n p.2).map fun t=>(p.1++[t],p.2 ||| 2 ^ t)
def lev (P:List (Nat×Nat)) (n:Nat):Nat->List (List Nat×Nat)
 | 0=>[([],0)]
 | k+1=>(lev P n k).flatMap (Zu P n)
def Tw (P:List (Nat×Nat)) (n:Nat) (S:List (List Nat×Nat)):Nat:=(S.map fun p=>Wn P n p.2).sum
def Of (P:List (Nat×Nat)) (n:Nat):Nat->List (List Nat×Nat)->Prop
 | _,[]=>True
 | c,p::S=>rk P n 0 p.1=c/\Of P n (c+Wn P n p.2) S
theorem jhy (S T:List (List Nat×Nat)):Tw P n (S++T)=Tw P n S+Tw P n T:=by
 unfold Tw;rw[ww,List.sum_append]
theorem jet:∀ (S T:List (List Nat×Nat)) (c:Nat),Of P n c S->Of P n (c+Tw P n S) T->Of P n c (S++T)
 | [],T,c,_,h=>h
 | p::S,T,c,⟨h1,h2⟩,h=>by
  refine⟨h1,jet S T _ h2 ?_⟩;have e:c+Tw P n (p::S)=c+Wn P n p.2+Tw P n S:=by
   show c+(Wn P n p.2+Tw P n S)=_;omega
  rw[e] at h;exact h
structure Gd (P:List (Nat×Nat)) (n k:Nat) (p:List Nat×Nat):Prop where
 bg:Bg P n p.1
 set:p.2=MB.setN p.1
 len:p.1.length=k
theorem jiA (o:Ok P n) {k:Nat} (hk:k<n) {p:List Nat×Nat} (g:Gd P n k p):Dr P n p.2≠[]:=by
 rw[g.set];exact List.length_pos_iff.mp (jbE (l:=p.1) o (by rw[g.len]; exact hk)).1
theorem jeu (o:Ok P n) {p:List Nat×Nat} (hs:p.2=MB.setN p.1) {c:Nat} (hc:rk P n 0 p.1=c):∀ (R A:List Nat),Dr P n p.2=A++R->Of P n (c+ws P n p.2 A) (R.map fun t=>(p.1++[t],p.2 ||| 2 ^ t))
 | [],_,_=>trivial
 | t::R,A,e=>by
  refine⟨?_,?_⟩
  ·show rk P n 0 (p.1++[t])=_;rw[jfU,<- hs,hc];have hup:=Dr_up (P:=P) (n:=n) (b:=p.2);rw[e,List.pairwise_append,List.pairwise_cons] at hup;have ef:(Dr P n p.2).filter (fun s=>decide (s<t))=A:=by
    rw[e,List.filter_append];have f1:A.filter (fun s=>decide (s<t))=A:=List.filter_eq_self.mpr fun s hs=>Xk (hup.2.2 s hs t Xn);have f2:(t::R).filter (fun s=>decide (s<t))=[]:=by
     rw[List.filter_eq_nil_iff];intro s hs;rw[Xw];rcases XB.mp hs with rfl | hs
     ·omega
     ·have:=hup.2.1.1 s hs;omega
    rw[f1,f2,XU]
   show c+(ws P n p.2 ((Dr P n p.2).filter fun s=>decide (s<t))+0)=_;rw[ef];omega
  ·have:=jeu o hs hc R (A++[t]) (by rw[e]; simp);rw[jel,jbD] at this;have e0:ws P n p.2 []=0:=rfl;have e2:c+ws P n p.2 A+Wn P n (p.2 ||| 2 ^ t)=c+(ws P n p.2 A+(Wn P n (p.2 ||| 2 ^ t)+ws P n p.2 [])):=by omega
   show Of P n (c+ws P n p.2 A+Wn P n (p.2 ||| 2 ^ t)) _
   rw[e2];exact this
theorem jhz (o:Ok P n) {p:List Nat×Nat} (h:Dr P n p.2≠[]):Tw P n (Zu P n p)=Wn P n p.2:=by
 unfold Tw Zu;rw[wH,VC o h];rfl
theorem Yw (o:Ok P n) {k:Nat} (hk:k<n):∀ (S:List (List Nat×Nat)) (c:Nat),(∀ p∈S,Gd P n k p)->Of P n c S->Of P n c (S.flatMap (Zu P n))/\Tw P n (S.flatMap (Zu P n))=Tw P n S
 | [],_,_,_=>⟨trivial,rfl⟩
 | p::S,c,hg,⟨h1,h2⟩=>by
  have g:=hg p Xn;have hne:=jiA o hk g;obtain⟨i1,i2⟩:=Yw o hk S (c+Wn P n p.2) (fun q hq=>hg q (Xj _ hq)) h2;rw[List.flatMap_cons];have t1:=jhz o hne;refine⟨jet _ _ _ ?_ (by rw[t1]; exact i1),?_⟩
  ·have:=jeu o g.set h1 (Dr P n p.2) [] rfl;have e0:ws P n p.2 []=0:=rfl;rw[e0] at this;exact this
  ·rw[jhy,t1,i2];rfl
theorem JC (o:Ok P n):∀ k,k<=n->(∀ p∈lev P n k,Gd P n k p)/\Of P n 0 (lev P n k)/\Tw P n (lev P n k)=Wn P n 0
 | 0,_=>⟨fun p hp=>by
   have e:p=([],0):=by simpa [lev] using hp
   subst e;exact⟨⟨List.nodup_nil,by simp,.nil,by simp⟩,rfl,rfl⟩,⟨rfl,trivial⟩,by simp[Tw,lev]⟩
 | k+1,hk=>by
  obtain⟨g,h1,h2⟩:=JC o k (by omega);obtain⟨i1,i2⟩:=Yw o (by omega) _ 0 g h1;refine⟨fun p hp=>?_,i1,i2.trans h2⟩;obtain⟨q,hq,hm⟩:=List.mem_flatMap.mp hp;obtain⟨t,ht,rfl⟩:=List.mem_map.mp hm;have gq:=g q hq;rw[gq.set] at ht;exact⟨gq.bg.snoc o ht,by show q.2 ||| 2 ^ t=_; rw[gq.set,yX],by simp[gq.len]⟩
theorem jev (o:Ok P n) (S:List (List Nat×Nat)):S.length<=Tw P n S:=by
 induction S with
 | nil=>exact Xh _
 | cons p S ih=>
  have:=jes o _ p.2 rfl;show S.length+1<=Wn P n p.2+Tw P n S;omega
theorem jhA:∀ {S:List (List Nat×Nat)}{c i:Nat}{p:List Nat×Nat},(∀ q∈S,Wn P n q.2=1)->Of P n c S->S[i]?=some p->rk P n 0 p.1=c+i
 | q::S,c,0,p,_,⟨h1,_⟩,e=>by
  cases e;exact h1
 | q::S,c,i+1,p,hw,⟨_,h2⟩,e=>by
  have:=jhA (fun x hx=>hw x (Xj _ hx)) h2 (i:=i) e;rw[hw q Xn] at this;omega
theorem jf0 (o:Ok P n):(lev P n n).length=Wn P n 0/\∀ i p,(lev P n n)[i]?=some p->Ln P n p.1/\rk P n 0 p.1=i:=by
 obtain⟨g,h1,h2⟩:=JC o n (Xh _);have hw:∀ q∈lev P n n,Wn P n q.2=1:=fun q hq=>by
  have gq:=g q hq;have L:=gq.bg.ln gq.len;have:=Um o L [] q.1 (by simp);rw[gq.set];cases this with
  | nil h=>exact Gv o h
 refine⟨?_,fun i p e=>?_⟩
 ·rw[<- h2];unfold Tw;rw[List.map_congr_left (g:=fun _=>1) hw];exact(Yv _).symm
 ·have gp:=g p (XA e);refine⟨gp.bg.ln gp.len,?_⟩;rw[jhA hw h1 e];omega
def im (p:List Nat×Nat):List Int×Int:=(zn p.1,(p.2:Int))
theorem jdC (o:Ok P n) (h9:n<=9) (hW:Wn P n 0<=1000):xP (zj P n)=some ((lev P n n).map fun p=>zn p.1):=by
 unfold xP;obtain⟨d,ed,hd⟩:=JB o h9;have em:jS (zj P n)=some ((Wn P n 0:Nat):Int):=by
  unfold jS;rw[ed];simp only[MM.bs];exact hd 0 (Gu P n)
 rw[em,MM.bs,Xi (by omega),MM.cf,size];simp only[MM.bs];rw[MM.rng (by omega),MM.bs];refine MM.forM_then (R:=fun r=>r=some ((lev P n n).map fun p=>zn p.1)) (fun k (z:List (List Int×Int))=>z=(lev P n k).map im) rfl ?_ ?_
 ·rintro k z hk rfl;obtain⟨g,h1,h2⟩:=JC o k (by omega);obtain⟨g',h1',h2'⟩:=JC o (k+1) (by omega);have hl':=jev o (lev P n (k+1));rw[h2'] at hl';refine MM.forM_thenL (R:=fun r=>∃ b',r=some b'/\b'=(lev P n (k+1)).map im) (fun j (z:List (List Int×Int))=>z=(((lev P n k).take j).flatMap (Zu P n)).map im) rfl ?_ ?_
  ·rintro j x z hx rfl;rw[Xt] at hx;obtain⟨p,hp,rfl⟩:=Option.map_eq_some_iff.mp hx;have gp:=g p (XA hp);have hdr:=Ys (P:=P) (n:=n) (b:=p.2);have e1:(im p).2=((p.2:Nat):Int):=rfl;have e2:(im p).1=zn p.1:=rfl;rw[e1,e2,Us h9,MM.bs,Jz (fun t=>im (p.1++[t],p.2 ||| 2 ^ t)) (by omega) (fun t ht=>by
    rw[MM.cat (by rw[qg,gp.len]; simp; omega),MM.bs,MM.shl1 (by have:=WG ht; omega)];simp only[MM.bs];rw[MB.or_nat];congr 1;unfold im;simp[zn]),MM.bs]
   have hpre:(((lev P n k).take (j+1)).flatMap (Zu P n)).length<=(lev P n (k+1)).length:=by
    show _<=((lev P n k).flatMap (Zu P n)).length
    conv=>rhs; rw[<- List.take_append_drop (j+1) (lev P n k),wF,XR]
    omega
   rw[List.take_add_one,hp,wF,XR] at hpre;have e3:(some p).toList.flatMap (Zu P n)=Zu P n p:=by simp
   rw[e3] at hpre;have hn1:(Zu P n p).length=(Dr P n p.2).length:=by unfold Zu; rw[Xp]
   rw[MM.cat (by rw[Xp,Xp]; omega),MM.bs];refine⟨_,rfl,?_⟩;rw[List.take_add_one,hp,wF,ww,e3];congr 1;unfold Zu;rw[wH];rfl
  ·rintro z rfl;refine⟨_,rfl,?_⟩;rw[Xp,List.take_of_length_le (Xh _)];rfl
 ·rintro z rfl;have hl:=jev o (lev P n n);rw[(JC o n (Xh _)).2.2] at hl;rw[MM.comp1 (fun z:List Int×Int=>z.1) (by rw[Xp]; omega) (fun _ _=>rfl),wH];rfl
end
section
variable {m:Nat} 
theorem jew:∀ k b,1<=Wy P n k b
 | 0,_=>Xh _
 | k+1,b=>by
  unfold Wy;split
  ·exact Xh _
  ·rename_i h
   cases e:Dr P n b with
   | nil=>exact absurd e h
   | cons a r=>
    rw[Xl,X8];have:=jew k (b ||| 2 ^ a)
    omega
theorem jhB (o:Ok P n) (h9:n<=9):jS (zj P n)=some ((Wn P n 0:Nat):Int):=by
 obtain⟨d,ed,hd⟩:=JB o h9;unfold jS;rw[ed];simp only[MM.bs];exact hd 0 (Gu P n)
theorem jhC {l:List Nat}{k:Nat}{x:Int} (hx:(zn l)[k]?=some x):∃ t,l[k]?=some t/\x=(t:Int):=by
 unfold zn at hx;rw[Xt] at hx;obtain⟨p,hp,e⟩:=Option.map_eq_some_iff.mp hx;exact⟨p,hp,e.symm⟩
theorem Zv (o:Ok P n) (h9:n<=9) (B:Bw P n tbl):qP (yc n tbl)=some ((Wn P n 0:Nat):Int):=by
 have h512:2 ^ n<=512:=jiv h9;unfold qP;simp only[MM.bs];rw[Ga,MM.rng (by omega),MM.bs];refine MM.forM_then (R:=fun r=>r=some ((Wn P n 0:Nat):Int)) (fun k (w:List (List Int×Int))=>∃ d,w=d.map (Uo n)/\Ct P n k d/\ph (Wn P n) d=Wn P n 0) ⟨[(0,1)],?_,⟨by simp,?_,?_⟩,?_⟩ ?_ ?_
 ·show _=[(zn (ths n 0),(1:Int))];rw[Yt];rfl
 ·intro p hp;rw[XC.mp hp];exact Gu P n
 ·intro p hp;rw[XC.mp hp,Yt];rfl
 ·simp[ph]
 ·rintro k w hk ⟨d,rfl,C,e⟩;refine MM.forM_thenL (R:=fun r=>∃ b',r=some b'/\∃ d',b'=d'.map (Uo n)/\Ct P n (k+1) d'/\ph (Wn P n) d'=Wn P n 0) (fun j (more:List (List Int×Int))=>∃ d',more=d'.map (Uo n)/\Ct P n (k+1) d'/\ph (Wn P n) d'=ph (Wn P n) (d.take j)) ⟨[],rfl,⟨by simp,by simp,by simp⟩,rfl⟩ ?_ ?_
  ·rintro j x more hx ⟨d',rfl,C',e'⟩;obtain⟨p,hp,rfl⟩:∃ p,d[j]?=some p/\x=zn (ths n p.1):=by
    rw[wH,Xt] at hx;obtain⟨p,hp,e⟩:=Option.map_eq_some_iff.mp hx;exact⟨p,hp,e.symm⟩
   have hpm:p∈d:=XA hp;have hb:=C.ds p hpm;have hlen:=C.len p hpm;have hplt:=C.lt o p hpm;have ef:ym (yc n tbl) (zn (ths n p.1))=some (zn (Dr P n p.1)):=by
    have:=jbJ (l:=ths n p.1) o h9 B
    rwa [jdx hplt] at this
   have hget:zi (d.map (Uo n)) (zn (ths n p.1))=some ((p.2:Nat):Int):=by
    unfold zi;exact WB (C.lt o) C.nd hpm
   have hne:Dr P n p.1≠[]:=fun h0=>by
    have:=Yr o h0;omega
   rw[ef,MM.bs];refine MM.forM_thenL (R:=fun r=>∃ b',r=some b'/\∃ d',b'=d'.map (Uo n)/\Ct P n (k+1) d'/\ph (Wn P n) d'=ph (Wn P n) (d.take (j+1))) (fun i (more:List (List Int×Int))=>∃ d2,more=d2.map (Uo n)/\Ct P n (k+1) d2/\ph (Wn P n) d2=ph (Wn P n) d'+p.2 * (((Dr P n p.1).take i).map fun t=>Wn P n (p.1 ||| 2 ^ t)).sum) ⟨d',rfl,C',by simp⟩ ?_ ?_
   ·rintro i y more hy ⟨d2,rfl,C2,e2⟩;obtain⟨t,ht,rfl⟩:=jhC hy;have htm:t∈Dr P n p.1:=XA ht;have htl:=Jw n p.1;have hd2:d2.length<=2 ^ n:=by
     have:=Yu (n:=2 ^ n) C2.nd (fun a ha=>by
      obtain⟨q,hq,rfl⟩:=List.mem_map.mp ha;exact C2.lt o q hq)
     rwa [Xp] at this
    have es:Y3 (zn (ths n p.1)++[(t:Int)])=some (zn (ths n (p.1 ||| 2 ^ t))):=by
     unfold Y3;rw[if_pos (by rw[XR,qg,List.length_singleton]; omega),jht o htm]
    have hclt:p.1 ||| 2 ^ t<2 ^ n:=((VA o).mp (Zn o hb htm)).1
    have hput:jb5 (d2.map (Uo n)) (zn (ths n (p.1 ||| 2 ^ t))) ((GU (d2.map (Uo n)) (zn (ths n (p.1 ||| 2 ^ t)))).getD 0+((p.2:Nat):Int))=some ((Wz d2 (p.1 ||| 2 ^ t) p.2).map (Uo n)):=by
     unfold jb5;rw[if_pos (by rw[Xp]; omega),jbF hclt (C2.lt o) C2.nd]
    rw[MM.cat (by rw[qg,List.length_singleton]; omega),MM.bs,es];simp only[MM.bs];rw[hget];simp only[MM.bs];rw[hput];simp only[MM.bs];refine⟨_,rfl,_,rfl,C2.add o hb hlen htm,?_⟩;rw[jen,e2,List.take_add_one,ht,ww,List.sum_append,Nat.mul_add];simp;omega
   ·rintro more ⟨d2,rfl,C2,e2⟩;refine⟨_,rfl,d2,rfl,C2,?_⟩;rw[e2,qg,List.take_length,<- VC o hne,e',List.take_add_one,hp];unfold ph;rw[ww,List.sum_append];simp
  ·rintro more ⟨d',rfl,C',e'⟩;refine⟨_,rfl,d',rfl,C',?_⟩;rw[e',Xp,Xp,List.take_length,e]
 ·rintro w ⟨d,rfl,C,e⟩;rw[jdu (by omega)];simp only[MM.bs];have hfull:∀ p∈d,ths n p.1=List.range n:=fun p hp=>by
   refine List.Sublist.eq_of_length (List.filter_sublist) ?_;have:=C.len p hp;rw[Xz];exact this
  cases d with
  | nil=>
   have:1<=Wn P n 0:=jew _ _;rw[<- e] at this;simp[ph] at this
  | cons p r=>
   have hp:p∈p::r:=Xn;have hr:r=[]:=by
    rw[List.eq_nil_iff_forall_not_mem];intro q hq;have hq':q∈p::r:=Xj _ hq;have hnd:=C.nd;rw[Xl,XL] at hnd;have:=Uq (C.lt o q hq') (C.lt o p hp) ((hfull q hq').trans (hfull p hp).symm);exact hnd.1 (List.mem_map.mpr ⟨q,hq,this⟩)
   subst hr;have h0:Dr P n p.1=[]:=by
    rw[List.eq_nil_iff_forall_not_mem];intro t ht;obtain⟨a1,a2,_⟩:=(xR o).mp ht;have:t∈ths n p.1:=by rw[hfull p hp]; exact Xv.mpr a1
    rw[(mem_ths.mp this).2] at a2;cases a2
   have ep:p.2=Wn P n 0:=by
    rw[<- e];unfold ph;rw[Xl,X8,Gv o h0];simp
   have:=WB (C.lt o) C.nd hp;rw[hfull p hp,ep] at this;unfold zi;exact this
end
abbrev B25:Nat:=10 ^ 41
theorem jf1 {a:Int} (h:a.natAbs<B25):a.natAbs.log2<250:=by
 have h2:a.natAbs<2 ^ 250:=Xx h (by decide);rcases Nat.eq_zero_or_pos a.natAbs with h0 | h0
 ·rw[h0]; decide
 ·exact(Nat.log2_lt (Nat.ne_of_gt h0)).mpr h2
theorem jhD {a:Int} (h:a.natAbs<B25):(Str.ofString (toString a)).length<=251:=by
 have:=int_text_length_le (a:=a) (k:=250) (by decide) (jf1 h);rw[ofString_length];exact this
theorem jhE {a:Int} (h:a.natAbs<B25):∃ w:Str,jf8 a=some w/\w.length<=251:=by
 have hl:=jf1 h;refine⟨Str.ofString (toString a),?_,jhD h⟩;unfold jf8;exact if_pos (by omega)
theorem JD {a b:Str} (h:a.length+b.length<=100000):zE a b=some (a++b):=by
 unfold zE;rw[if_pos (by rw[XH]; omega)]
theorem jex {a:Str} (h:a.length<=100000):jf9 a=some a:=by
 unfold jf9;rw[if_pos (by rw[XH]; omega)]
theorem yL (a b:Str):(a++b).length=a.length+b.length:=Str.length_append a b
theorem jbL:∀ {l:List Int},(∀ x∈l,x.natAbs<B25)->PyData.showableAll (l.map PyData.int)=true
 | [],_=>by simp only[List.map_nil,PyData.showableAll]
 | x::l,h=>by
  have hx:=jf1 (h x Xn);rw[Xl];simp only[PyData.showableAll,PyData.showable,X6,Xw];exact⟨by omega,jbL fun y hy=>h y (Xj _ hy)⟩
theorem jbM:∀ {l:List Int},(∀ x∈l,x.natAbs<B25)->((PyData.shownAll (l.map PyData.int)).map (·.length)).sum<=251 * l.length/\(PyData.shownAll (l.map PyData.int)).length=l.length
 | [],_=>by simp[PyData.shownAll]
 | x::l,h=>by
  have hx:=jhD (h x Xn);have ih:=jbM (l:=l) fun y hy=>h y (Xj _ hy);rw[Xl];simp only[PyData.shownAll,PyData.shown,Xl,X8,XQ];refine⟨?_,by omega⟩;have e:((toString x:String):Str).length<=251:=hx;omega
theorem jhF {l:List Int} (hl:l.length<=60) (h:∀ x∈l,x.natAbs<B25):∃ w:Str,jbf l=some w/\w.length<=20000:=by
 obtain⟨s1,s2⟩:=jbM h;have ht:=tupleText_len_le (PyData.shownAll (l.map PyData.int));have hs:(shT l).shown.length<=20000:=by
  unfold shT;simp only[PyData.shown];omega
 refine⟨(shT l).shown,?_,hs⟩;unfold jbf;refine if_pos ⟨?_,by rw[XH]; omega⟩;unfold shT;simp only[PyData.showable];exact jbL h
theorem ji8 (x:Option α):(x.bind fun _=>(none:Option β))=none:=by cases x <;> rfl
def Sm (l:List Int):Prop:=l.length<=20/\∀ x∈l,x.natAbs<B25
theorem yY {a b:Option Int}{x:α} (h:x∈cut l a b):x∈l:=by
 unfold cut at h;exact List.mem_of_mem_drop (List.mem_of_mem_take h)
theorem jhG {l:List Int}{i:Int}{v:Int} (h:pAt l i=some v):v∈l:=by
 unfold pAt at h;obtain⟨k,_,e⟩:=bind_some h;exact XA e
theorem jiB (c:Int):(c % ((10 ^ 40:Int)+(10 ^ 20:Int)+1)-(10 ^ 20:Int)).natAbs<B25:=by
 have h1:0<=c % ((10 ^ 40:Int)+(10 ^ 20:Int)+1):=Int.emod_nonneg _ (by decide);have h2:c % ((10 ^ 40:Int)+(10 ^ 20:Int)+1)<(10 ^ 40:Int)+(10 ^ 20:Int)+1:=Int.emod_lt_of_pos _ (by decide);have e1:(10 ^ 40:Int)+(10 ^ 20:Int)+1=10000000000000000000100000000000000000001:=by decide
 have e2:(10 ^ 20:Int)=100000000000000000000:=by decide
 have e3:B25=100000000000000000000000000000000000000000:=by decide
 rw[e1] at h1 h2;rw[e1,e2,e3];omega
theorem jdD (h1:1<=row.length) (h9:row.length<=9) (hb:∀ x∈row,x.natAbs<B25) (c:Int):∃ r,xH row c=some r/\Sm r:=by
 unfold xH;simp only[MM.bs];obtain⟨k,hk,ek⟩:=jh3 (c / 5) (m:=row.length) (by omega);rw[MM.modP (by omega),ek];simp only[MM.bs];obtain⟨m,hm,em⟩:=jh3 (c / 45) (m:=row.length) (by omega);obtain⟨v1,e1⟩:=jbG (l:=row) (i:=(m:Int)) (by omega) (by omega);have c1:=WC row none (some (k:Int));have c2:=WC row (some ((k:Int)+1)) none;have c3:=WC row none (some ((k:Int)+1));cases decide (c % 5=0) with
 | true=>
  rw[MM.ct,MM.modP (by omega),em,MM.bs,e1];simp only[MM.bs];rw[MM.cat (by simp; omega),MM.bs,MM.cat (by simp; omega)];refine⟨_,rfl,by simp; omega,fun x hx=>?_⟩;rcases XG.mp hx with hx | hx
  ·rcases XG.mp hx with hx | hx
   ·exact hb x (yY hx)
   ·rw[XC.mp hx]; exact hb _ (jhG e1)
  ·exact hb x (yY hx)
 | false=>
  rw[MM.cf];cases decide (c % 5=1) with
  | true=>
   rw[MM.ct,MM.cat (by omega)];refine⟨_,rfl,by rw[XR]; omega,fun x hx=>?_⟩;rcases XG.mp hx with hx | hx
   ·exact hb x (yY hx)
   ·exact hb x (yY hx)
  | false=>
   rw[MM.cf];cases decide (c % 5=2) with
   | true=>
    obtain⟨j,hj,ej⟩:=jh3 (c / 45) (m:=row.length+1) (by omega);rw[MM.ct,show (row.length:Int)+1=((row.length+1:Nat):Int) by omega,MM.modP (by omega),ej];simp only[MM.bs];rw[MM.cat (by simp; omega)];refine⟨_,rfl,by simp; omega,fun x hx=>?_⟩;rcases XG.mp hx with hx | hx
    ·exact hb x hx
    ·rw[XC.mp hx];have e3:B25=100000000000000000000000000000000000000000:=by decide
     omega
   | false=>
    rw[MM.cf];cases decide (c % 5=3) with
    | true=>
     rw[MM.ct,MM.cat (by rw[wE]; omega)];refine⟨_,rfl,by rw[XR,wE]; omega,fun x hx=>?_⟩;rcases XG.mp hx with hx | hx
     ·exact hb x (yY (List.mem_reverse.mp hx))
     ·exact hb x (yY hx)
    | false=>
     rw[MM.cf,MM.modP (by decide +kernel)];simp only[MM.bs];rw[MM.cat (by simp; omega),MM.bs,MM.cat (by simp; omega)];refine⟨_,rfl,by simp; omega,fun x hx=>?_⟩;rcases XG.mp hx with hx | hx
     ·rcases XG.mp hx with hx | hx
      ·exact hb x (yY hx)
      ·rw[XC.mp hx]; exact jiB _
     ·exact hb x (yY hx)
theorem jey (o:Ok P n) (h9:n<=9) (B:Bw P n tbl) (hr:row.length<64):∃ b,kz (zj P n) row=some b/\kK (yc n tbl) row=some b:=by
 unfold kz kK;have es:Y3 row=some (srt row):=by
  unfold Y3;rw[if_pos hr]
 rw[size,es,Ga];simp only[MM.bs];rw[jdu (by omega)];simp only[MM.bs];cases hq:V4 (srt row) (zn (List.range n)) with
 | false=>
  rw[wn,MM.ct,MM.ct];exact⟨false,rfl,rfl⟩
 | true=>
  rw[XT,MM.cf,MM.cf];rw[MM.isEq_iff] at hq;have hp:row.Perm (zn (List.range n)):=by rw[<- hq]; exact (GT row).symm
  have hlen:row.length=n:=by rw[hp.length_eq,qg,Xz]
  obtain⟨l,rfl⟩:∃ l:List Nat,row=zn l:=by
   refine⟨row.map Int.toNat,?_⟩;unfold zn;rw[wH]
   conv=>lhs; rw[<- List.map_id row]
   refine List.map_congr_left fun x hx=>?_;obtain⟨t,_,e⟩:=List.mem_map.mp (hp.mem_iff.mp hx);show x=((x.toNat:Nat):Int);omega
  rw[qg] at hlen;have hlt:∀ t∈l,t<n:=fun t ht=>by
   have:(t:Int)∈zn (List.range n):=hp.mem_iff.mp (List.mem_map.mpr ⟨t,ht,rfl⟩);obtain⟨s,hs,e⟩:=List.mem_map.mp this;have:=Xv.mp hs;omega
  have e1:=GY (l:=zn l) (f:=fun ahead thing=>
    (((((some (ahead)).bind fun t5=>((pAt (zj P n).beneath thing)).bind fun t6=>(km t5 t6))).bind fun t7=>some ((!t7)))).bind fun q10=>bif q10 then
    (some (false)).bind fun y=>some (.rt y)
    else
    (((some (ahead)).bind fun t8=>((JY 1 thing)).bind fun t9=>some ((Builtin.bitOr t8 t9)))).bind fun ahead=>
    some (.nx ahead)) (fun k=>((MB.setN (l.take k):Nat):Int)) (fun k=>(tbl (l.getD k 0)).all fun s=>decide (s∈l.take k)) (fun k x hx=>by
   obtain⟨t,ht,rfl⟩:∃ t,l[k]?=some t/\x=(t:Int):=by
    unfold zn at hx;rw[Xt] at hx;obtain⟨p,hp,e⟩:=Option.map_eq_some_iff.mp hx;exact⟨p,hp,e.symm⟩
   have htn:t<n:=hlt t (XA ht);have eg:l.getD k 0=t:=by rw[X1,ht]; rfl
   have eb:(zj P n).beneath=zn (bel P n):=rfl;rw[eb,QL htn,eg];simp only[MM.bs];rw[z_];have et:decide ((MB.setN (l.take k)) &&& (bel P n).getD t 0=(bel P n).getD t 0)=(tbl t).all fun s=>decide (s∈l.take k):=by
    rw[XM,Xw,wg,Jx o htn];constructor
    ·intro h s hs;have hbl:=(B.mem t htn s).mp hs;have:=h s (Nat.lt_trans (Zl o htn hbl) htn) hbl;rw[MB.setN_bit] at this;exact this
    ·intro h s hs hbl;rw[MB.setN_bit];exact h s ((B.mem t htn s).mpr hbl)
   rw[et];simp only[MM.bs];cases (tbl t).all fun s=>decide (s∈l.take k) with
   | false=>rw[wn,MM.ct,if_neg (by decide)]
   | true=>
    rw[XT,MM.cf,if_pos rfl,MM.shl1 (by omega)];simp only[MM.bs];rw[MB.or_nat,List.take_add_one,ht];unfold MB.setN;rw[List.foldl_append];rfl)
  have e2:=GY (l:=(List.range n).map fun k=>((k:Nat):Int)) (f:=fun (_:Unit) at_=>
    (((((((((some (yc n tbl)).bind fun t5=>((pAt (zn l) at_)).bind fun t6=>(pAt t5 t6))).bind fun l9=>qa l9 (fun _=>some true) (fun low=>some ((Qq low (cut (zn l) none (some at_))))))).bind fun t10=>some ((t10.all id)))).bind fun t11=>some ((!t11)))).bind fun q12=>bif q12 then
    (some (false)).bind fun y=>some (.rt y)
    else
    some (.nx ())) (fun _=>()) (fun k=>(tbl (l.getD k 0)).all fun s=>decide (s∈l.take k)) (fun k x hx=>by
   rw[Xt] at hx;obtain⟨j,hj,rfl⟩:=Option.map_eq_some_iff.mp hx;obtain⟨hj1,hj2⟩:=List.getElem?_eq_some_iff.mp hj;rw[List.getElem_range] at hj2;rw[Xz] at hj1;subst hj2;have htn:l.getD k 0<n:=hlt _ (Uk (by omega));simp only[MM.bs];rw[jbr (by omega),MM.bs,WF htn,MM.bs,jek,jbu,Jz (fun s=>decide (s∈l.take k)) (by have:=B.len _ htn; omega) (fun s _=>by rw[Jy])];simp only[MM.bs];rw[List.all_map];have ea:(tbl (l.getD k 0)).all (id ∘ fun s=>decide (s∈l.take k))=(tbl (l.getD k 0)).all fun s=>decide (s∈l.take k):=rfl;rw[ea];cases (tbl (l.getD k 0)).all fun s=>decide (s∈l.take k) with
   | false=>rw[wn,MM.ct,if_neg (by decide)]
   | true=>rw[XT,MM.cf,if_pos rfl])
  have e0:((MB.setN (l.take 0):Nat):Int)=0:=rfl;simp only[MM.bs] at e1 e2;rw[e0] at e1;rw[e1,MM.bs,qg,hlen,MM.rng (by omega),MM.bs,e2,MM.bs];rw[Xp,Xz];refine⟨(List.range n).all (fun k=>(tbl (l.getD k 0)).all fun s=>decide (s∈l.take k)),?_,?_⟩
  ·cases (List.range n).all (fun k=>(tbl (l.getD k 0)).all fun s=>decide (s∈l.take k)) <;> rfl
  ·cases (List.range n).all (fun k=>(tbl (l.getD k 0)).all fun s=>decide (s∈l.take k)) <;> rfl
theorem jhH (o:Ok P n) (h9:n<=9) (B:Bw P n tbl) (hr:row.length<64) (h:kK (yc n tbl) row=some true):∃ l,row=zn l/\Ln P n l:=by
 unfold kK at h;have es:Y3 row=some (srt row):=by
  unfold Y3;rw[if_pos hr]
 rw[es,Ga] at h;simp only[MM.bs] at h;rw[jdu (by omega)] at h;simp only[MM.bs] at h;cases hq:V4 (srt row) (zn (List.range n)) with
 | false=>
  rw[hq,wn,MM.ct] at h;cases h
 | true=>
  rw[hq,XT,MM.cf] at h;rw[MM.isEq_iff] at hq;have hp:row.Perm (zn (List.range n)):=by rw[<- hq]; exact (GT row).symm
  have hlen:row.length=n:=by rw[hp.length_eq,qg,Xz]
  obtain⟨l,rfl⟩:∃ l:List Nat,row=zn l:=by
   refine⟨row.map Int.toNat,?_⟩;unfold zn;rw[wH]
   conv=>lhs; rw[<- List.map_id row]
   refine List.map_congr_left fun x hx=>?_;obtain⟨t,_,e⟩:=List.mem_map.mp (hp.mem_iff.mp hx);show x=((x.toNat:Nat):Int);omega
  rw[qg] at hlen;have hlt:∀ t∈l,t<n:=fun t ht=>by
   have:(t:Int)∈zn (List.range n):=hp.mem_iff.mp (List.mem_map.mpr ⟨t,ht,rfl⟩);obtain⟨s,hs,e⟩:=List.mem_map.mp this;have:=Xv.mp hs;omega
  have hmem:∀ t,t<n->t∈l:=fun t ht=>by
   have:(t:Int)∈zn l:=hp.mem_iff.mpr (List.mem_map.mpr ⟨t,Xv.mpr ht,rfl⟩);obtain⟨s,hs,e⟩:=List.mem_map.mp this;have:s=t:=by omega
   rwa [<- this]
  have hnd:l.Nodup:=by
   have h2:(zn l).Nodup:=hp.nodup_iff.mpr (Ul List.nodup_range);unfold zn at h2;exact(List.pairwise_map.mp h2).imp fun h e=>h (by rw[e])
  have e2:=GY (l:=(List.range n).map fun k=>((k:Nat):Int)) (f:=fun (_:Unit) at_=>
    (((((((((some (yc n tbl)).bind fun t5=>((pAt (zn l) at_)).bind fun t6=>(pAt t5 t6))).bind fun l9=>qa l9 (fun _=>some true) (fun low=>some ((Qq low (cut (zn l) none (some at_))))))).bind fun t10=>some ((t10.all id)))).bind fun t11=>some ((!t11)))).bind fun q12=>bif q12 then
    (some (false)).bind fun y=>some (.rt y)
    else
    some (.nx ())) (fun _=>()) (fun k=>(tbl (l.getD k 0)).all fun s=>decide (s∈l.take k)) (fun k x hx=>by
   rw[Xt] at hx;obtain⟨j,hj,rfl⟩:=Option.map_eq_some_iff.mp hx;obtain⟨hj1,hj2⟩:=List.getElem?_eq_some_iff.mp hj;rw[List.getElem_range] at hj2;rw[Xz] at hj1;subst hj2;have htn:l.getD k 0<n:=hlt _ (Uk (by omega));simp only[MM.bs];rw[jbr (by omega),MM.bs,WF htn,MM.bs,jek,jbu,Jz (fun s=>decide (s∈l.take k)) (by have:=B.len _ htn; omega) (fun s _=>by rw[Jy])];simp only[MM.bs];rw[List.all_map];have ea:(tbl (l.getD k 0)).all (id ∘ fun s=>decide (s∈l.take k))=(tbl (l.getD k 0)).all fun s=>decide (s∈l.take k):=rfl;rw[ea];cases (tbl (l.getD k 0)).all fun s=>decide (s∈l.take k) with
   | false=>rw[wn,MM.ct,if_neg (by decide)]
   | true=>rw[XT,MM.cf,if_pos rfl])
  simp only[MM.bs] at e2;rw[qg,hlen,MM.rng (by omega),MM.bs,e2,MM.bs] at h;rw[Xp,Xz] at h;cases hall:(List.range n).all (fun k=>(tbl (l.getD k 0)).all fun s=>decide (s∈l.take k)) with
  | false=>
   rw[hall] at h;cases h
  | true=>
   rw[wg] at hall;refine⟨l,rfl,hnd,fun t=>⟨hlt t,hmem t⟩,?_⟩;rw[List.pairwise_iff_getElem];intro i j hi hj hij;cases hz:bl P n l[j] l[i] with
   | false=>rfl
   | true=>
    exfalso
    have hi':=hall i (Xv.mpr (by omega));have eg:l.getD i 0=l[i]:=by rw[X1,Xg hi]; rfl
    rw[eg,wg] at hi';have hin:=of_decide_eq_true (hi' l[j] ((B.mem _ (hlt _ (List.getElem_mem hi)) _).mpr hz));obtain⟨k,hk,e⟩:=List.mem_take_iff_getElem.mp hin;have hkl:k<l.length:=by omega
    have hne:=List.pairwise_iff_getElem.mp hnd k j hkl hj (by omega);exact hne e
section
theorem jbN (er:Er) (m:Option α):jfL (some er) m=some (none,some er):=rfl
theorem jbO (v:α):jfL none (some v)=some (some v,none):=rfl
theorem jiC (m:Option Er):orE none m=m:=rfl
theorem jbP {b:Bool} (hs:Sm row) (h:kz (zj P n) row=some b):qf (zj P n) row=if b then none else some (Er.mk 3 []):=by
 unfold qf;rw[h];simp only[MM.bs];cases b with
 | true=>rw[XT,MM.cf]; rfl
 | false=>
  rw[wn,MM.ct];obtain⟨w,ew,hw⟩:=jhF (by have:=hs.1; omega) hs.2;rw[ew];simp only[MM.bs];have l0:Str.empty.length=0:=rfl;have l1:(" is no line of the order":Str).length<=100:=by decide
  rw[JD (by omega)];simp only[MM.bs];rw[JD (by rw[yL]; omega)];simp only[MM.bs];rw[jex (by rw[yL,yL]; omega)];rfl
theorem jhI (o:Ok P n) (h9:n<=9) (B:Bw P n tbl) (hs:Sm row) {b:Bool} (hm:kz (zj P n) row=some b) (hi:kK (yc n tbl) row=some b) :
  ∃ f e,yy (zj P n) 0 row=some (f,e,[!b,false,false])/\(e.isNone=true->∃ v,f=some v):=by
 unfold yy;simp only[MM.bs];rw[Xk trivial,MM.ct,MM.ct];cases b with
 | false=>
  have he:kY (zj P n) row=some (Er.mk 3 []):=by
   unfold kY;simp only[MM.bs];rw[jbP hs hm];rfl
  rw[he,jbN];exact⟨_,_,rfl,fun h=>by cases h⟩
 | true=>
  obtain⟨l,rfl,L⟩:=jhH o h9 B (by have:=hs.1; omega) hi;have he:kY (zj P n) (zn l)=none:=by
   unfold kY;simp only[MM.bs];rw[jbP hs hm,if_pos rfl,jiC];simp only[ji8]
  rw[he,jbK o h9 L,jbO];exact⟨_,_,rfl,fun _=>⟨_,rfl⟩⟩
theorem jhJ (o:Ok P n) (h9:n<=9) (x:Int):∃ f e,xv (zj P n) 1 x=some (f,e,[false,!(decide (0<=x)&&decide (x<((Wn P n 0:Nat):Int))),false])/\(e=none/\(∃ l,f=some (zn l)/\Ln P n l) \/ e=some (Er.mk 2 [x])):=by
 obtain⟨d,ed,hd⟩:=JB o h9;have h0:zi d (0:Int)=some ((Wn P n 0:Nat):Int):=hd 0 (Gu P n);unfold xv;simp only[MM.bs];rw[Xi (by decide),MM.cf,MM.cf,Xk trivial,MM.ct,MM.ct];by_cases hx:0<=x/\x<((Wn P n 0:Nat):Int)
 ·obtain⟨m,rfl⟩:=Int.eq_ofNat_of_zero_le hx.1;obtain⟨l,el,L,_⟩:=Zt (m:=m) o h9 (by omega);have el:qt (zj P n) ((m:Nat):Int)=some (zn l):=el;have he:qQ (zj P n) ((m:Nat):Int)=none:=by
   unfold qQ;rw[ed];simp only[MM.bs];rw[Xk hx.1,MM.ct,h0];simp only[MM.bs];rw[Xk hx.2,XT,MM.cf]
  rw[he,el,jbO];refine⟨_,_,?_,.inl ⟨rfl,l,rfl,L⟩⟩;rw[Xk hx.1,Xk hx.2];rfl
 ·have he:qQ (zj P n) x=some (Er.mk 2 [x]):=by
   unfold qQ;rw[ed];simp only[MM.bs];by_cases h1:0<=x
   ·rw[Xk h1,MM.ct,h0];simp only[MM.bs];rw[Xi (fun h=>hx ⟨h1,h⟩),wn,MM.ct]
   ·rw[Xi h1,MM.cf];simp only[MM.bs];rw[wn,MM.ct]
  rw[he,jbN];refine⟨none,some (Er.mk 2 [x]),?_,.inr rfl⟩;have:(decide (0<=x)&&decide (x<((Wn P n 0:Nat):Int)))=false:=by
   rw[Bool.and_eq_false_iff,decide_eq_false_iff_not,decide_eq_false_iff_not];exact Classical.not_and_iff_not_or_not.mp hx
  rw[this];rfl
theorem jhK (o:Ok P n) (h9:n<=9):∃ f e,xw (zj P n) 2 ()=some (f,e,[false,false,decide (1000<((Wn P n 0:Nat):Int))])/\(e.isNone=true->∃ L,f=some L/\L.length=Wn P n 0):=by
 unfold xw;simp only[MM.bs];rw[Xi (by decide),MM.cf,MM.cf,Xi (by decide),MM.cf,MM.cf];by_cases hW:Wn P n 0<=1000
 ·have he:yb (zj P n)=none:=by
   unfold yb;rw[jhB o h9];simp only[MM.bs];rw[Xi (by omega),MM.cf]
  rw[he,jdC o h9 hW,jbO,Xi (by omega)];refine⟨_,_,rfl,fun _=>⟨_,rfl,?_⟩⟩;rw[Xp,(jf0 o).1]
 ·have hle:Wn P n 0<1000000:=by
   have h:Wn P n 0<=fc (n-(ths n 0).length):=jhx (P:=P) o _ 0 rfl;have hf:∀ k,k<10->fc k<1000000:=by decide
   exact Nat.lt_of_le_of_lt h (hf _ (by omega))
  have he:yb (zj P n)=some (Er.mk 4 []):=by
   unfold yb;rw[jhB o h9];simp only[MM.bs];rw[Xk (by omega),MM.ct];have e3:B25=100000000000000000000000000000000000000000:=by decide
   obtain⟨w,ew,hw⟩:=jhE (a:=((Wn P n 0:Nat):Int)) (by omega);obtain⟨w2,ew2,hw2⟩:=jhE (a:=1000) (by decide);have l0:Str.empty.length=0:=rfl;have l1:("there are ":Str).length<=100:=by decide
   have l2:(" lines, and at most ":Str).length<=100:=by decide
   have l3:(" are listed":Str).length<=100:=by decide
   rw[JD (by omega)];simp only[MM.bs];rw[ew];simp only[MM.bs];rw[JD (by rw[yL]; omega)];simp only[MM.bs];rw[JD (by rw[yL,yL]; omega)];simp only[MM.bs];rw[ew2];simp only[MM.bs];rw[JD (by rw[yL,yL,yL]; omega)];simp only[MM.bs];rw[JD (by rw[yL,yL,yL,yL]; omega)];simp only[MM.bs];rw[jex (by rw[yL,yL,yL,yL,yL]; omega)];rfl
  rw[he,jbN,Xk (by omega)];exact⟨_,_,rfl,fun h=>by cases h⟩
theorem jhL (ns:List Int) (o:Ok P n) (h1:1<=n) (h9:n<=9) (hP:P.length<=300):(((xz (n:Int) (zp P))).bind fun below_here=>
 ((kS (n:Int) (zp P))).bind fun order_here=>
 ((qP below_here)).bind fun many=>
 (((((some (below_here)).bind fun t10=>((ko ns 3)).bind fun t11=>(zZ t10 t11))).bind fun t12=>((ko ns 4)).bind fun t13=>(xH t12 t13))).bind fun row=>
 ((yy order_here 0 row)).bind fun z14=>
 (((((some (z14.2.2)).bind fun t18=>((((((kK below_here row)).bind fun t15=>some ((!t15)))).bind fun t16=>(some ([false,false]:List Bool)).bind fun t17=>some (t16::t17))).bind fun t19=>some ((!V4 t18 t19)))).bind fun q=>bif q then some true else (bif z14.2.1.isNone then ((((z14.1).bind fun t20=>(xO t20))).bind fun t21=>some ((!t21))) else some false))).bind fun q37=>bif q37 then
 some (false)
 else
 (((some (many)).bind fun t22=>((ko ns 5)).bind fun t23=>(xZ t22 t23))).bind fun number_here=>
 ((xv order_here 1 number_here)).bind fun z24=>
 bif (!V4 z24.2.2 ([false,(!((decide (0<=number_here))&&(decide (number_here<many)))),false]:List Bool)) then
 some (false)
 else
 ((bif z24.2.1.isNone then ((((some (below_here)).bind fun t25=>(z24.1).bind fun t26=>(kK t25 t26))).bind fun t27=>some ((!t27))) else some false)).bind fun q36=>bif q36 then
 some (false)
 else
 ((bif (!z24.2.1.isNone) then (((((z24.2.1.bind fun er_=>some (Uf [0,1,2,3,4] er_))).bind fun t28=>some ((!t28)))).bind fun q=>bif q then some true else (((z24.2.1.bind fun er_=>jfq 2 0 er_)).bind fun t29=>(some (number_here)).bind fun t30=>some ((!decide (t29=t30))))) else some false)).bind fun q35=>bif q35 then
 some (false)
 else
 ((xw order_here 2 ())).bind fun z31=>
 (bif (V4 z31.2.2 ([false,false,(decide (1000<many))]:List Bool)) then (bif (!z31.2.1.isNone) then some true else ((((z31.1).bind fun t32=>some ((t32.length:Int)))).bind fun t33=>(some (many)).bind fun t34=>some ((decide (t33=t34))))) else some false))=some true:=by
 obtain⟨c3,e3⟩:=qx ns 3;obtain⟨c4,e4⟩:=qx ns 4;obtain⟨c5,e5⟩:=qx ns 5;have e3:ko ns 3=some c3:=e3;have e4:ko ns 4=some c4:=e4;have e5:ko ns 5=some c5:=e5;obtain⟨tbl,eb,b1,b2⟩:=jbI o h9 hP;have B:Bw P n tbl:=⟨b1,b2⟩;rw[eb,Zp o h1 h9,e3,e4,e5];simp only[MM.bs];rw[Zv o h9 B];simp only[MM.bs];obtain⟨l,L,el⟩:=jiz o h9 B c3;have hlen:=L.len;rw[el,MM.bs];have e3':B25=100000000000000000000000000000000000000000:=by decide
 obtain⟨row,er,hs⟩:=jdD (row:=zn l) (by rw[qg]; omega) (by rw[qg]; omega) (fun x hx=>by
  obtain⟨t,ht,rfl⟩:=List.mem_map.mp hx;have:=(L.mem t).mp ht;omega) c4
 rw[er,MM.bs];obtain⟨b,hm,hi⟩:=jey o h9 B (row:=row) (by have:=hs.1; omega);obtain⟨f1,er1,ea1,hf1⟩:=jhI o h9 B hs hm hi;rw[ea1,hi];simp only[MM.bs];rw[MM.isEq_self,XT,MM.cf];have ew:(bif er1.isNone then (((f1).bind fun t20=>(xO t20))).bind fun t21=>some ((!t21)) else some false)=some false:=by
  cases hn:er1.isNone with
  | false=>rfl
  | true=>
   obtain⟨v,rfl⟩:=hf1 hn;rw[MM.ct];simp only[MM.bs];unfold xO;rfl
 rw[ew];simp only[MM.bs,MM.cf];obtain⟨x,ex⟩:∃ x,xZ ((Wn P n 0:Nat):Int) c5=some x:=by
  unfold xZ;cases decide (c5 % 3=0) with
  | true=>
   rw[MM.ct];exact jbG (by omega) (by simp; omega)
  | false=>
   rw[MM.cf,MM.modP (by decide +kernel)];exact⟨_,rfl⟩
 rw[ex];simp only[MM.bs];obtain⟨f2,er2,ea2,hf2⟩:=jhJ o h9 x;rw[ea2];simp only[MM.bs];rw[MM.isEq_self,XT,MM.cf];have ew2:(bif er2.isNone then ((((f2).bind fun t26=>(kK (yc n tbl) t26))).bind fun t27=>some ((!t27))) else some false)=some false:=by
  rcases hf2 with⟨rfl,l2,rfl,L2⟩ | rfl
  ·have hl2:=L2.len;obtain⟨b2,hm2,hi2⟩:=jey o h9 B (row:=zn l2) (by rw[qg]; omega);rw[GL o h9 L2] at hm2;cases hm2;rw[show (none:Option Er).isNone=true from rfl,MM.ct];simp only[MM.bs];rw[hi2];rfl
  ·rfl
 rw[ew2];simp only[MM.bs,MM.cf];have ew3:((bif (!er2.isNone) then (((((er2.bind fun er_=>some (Uf [0,1,2,3,4] er_))).bind fun t28=>some ((!t28)))).bind fun q=>bif q then some true else (((er2.bind fun er_=>jfq 2 0 er_)).bind fun t29=>some ((!decide (t29=x))))) else some false))=some false:=by
  rcases hf2 with⟨rfl,_⟩ | rfl
  ·rfl
  ·rw[show (some (Er.mk 2 [x]):Option Er).isNone=false from rfl,wn,MM.ct];simp only[MM.bs];rw[show Uf [0,1,2,3,4] (Er.mk 2 [x])=true from rfl,XT,MM.cf,show jfq 2 0 (Er.mk 2 [x])=some x from rfl];simp only[MM.bs];rw[Xk trivial,XT]
 rw[ew3];simp only[MM.bs,MM.cf];obtain⟨f3,er3,ea3,hf3⟩:=jhK (P:=P) o h9;rw[ea3];simp only[MM.bs];rw[MM.isEq_self,MM.ct];cases hn:er3.isNone with
 | false=>rfl
 | true=>
  obtain⟨L3',rfl,hL⟩:=hf3 hn;rw[XT,MM.cf];simp only[MM.bs];rw[hL,Xk rfl]
end
theorem law_true (ns:List Int) (hl:ns.length<=63):Vx ns=some true:=by
 unfold Vx;obtain⟨n,P,⟨e,h1,h9,o,_⟩,hP⟩:=jhv ns (m:=9) (by decide) (by decide);have e:yx ns 9=some ((n:Int),zp P):=e;obtain⟨c6,e6⟩:=qx ns 6;have e6:ko ns 6=some c6:=e6;rw[e,e6];simp only[MM.bs];cases decide (c6 % 8=3) with
 | true=>
  rw[MM.ct];obtain⟨m,hm,em⟩:=jdy (c6 / 8) (m:=2) (by decide);have em:c6 / 8 % 2=(m:Int):=em;rw[em];obtain⟨P2,e2,o2,hP2⟩:∃ P2,pAt ([([(0,1),(1,2)]:List (Int×Int)),([(0,1),(2,3)]:List (Int×Int))]:List (List (Int×Int))) (m:Int)=some (zp P2)/\Ok P2 7/\P2.length<=300:=by
   have:m=0 \/ m=1:=by omega
   rcases this with rfl | rfl
   ·exact⟨[(0,1),(1,2)],MM.at_nat rfl,fun p hp=>by simp at hp; rcases hp with rfl | rfl <;> decide,by decide⟩
   ·exact⟨[(0,1),(2,3)],MM.at_nat rfl,fun p hp=>by simp at hp; rcases hp with rfl | rfl <;> decide,by decide⟩
  rw[e2];simp only[MM.bs];have:=jhL (n:=7) ns o2 (by decide) (by decide) hP2;simp only[MM.bs] at this;exact this
 | false=>
  rw[MM.cf];have:=jhL ns o h1 h9 hP;simp only[MM.bs] at this ⊢;exact this
end Lw
namespace Lw
open PySem L2 L3
def top (i:Nat):Stmt:=PySem.Challenge.pw_toggleclock_k25_lines_refused.main.body.getD i (.Pass ⟨0,0,0,0⟩)
section
variable {P:Program}{f:Addr} 
theorem sc__law_cell:FnScope ["_law_script","_law_k","_law_cell_here","_law_low"] ["_law_script","_law_k"] (jo (top 33)):=⟨rfl,rfl,rfl,by decide +kernel,rfl,by decide +kernel,by decide +kernel⟩
theorem VE (B:Bi mg) (Fn:Fun K "_law_cell" "_law_cell" (top 33) f fd):FnOk P w K mg base CX0 1 f fd ["_law_script","_law_k"] (sp2 K (pF cScr) (pF cI) (rF cI) ko):=by
 refine Fn.ok sc__law_cell (fun vs H Q E h=>?_) (fun cdv A outer s H0 vs Q E_ hr h=>?_)
 ·obtain⟨_,_,_,_,_,_,rfl,_⟩:=h;rfl
 ·obtain⟨script,k_,qC,V_k_,Fe,R,rfl,S_,jc,P_k_,Hm,Kk⟩:=h;have nd:=sc__law_cell.nd;have hu:=qd hr;refine⟨_,(jm (kU (PW.pt (ZL (jV xI (jH jO rfl B.len_ (by kernel_rfl) (ja (pv 0) jh)) jl (kh _)) (UI (jV xI (jw kL (xt qy (pv 0) jl (fun _ _=>rfl)) jl) jl (kh _))))) (jn (j7 (WP (jV G1 (pv 1) (jH jO rfl B.len_ (by kernel_rfl) (ja (pv 0) jh)) (kh _)) (xt qy (pv 0) (pv 1) (fun _ _=>rfl)) jl))) j8)
   (jm (jI (i:=2) nd rfl (Or.inl rfl) (xt qy (pv 0) (jw kL (pv 1) (jH jO rfl B.len_ (by kernel_rfl) (ja (pv 0) jh))) (fun _ _=>rfl)))
   (jm (jI (i:=3) nd rfl (Or.inl rfl) (jw kL (jw GC (jw kD (pv 2) (jw GC jl (jw kD (pv 1) jl))) jl) jl))
   (jn (j7 (jw kD (jw GC (jw qR (jw kL (pv 2) (jw G0 jl jl)) jl) jl) (pv 3))))))),?_⟩
  try dsimp only[qA]
  have X:Ext Fe H0 Fe H0:=Ext.refl S_;unfold ko at Hm;replace jc:cScr.rep K Fe script qC:=jc;obtain rfl:V_k_=.int k_:=P_k_;refine(ZE (K:=K) (Ji (kE (jf xb (jR xW (U4 (jj (p:=pF cScr) (i:=0) rfl jc)) rfl) (jk _) rfl)) (kE (jy xb (q9 (by decide) (jf zz (U4 (jj (p:=pF cScr) (i:=0) rfl jc)) (jk _) rfl) (jk _) rfl) (jk _) rfl)) rfl) X Hm ?_ ?_)
  ·intro F H Hm E X
   try dsimp only[wm] at Hm
   replace jc:=E.xc jc;exact kc (K:=K) (U_ (kE (jf xL (jJ (i:=1) rfl) (jR xW (U4 (jj (p:=pF cScr) (i:=0) rfl jc)) rfl) rfl)) (jf zz (U4 (jj (p:=pF cScr) (i:=0) rfl jc)) (jJ (i:=1) rfl) rfl) (jk _) rfl) X Hm Kk
  ·intro F H Hm E X
   try dsimp only[wb] at Hm
   replace jc:=E.xc jc;refine yG ?_;refine(qp (K:=K) (jy zz (U4 (jj (p:=pF cScr) (i:=0) rfl jc)) (jf Gn (jJ (i:=1) rfl) (jR xW (U4 (jj (p:=pF cScr) (i:=0) rfl jc)) rfl) rfl) rfl) X Hm ?_);intro cell_here F H Hm E X;refine(qp (K:=K) (qi (by decide) (Jg ⟨by decide,by decide⟩ (jf jY (jJ (i:=2) rfl) (V8 ⟨by decide,by decide⟩ (jk _) (jf jY (jJ (i:=1) rfl) (jk _) rfl) rfl) rfl) (jk _) rfl) (jk _) rfl) X Hm ?_);intro low F H Hm E X;exact kc (K:=K) (jf jY (Jg ⟨by decide,by decide⟩ (qT ⟨by decide,by decide⟩ (qi (by decide) (jJ (i:=2) rfl) (xN (i:=10) (j:=60) ⟨by decide,by decide,by decide⟩ (jk _) (jk _) rfl) rfl) (jk _) rfl) (jk _) rfl) (jJ (i:=3) rfl) rfl) X Hm Kk
theorem sc__law_any_order:FnScope ["_law_script","_law_most","_law_n","_law_bits","_law_pairs","_law_high","_law_low"] ["_law_script","_law_most"] (jo (top 36)):=⟨rfl,rfl,rfl,by decide +kernel,rfl,by decide +kernel,by decide +kernel⟩
theorem Gw (B:Bi mg) (Fn:Fun K "_law_any_order" "_law_any_order" (top 36) f fd) (jU:Def P w K mg base "_law_cell" 1 ["_law_script","_law_k"] (sp2 K (pF cScr) (pF cI) (rF cI) ko)):FnOk P w K mg base CX0 2 f fd ["_law_script","_law_most"] (sp2 K (pF cScr) (pF cI) (rF (cP cI (cL (cP cI cI)))) qk):=by
 refine Fn.ok sc__law_any_order (fun vs H Q E h=>?_) (fun cdv A outer s H0 vs Q E_ hr h=>?_)
 ·obtain⟨_,_,_,_,_,_,rfl,_⟩:=h;rfl
 ·obtain⟨script,most,qC,jbQ,Fe,R,rfl,S_,jc,jbR,Hm,Kk⟩:=h;have nd:=sc__law_any_order.nd;have hu:=qd hr;refine⟨_,(jm (jI (i:=2) nd rfl (Or.inl rfl) (jw kD jl (jw kL (jw qR (jQ jU (hr.mono (by decide)) rfl (ja (pv 0) (ja jl jh))) jl) (jH (UP rfl) rfl B.min_ (by kernel_rfl) (ja (pv 1) (ja jl jh))))))
   (jm (jI (i:=3) nd rfl (Or.inl rfl) (jQ jU (hr.mono (by decide)) rfl (ja (pv 0) (ja jl jh))))
   (jm (jI (i:=4) nd rfl (Or.inl rfl) (qM jh))
   (jm (qB PassesOwn.never rfl (kr rfl B.range_ (ja (pv 2) jh)) (jG (i:=5) nd rfl (Or.inl rfl)) (jn (qB PassesOwn.never rfl (kr rfl B.range_ (ja (pv 5) jh)) (jG (i:=6) nd rfl (Or.inl rfl)) (jm (yN (kU (jV xI (jw kL (pv 3) jl) jl (kh _)) (jn (xi (JX XZ wf we qO (pv 4) (ja (kP (ja (pv 6) (ja (pv 5) jh))) jh)))) j8))
   (jn (jI (i:=3) nd rfl (Or.inl rfl) (jw qR (pv 3) jl)))))))
   (jn (j7 (kP (ja (pv 2) (ja (pv 4) jh))))))))),?_⟩
  try dsimp only[qA]
  have X:Ext Fe H0 Fe H0:=Ext.refl S_;unfold qk at Hm;replace jc:cScr.rep K Fe script qC:=jc;obtain rfl:jbQ=.int most:=jbR;refine(qp (K:=K) (jy jY (jk _) (jy Gn (Jh ⟨by decide,by decide⟩ (ju (jj (p:=pF cScr) (i:=0) rfl jc) (jk _) rfl) (jk _) rfl) (Qu jd2 (jJ (i:=1) rfl) (jk _) rfl) rfl) rfl) X Hm ?_);intro n_ F H Hm E X;replace jc:=E.xc jc;refine(qp (K:=K) (ju (jj (p:=pF cScr) (i:=0) rfl jc) (jk _) rfl) X Hm ?_);intro bits F H Hm E X;refine(GF (K:=K) (qN (kG (c:=(cP cI cI))) (by decide)) X Hm ?_);intro pairs jL F H Hm E X Hn jt;refine Jf (K:=K) (c:=cI) ?_ X Hm (fun F1 b σ' F' H'=>match b with | (bits,pairs)=>∃ (jL:Addr) (w6_:Option V) (w7_:Option V),σ'=[some qC,some (.int most),some (.int n_),some (.int bits),some (.ref jL),w6_,w7_]/\(Ext Fe H0 F' H'/\Same F1 F')/\Own K H0 F' H' (cP cI cI) pairs jL) ?_ ?_ ?_ ?_
  ·exact(kI (jJ (i:=2) rfl) rfl)
  ·intro F H E X;replace jt:=jt.mono E;exact⟨_,_,_,rfl,⟨X,(Same.refl _)⟩,jt⟩
  ·rintro F1 ⟨bits,pairs⟩ σ_ F_ H_ ⟨jL,w6_,w7_,rfl,⟨X_,SF_⟩,jt⟩;exact⟨X_,SF_⟩
  ·rintro F1 S0_ ⟨bits,pairs⟩ B_ high yZ σ_ F_ H_ F H ⟨jL,w6_,w7_,rfl,⟨X,SF_⟩,jt⟩ E y0 Hm
   try dsimp only at Hm
   have SL0:=SF_;replace SF_:=Same.trans S0_ SF_;replace X:=Ext.trans X E;replace jt:=jt.mono E;replace SL0:=E.xd SL0;obtain rfl:yZ=.int high:=y0;refine qX ?_;refine GE (K:=K) (c:=cI) ?_ X Hm (fun F1 b σ' F' H'=>match b with | (bits,pairs)=>∃ (jL:Addr) (w9_:Option V),σ'=[some qC,some (.int most),some (.int n_),some (.int bits),some (.ref jL),some (.int high),w9_]/\(Ext Fe H0 F' H'/\Same F1 F')/\Own K H0 F' H' (cP cI cI) pairs jL) ?_ ?_ ?_ ?_
   ·exact(kI (jJ (i:=5) rfl) rfl)
   ·intro F H E X;replace jt:=jt.mono E;exact⟨_,_,rfl,⟨X,(Same.refl _)⟩,jt⟩
   ·rintro F1 ⟨bits,pairs⟩ σ_ F_ H_ ⟨jL,w9_,rfl,⟨X_,SF_⟩,jt⟩;exact⟨X_,SF_⟩
   ·rintro F1 S0_ ⟨bits,pairs⟩ B_ low JJ σ_ F_ H_ F H ⟨jL,w9_,rfl,⟨X,SF_⟩,jt⟩ E JK Hm
    try dsimp only at Hm
    have SL1:=SF_;replace SF_:=Same.trans S0_ SF_;replace X:=Ext.trans X E;replace jt:=jt.mono E;replace SL1:=E.xd SL1;obtain rfl:JJ=.int low:=JK;refine qX ?_;refine(jaw (K:=K) (fun pairs σ' H'=>∃ F':Hp,∃ (jL:Addr),σ'=[some qC,some (.int most),some (.int n_),some (.int bits),some (.ref jL),some (.int high),some (.int low)]/\(Ext Fe H0 F' H'/\Same F F')/\Own K H0 F' H' (cP cI cI) pairs jL) (kE (jf xb (qi (by decide) (jJ (i:=3) rfl) (jk _) rfl) (jk _) rfl)) X Hm ?_ ?_ ?_)
    ·intro B_ F H Hm E X;replace jt:=jt.mono E;have SJ2:=E.f;refine(yr (K:=K) (k':=4) rfl jt (kW (jJ (i:=6) rfl) (jJ (i:=5) rfl) rfl) X Hm ?_);intro pairs F H Hm Cg X jt;replace SJ2:=Same.trans SJ2 Cg.f;cases Hm;exact⟨F,_,rfl,⟨X,SJ2⟩,jt⟩
    ·intro B_ F H Hm E X;replace jt:=jt.mono E;have SJ2:=E.f;refine yG ?_;cases Hm;exact⟨F,_,rfl,⟨X,SJ2⟩,jt⟩
    ·rintro pairs σ_ H Hm ⟨F,jL,rfl,⟨X,SF_⟩,jt⟩
     try dsimp only at Hm
     replace SL1:=Same.trans SL1 SF_;refine(yP (K:=K) (qT ⟨by decide,by decide⟩ (jJ (i:=3) rfl) (jk _) rfl) X Hm ?_);intro bits F H Hm E X;replace jt:=jt.mono E;replace SL1:=E.xd SL1;cases Hm;exact⟨F,_,_,rfl,⟨X,SL1⟩,jt⟩
   ·rintro F1 S0_ ⟨bits,pairs⟩ σ_ F H Hm ⟨jL,w9_,rfl,⟨X,SF_⟩,jt⟩
    try dsimp only at Hm
    replace SF_:=Same.trans S0_ SF_;replace SL0:=Same.trans SL0 SF_;cases Hm;exact⟨F,_,_,_,rfl,⟨X,SL0⟩,jt⟩
  ·rintro F1 S0_ ⟨bits,pairs⟩ σ_ F H Hm ⟨jL,w6_,w7_,rfl,⟨X,SF_⟩,jt⟩
   try dsimp only at Hm
   obtain⟨F,X,Cg,jC⟩:=Own.freeze jt X;clear jt;exact kc (K:=K) (kW (jJ (i:=2) rfl) (jj (p:=pF (cL (cP cI cI))) (i:=4) rfl jC) rfl) X Hm Kk
theorem sc__law_grid:FnScope ["_law_rows","_law_columns","_law_pairs","_law_r","_law_c"] ["_law_rows","_law_columns"] (jo (top 35)):=⟨rfl,rfl,rfl,by decide +kernel,rfl,by decide +kernel,by decide +kernel⟩
theorem VF (B:Bi mg) (Fn:Fun K "_law_grid" "_law_grid" (top 35) f fd):FnOk P w K mg base CX0 1 f fd ["_law_rows","_law_columns"] (sp2 K (pF cI) (pF cI) (rO (cP cI cI)) GJ):=by
 refine Fn.ok sc__law_grid (fun vs H Q E h=>?_) (fun cdv A outer s H0 vs Q E_ hr h=>?_)
 ·obtain⟨_,_,_,_,_,_,rfl,_⟩:=h;rfl
 ·obtain⟨yc,columns,jhO,jbS,Fe,R,rfl,S_,jhP,jbT,Hm,Kk⟩:=h;have nd:=sc__law_grid.nd;have hu:=qd hr;refine⟨_,(jm (jI (i:=2) nd rfl (Or.inl rfl) (qM jh))
   (jm (qB PassesOwn.never rfl (kr rfl B.range_ (ja (pv 0) jh)) (jG (i:=3) nd rfl (Or.inl rfl)) (jn (qB PassesOwn.never rfl (kr rfl B.range_ (ja (pv 1) jh)) (jG (i:=4) nd rfl (Or.inl rfl)) (jm (yN (kU (jV G1 (jw kD (pv 4) jl) (pv 1) (kh _)) (jn (xi (JX XZ wf we qO (pv 2) (ja (kP (ja (jw kD (jw GC (pv 3) (pv 1)) (pv 4)) (ja (jw kD (jw kD (jw GC (pv 3) (pv 1)) (pv 4)) jl) jh))) jh)))) j8))
   (jn (yN (kU (jV G1 (jw kD (pv 3) jl) (pv 0) (kh _)) (jn (xi (JX XZ wf we qO (pv 2) (ja (kP (ja (jw kD (jw GC (pv 3) (pv 1)) (pv 4)) (ja (jw kD (jw kD (jw GC (pv 3) (pv 1)) (pv 1)) (pv 4)) jh))) jh)))) j8)))))))
   (jn (j7 (pv 2))))),?_⟩
  try dsimp only[qA]
  have X:Ext Fe H0 Fe H0:=Ext.refl S_;unfold GJ at Hm;obtain rfl:jhO=.int yc:=jhP;obtain rfl:jbS=.int columns:=jbT;refine(GF (K:=K) (qN (kG (c:=(cP cI cI))) (by decide)) X Hm ?_);intro pairs jL F H Hm E X Hn jt;refine Jf (K:=K) (c:=cI) ?_ X Hm (fun F1 pairs σ' F' H'=>∃ (jL:Addr) (w1_:Option V) (w2_:Option V),σ'=[some (.int yc),some (.int columns),some (.ref jL),w1_,w2_]/\(Ext Fe H0 F' H'/\Same F1 F')/\Own K H0 F' H' (cP cI cI) pairs jL) ?_ ?_ ?_ ?_
  ·exact(kI (jJ (i:=0) rfl) rfl)
  ·intro F H E X;replace jt:=jt.mono E;exact⟨_,_,_,rfl,⟨X,(Same.refl _)⟩,jt⟩
  ·rintro F1 pairs σ_ F_ H_ ⟨jL,w1_,w2_,rfl,⟨X_,SF_⟩,jt⟩;exact⟨X_,SF_⟩
  ·rintro F1 S0_ pairs B_ r_ V_r_ σ_ F_ H_ F H ⟨jL,w1_,w2_,rfl,⟨X,SF_⟩,jt⟩ E P_r_ Hm
   try dsimp only at Hm
   have SL0:=SF_;replace SF_:=Same.trans S0_ SF_;replace X:=Ext.trans X E;replace jt:=jt.mono E;replace SL0:=E.xd SL0;obtain rfl:V_r_=.int r_:=P_r_;refine qX ?_;refine GE (K:=K) (c:=cI) ?_ X Hm (fun F1 pairs σ' F' H'=>∃ (jL:Addr) (w3_:Option V),σ'=[some (.int yc),some (.int columns),some (.ref jL),some (.int r_),w3_]/\(Ext Fe H0 F' H'/\Same F1 F')/\Own K H0 F' H' (cP cI cI) pairs jL) ?_ ?_ ?_ ?_
   ·exact(kI (jJ (i:=1) rfl) rfl)
   ·intro F H E X;replace jt:=jt.mono E;exact⟨_,_,rfl,⟨X,(Same.refl _)⟩,jt⟩
   ·rintro F1 pairs σ_ F_ H_ ⟨jL,w3_,rfl,⟨X_,SF_⟩,jt⟩;exact⟨X_,SF_⟩
   ·rintro F1 S0_ pairs B_ c_ V_c_ σ_ F_ H_ F H ⟨jL,w3_,rfl,⟨X,SF_⟩,jt⟩ E P_c_ Hm
    try dsimp only at Hm
    have SL1:=SF_;replace SF_:=Same.trans S0_ SF_;replace X:=Ext.trans X E;replace jt:=jt.mono E;replace SL1:=E.xd SL1;obtain rfl:V_c_=.int c_:=P_c_;refine qX ?_;refine(jaw (K:=K) (fun pairs σ' H'=>∃ F':Hp,∃ (jL:Addr),σ'=[some (.int yc),some (.int columns),some (.ref jL),some (.int r_),some (.int c_)]/\(Ext Fe H0 F' H'/\Same F F')/\Own K H0 F' H' (cP cI cI) pairs jL) (kE (jf xL (jf jY (jJ (i:=4) rfl) (jk _) rfl) (jJ (i:=1) rfl) rfl)) X Hm ?_ ?_ ?_)
    ·intro B_ F H Hm E X;replace jt:=jt.mono E;have SJ2:=E.f;refine(yQ (K:=K) (i:=2) rfl jt (yj (jy jY (jf V3 (jJ (i:=3) rfl) (jJ (i:=1) rfl) rfl) (jJ (i:=4) rfl) rfl) (jy jY (jy jY (jf V3 (jJ (i:=3) rfl) (jJ (i:=1) rfl) rfl) (jJ (i:=4) rfl) rfl) (jk _) rfl) rfl) X Hm ?_);intro pairs F H Hm Cg X jt;replace SJ2:=Same.trans SJ2 Cg.f;cases Hm;exact⟨F,_,rfl,⟨X,SJ2⟩,jt⟩
    ·intro B_ F H Hm E X;replace jt:=jt.mono E;have SJ2:=E.f;refine yG ?_;cases Hm;exact⟨F,_,rfl,⟨X,SJ2⟩,jt⟩
    ·rintro pairs σ_ H Hm ⟨F,jL,rfl,⟨X,SF_⟩,jt⟩
     try dsimp only at Hm
     replace SL1:=Same.trans SL1 SF_;refine(Q6 (K:=K) (fun pairs σ' H'=>∃ F':Hp,∃ (jL:Addr),σ'=[some (.int yc),some (.int columns),some (.ref jL),some (.int r_),some (.int c_)]/\(Ext Fe H0 F' H'/\Same F F')/\Own K H0 F' H' (cP cI cI) pairs jL) (kE (jf xL (jf jY (jJ (i:=3) rfl) (jk _) rfl) (jJ (i:=0) rfl) rfl)) X Hm ?_ ?_ ?_)
     ·intro B_ F H Hm E X;replace jt:=jt.mono E;have SJ2:=E.f;refine(yQ (K:=K) (i:=2) rfl jt (yj (jy jY (jf V3 (jJ (i:=3) rfl) (jJ (i:=1) rfl) rfl) (jJ (i:=4) rfl) rfl) (jy jY (jy jY (jf V3 (jJ (i:=3) rfl) (jJ (i:=1) rfl) rfl) (jJ (i:=1) rfl) rfl) (jJ (i:=4) rfl) rfl) rfl) X Hm ?_);intro pairs F H Hm Cg X jt;replace SJ2:=Same.trans SJ2 Cg.f;cases Hm;exact⟨F,_,rfl,⟨X,SJ2⟩,jt⟩
     ·intro B_ F H Hm E X;replace jt:=jt.mono E;have SJ2:=E.f;refine yG ?_;cases Hm;exact⟨F,_,rfl,⟨X,SJ2⟩,jt⟩
     ·rintro pairs σ_ H Hm ⟨F,jL,rfl,⟨X,SF_⟩,jt⟩
      try dsimp only at Hm
      replace SL1:=Same.trans SL1 SF_;cases Hm;exact⟨F,_,_,rfl,⟨X,SL1⟩,jt⟩
   ·rintro F1 S0_ pairs σ_ F H Hm ⟨jL,w3_,rfl,⟨X,SF_⟩,jt⟩
    try dsimp only at Hm
    replace SF_:=Same.trans S0_ SF_;replace SL0:=Same.trans SL0 SF_;cases Hm;exact⟨F,_,_,_,rfl,⟨X,SL0⟩,jt⟩
  ·rintro F1 S0_ pairs σ_ F H Hm ⟨jL,w1_,w2_,rfl,⟨X,SF_⟩,jt⟩
   try dsimp only at Hm
   exact jal (K:=K) (i:=2) rfl jt X Hm Kk
theorem sc__law_order:FnScope ["_law_script","_law_most","_law_kind","_law_n","_law_rows","_law_columns","_law_pairs","_law_k","_law_cell_here","_law_low"] ["_law_script","_law_most"] (jo (top 37)):=⟨rfl,rfl,rfl,by decide +kernel,rfl,by decide +kernel,by decide +kernel⟩
theorem Ut (B:Bi mg) (Fn:Fun K "_law_order" "_law_order" (top 37) f fd) (xA:Def P w K mg base "_law_any_order" 2 ["_law_script","_law_most"] (sp2 K (pF cScr) (pF cI) (rF (cP cI (cL (cP cI cI)))) qk)) (jU:Def P w K mg base "_law_cell" 1 ["_law_script","_law_k"] (sp2 K (pF cScr) (pF cI) (rF cI) ko)) (zG:Def P w K mg base "_law_grid" 1 ["_law_rows","_law_columns"] (sp2 K (pF cI) (pF cI) (rO (cP cI cI)) GJ)):FnOk P w K mg base CX0 3 f fd ["_law_script","_law_most"] (sp2 K (pF cScr) (pF cI) (rF (cP cI (cL (cP cI cI)))) yx):=by
 refine Fn.ok sc__law_order (fun vs H Q E h=>?_) (fun cdv A outer s H0 vs Q E_ hr h=>?_)
 ·obtain⟨_,_,_,_,_,_,rfl,_⟩:=h;rfl
 ·obtain⟨script,most,qC,jbQ,Fe,R,rfl,S_,jc,jbR,Hm,Kk⟩:=h;have nd:=sc__law_order.nd;have hu:=qd hr;refine⟨_,(jm (kU (PW.pt (ZL (jV xI (jH jO rfl B.len_ (by kernel_rfl) (ja (pv 0) jh)) jl (kh _)) (UI (jV xI (jw kL (xt qy (pv 0) jl (fun _ _=>rfl)) jl) jl (kh _))))) (jn (j7 (jQ xA (hr.mono (by decide)) rfl (ja (pv 0) (ja (pv 1) jh))))) j8)
   (jm (jI (i:=2) nd rfl (Or.inl rfl) (jw kL (jQ jU (hr.mono (by decide)) rfl (ja (pv 0) (ja jl jh))) jl))
   (jm (jI (i:=3) nd rfl (Or.inl rfl) (jw kD jl (jw kL (jQ jU (hr.mono (by decide)) rfl (ja (pv 0) (ja jl jh))) (pv 1))))
   (jm (yN (kU (PW.pt (Qm (jV (Z_ hu) (pv 2) (kP (ja jl (ja jl jh))) (by with_unfolding_all rfl)) (Gg (jV UO (jw kL (jw qR (jQ jU (hr.mono (by decide)) rfl (ja (pv 0) (ja jl jh))) jl) jl) jl (kh _))))) (jn (jI (i:=3) nd rfl (Or.inl rfl) (jH (UP rfl) rfl B.min_ (by kernel_rfl) (ja (pv 3) (ja jl jh))))) j8))
   (jm (kU (jV xI (pv 2) jl (kh _)) (jm (jI (i:=4) nd rfl (Or.inl rfl) (jw kD jl (jw kL (jQ jU (hr.mono (by decide)) rfl (ja (pv 0) (ja jl jh))) jl)))
   (jm (jI (i:=5) nd rfl (Or.inl rfl) (jw kD jl (jw kL (jQ jU (hr.mono (by decide)) rfl (ja (pv 0) (ja jl jh))) (jw qR (pv 1) (pv 4)))))
   (jn (j7 (kP (ja (jw GC (pv 4) (pv 5)) (ja (jQ zG (hr.mono (by decide)) rfl (ja (pv 4) (ja (pv 5) jh))) jh))))))) j8)
   (jm (kU (jV xI (pv 2) jl (kh _)) (jn (j7 (kP (ja (pv 3) (ja (xy (own:=["_law_k"]) (ix:=[]) (xK rfl) rfl (kr rfl B.range_ (ja (jw zQ (pv 3) jl) jh)) (fun _=>(jG (i:=0) (show List.Nodup (["_law_k"]:List Str) by decide +kernel) rfl (Or.inl rfl))) (fun _=>xJ) (fun _=>(kP (ja (pv 0) (ja (jw kD (pv 0) jl) jh))))) jh))))) j8)
   (jm (jI (i:=6) nd rfl (Or.inl rfl) (qM jh))
   (jm (yN (kU (PW.pt (Qm (jV UO (pv 2) jl (kh _)) (Gg (jV UO (pv 3) jl (kh _))))) (jn (qB PassesOwn.never rfl (kr rfl B.range_ (ja (xt qy (qM (ja (jw kL (jQ jU (hr.mono (by decide)) rfl (ja (pv 0) (ja jl jh))) jl) (ja (jw kD jl (jw kL (jQ jU (hr.mono (by decide)) rfl (ja (pv 0) (ja jl jh))) jl)) jh))) (jw zQ (pv 2) jl) (fun _ _=>rfl)) jh)) (jG (i:=7) nd rfl (Or.inl rfl)) (jm (jI (i:=8) nd rfl (Or.inl rfl) (jQ jU (hr.mono (by decide)) rfl (ja (pv 0) (ja (jw kD jl (pv 7)) jh))))
   (jm (jI (i:=9) nd rfl (Or.inl rfl) (jw kL (pv 8) (jw zQ (pv 3) jl)))
   (jn (xi (JX XZ wf we qO (pv 6) (ja (kP (ja (pv 9) (ja (jw kD (jw kD (pv 9) jl) (jw kL (jw qR (pv 8) jl) (jw zQ (jw zQ (pv 3) jl) (pv 9)))) jh))) jh)))))))) j8))
   (jn (j7 (kP (ja (pv 3) (ja (pv 6) jh))))))))))))),?_⟩
  try dsimp only[qA]
  have X:Ext Fe H0 Fe H0:=Ext.refl S_;unfold yx at Hm;replace jc:cScr.rep K Fe script qC:=jc;obtain rfl:jbQ=.int most:=jbR;refine(ZE (K:=K) (Ji (kE (jf xb (jR xW (U4 (jj (p:=pF cScr) (i:=0) rfl jc)) rfl) (jk _) rfl)) (kE (jy xb (q9 (by decide) (jf zz (U4 (jj (p:=pF cScr) (i:=0) rfl jc)) (jk _) rfl) (jk _) rfl) (jk _) rfl)) rfl) X Hm ?_ ?_)
  ·intro F H Hm E X
   try dsimp only[wm] at Hm
   replace jc:=E.xc jc;exact kc (K:=K) (ju (jj (p:=pF cScr) (i:=0) rfl jc) (jJ (i:=1) rfl) rfl) X Hm Kk
  ·intro F H Hm E X
   try dsimp only[wb] at Hm
   replace jc:=E.xc jc;refine yG ?_;refine(qp (K:=K) (q9 (by decide) (ju (jj (p:=pF cScr) (i:=0) rfl jc) (jk _) rfl) (jk _) rfl) X Hm ?_);intro kind F H Hm E X;replace jc:=E.xc jc;refine(qp (K:=K) (jy jY (jk _) (jy Gn (ju (jj (p:=pF cScr) (i:=0) rfl jc) (jk _) rfl) (jJ (i:=1) rfl) rfl) rfl) X Hm ?_);intro n_ F H Hm E X;replace jc:=E.xc jc;refine(jgM (K:=K) (fun n_ σ' H'=>∃ F':Hp,σ'=[some qC,some (.int most),some (.int kind),some (.int n_),none,none,none,none,none,none]/\(Ext Fe H0 F' H'/\Same F F')) (yk (kE (jf (jeT eqI (by decide)) (GO (jJ (i:=2) rfl)) (GO (ya (jx (jk _) (jx (jk _) (kG (c:=cI)) rfl) rfl) (by decide))) rfl)) (kE (jy xL (q9 (by decide) (Jh ⟨by decide,by decide⟩ (ju (jj (p:=pF cScr) (i:=0) rfl jc) (jk _) rfl) (jk _) rfl) (jk _) rfl) (jk _) rfl)) rfl) X Hm ?_ ?_ ?_)
   ·intro B_ F H Hm E X;have SJ0:=E.f;refine(yP (K:=K) (Qu jd2 (jJ (i:=3) rfl) (jk _) rfl) X Hm ?_);intro n_ F H Hm E X;replace SJ0:=E.xd SJ0;cases Hm;exact⟨F,rfl,⟨X,SJ0⟩⟩
   ·intro B_ F H Hm E X;have SJ0:=E.f;refine yG ?_;cases Hm;exact⟨F,rfl,⟨X,SJ0⟩⟩
   ·rintro n_ σ_ H Hm ⟨F,rfl,⟨X,SF_⟩⟩
    try dsimp only at Hm
    replace jc:=Cd.mono _ SF_ jc;refine(Je (K:=K) (kE (jf xb (jJ (i:=2) rfl) (jk _) rfl)) X Hm ?_ ?_)
    ·intro F H Hc Hm E X;replace jc:=E.xc jc;refine(qp (K:=K) (jy jY (jk _) (q9 (by decide) (ju (jj (p:=pF cScr) (i:=0) rfl jc) (jk _) rfl) (jk _) rfl) rfl) X Hm ?_);intro yc F H Hm E X;replace jc:=E.xc jc;refine(qp (K:=K) (jy jY (jk _) (jy Gn (ju (jj (p:=pF cScr) (i:=0) rfl jc) (jk _) rfl) (jf jeS (jJ (i:=1) rfl) (jJ (i:=4) rfl) rfl) rfl) rfl) X Hm ?_);intro columns F H Hm E X;exact kc (K:=K) (yj (jf V3 (jJ (i:=4) rfl) (jJ (i:=5) rfl) rfl) (xc (ju (jJ (i:=4) rfl) (jJ (i:=5) rfl) rfl)) rfl) X Hm Kk
    ·intro F H Hc Hm E X;replace jc:=E.xc jc;refine yG ?_;refine(Je (K:=K) (kE (jf xb (jJ (i:=2) rfl) (jk _) rfl)) X Hm ?_ ?_)
     ·intro F H Hc Hm E X;exact kc (K:=K) (yj (jJ (i:=3) rfl) (xc (qb (zB (jf jY (jJ (i:=3) rfl) (jk _) rfl) rfl) [] rfl (fun b24 k_ _ _ E23=>yS) (fun b24 k_ _ _ E23=>(kW (jJ (i:=0) rfl) (jf jY (jJ (i:=0) rfl) (jk _) rfl) rfl)) rfl)) rfl) X Hm Kk
     ·intro F H Hc Hm E X;replace jc:=E.xc jc;refine yG ?_;refine(GF (K:=K) (qN (kG (c:=(cP cI cI))) (by decide)) X Hm ?_);intro pairs jL F H Hm E X Hn jt;replace jc:=E.xc jc;refine(jaw (K:=K) (fun pairs σ' H'=>∃ F':Hp,∃ (jL:Addr) (w48_:Option V) (w49_:Option V) (w50_:Option V),σ'=[some qC,some (.int most),some (.int kind),some (.int n_),none,none,some (.ref jL),w48_,w49_,w50_]/\(Ext Fe H0 F' H'/\Same F F')/\Own K H0 F' H' (cP cI cI) pairs jL) (YY (kE (jf xL (jJ (i:=2) rfl) (jk _) rfl)) (kE (jf xL (jJ (i:=3) rfl) (jk _) rfl)) rfl) X Hm ?_ ?_ ?_)
      ·intro B_ F H Hm E X;replace jc:=E.xc jc;replace jt:=jt.mono E;have SJ0:=E.f;refine GE (K:=K) (c:=cI) ?_ X Hm (fun F1 pairs σ' F' H'=>∃ (jL:Addr) (w39_:Option V) (w40_:Option V) (w41_:Option V),σ'=[some qC,some (.int most),some (.int kind),some (.int n_),none,none,some (.ref jL),w39_,w40_,w41_]/\(Ext Fe H0 F' H'/\Same F1 F')/\Own K H0 F' H' (cP cI cI) pairs jL) ?_ ?_ ?_ ?_
       ·exact(Va (jy zz (kZ (xE (qN (xM (q9 (by decide) (ju (jj (p:=pF cScr) (i:=0) rfl jc) (jk _) rfl) (jk _) rfl) (xM (jy jY (jk _) (q9 (by decide) (ju (jj (p:=pF cScr) (i:=0) rfl jc) (jk _) rfl) (jk _) rfl) rfl) (kG (c:=cI)) rfl) rfl) (by decide)))) (jf jY (jJ (i:=2) rfl) (jk _) rfl) rfl) rfl)
       ·intro F H E X;replace jt:=jt.mono E;exact⟨_,_,_,_,rfl,⟨X,(Same.refl _)⟩,jt⟩
       ·rintro F1 pairs σ_ F_ H_ ⟨jL,w39_,w40_,w41_,rfl,⟨X_,SF_⟩,jt⟩;exact⟨X_,SF_⟩
       ·rintro F1 S0_ pairs B_ k_ V_k_ σ_ F_ H_ F H ⟨jL,w39_,w40_,w41_,rfl,⟨X,SF_⟩,jt⟩ E P_k_ Hm
        try dsimp only at Hm
        have SL1:=SF_;replace SF_:=Same.trans S0_ SF_;replace jc:=Cd.mono _ SF_ jc;replace X:=Ext.trans X E;replace jc:=E.xc jc;replace jt:=jt.mono E;replace SL1:=E.xd SL1;obtain rfl:V_k_=.int k_:=P_k_;refine qX ?_;refine(qp (K:=K) (ju (jj (p:=pF cScr) (i:=0) rfl jc) (jf jY (jk _) (jJ (i:=7) rfl) rfl) rfl) X Hm ?_);intro cell_here F H Hm E X;replace jt:=jt.mono E;replace SL1:=E.xd SL1;refine(qp (K:=K) (jf Gn (jJ (i:=8) rfl) (jf jY (jJ (i:=3) rfl) (jk _) rfl) rfl) X Hm ?_);intro low F H Hm E X;replace jt:=jt.mono E;replace SL1:=E.xd SL1;refine(yQ (K:=K) (i:=6) rfl jt (yj (jJ (i:=9) rfl) (jy jY (jf jY (jJ (i:=9) rfl) (jk _) rfl) (jf Gn (qT ⟨by decide,by decide⟩ (jJ (i:=8) rfl) (jk _) rfl) (jf jY (jf jY (jJ (i:=3) rfl) (jk _) rfl) (jJ (i:=9) rfl) rfl) rfl) rfl) rfl) X Hm ?_);intro pairs F H Hm Cg X jt;replace SL1:=Same.trans SL1 Cg.f;cases Hm;exact⟨F,_,_,_,_,rfl,⟨X,SL1⟩,jt⟩
       ·rintro F1 S0_ pairs σ_ F H Hm ⟨jL,w39_,w40_,w41_,rfl,⟨X,SF_⟩,jt⟩
        try dsimp only at Hm
        replace SF_:=Same.trans S0_ SF_;replace SJ0:=Same.trans SJ0 SF_;cases Hm;exact⟨F,_,_,_,_,rfl,⟨X,SJ0⟩,jt⟩
      ·intro B_ F H Hm E X;replace jt:=jt.mono E;have SJ0:=E.f;refine yG ?_;cases Hm;exact⟨F,_,_,_,_,rfl,⟨X,SJ0⟩,jt⟩
      ·rintro pairs σ_ H Hm ⟨F,jL,w48_,w49_,w50_,rfl,⟨X,SF_⟩,jt⟩
       try dsimp only at Hm
       obtain⟨F,X,Cg,jC⟩:=Own.freeze jt X;clear jt;exact kc (K:=K) (kW (jJ (i:=3) rfl) (jj (p:=pF (cL (cP cI cI))) (i:=6) rfl jC) rfl) X Hm Kk
theorem sc__law_below:FnScope ["_law_n","_law_pairs","_law_below_here","_law_high","_law_low","_law_top","_law_thing"] ["_law_n","_law_pairs"] (jo (top 38)):=⟨rfl,rfl,rfl,by decide +kernel,rfl,by decide +kernel,by decide +kernel⟩
theorem Uu (B:Bi mg) (Fn:Fun K "_law_below" "_law_below" (top 38) f fd):FnOk P w K mg base CX0 1 f fd ["_law_n","_law_pairs"] (sp2 K (pF cI) (pB (cP cI cI)) (rO (cL cI)) xz):=by
 refine Fn.ok sc__law_below (fun vs H Q E h=>?_) (fun cdv A outer s H0 vs Q E_ hr h=>?_)
 ·obtain⟨_,_,_,_,_,_,rfl,_⟩:=h;rfl
 ·obtain⟨n_,pairs,V_n_,kN,Fe,R,rfl,S_,P_n_,jC,Hm,Kk⟩:=h;have nd:=sc__law_below.nd;have hu:=qd hr;refine⟨_,(jm (Gk (i:=2) (own:=["_law_k"]) (ix:=[]) (xK rfl) rfl (kr rfl B.range_ (ja (pv 0) jh)) (fun _=>(jG (i:=0) (show List.Nodup (["_law_k"]:List Str) by decide +kernel) rfl (Or.inl rfl))) (fun _=>xJ) (fun _=>(qM jh)) nd rfl rfl)
   (jm (qB PassesOwn.never rfl (kr rfl B.range_ (ja (pv 0) jh)) (jG (i:=3) nd rfl (Or.inl rfl)) (jn (qB PassesOwn.never rfl (qS (pv 1)) (zP rfl (kx (jG (i:=4) nd rfl (Or.inl rfl)) (kx (jG (i:=5) nd rfl (Or.inl rfl)) yo))) (jn (yN (kU (jV xI (pv 5) (pv 3) (kh _)) (jn (qB PassesOwn.never rfl (qS (jw jgs (xt qy (pv 2) (pv 4) (fun _ _=>rfl)) (qM (ja (pv 4) jh)))) (jG (i:=6) nd rfl (Or.inl rfl)) (jn (yN (kU (jV (U3 hu) (pv 6) (xt qy (pv 2) (pv 3) (fun _ _=>rfl)) (by with_unfolding_all rfl)) (jn (xi (JX XZ wf we qO (xt qy (pv 2) (pv 3) (fun _ _=>rfl)) (ja (pv 6) jh)))) j8))))) j8))))))
   (jn (j7 (pv 2))))),?_⟩
  try dsimp only[qA]
  have X:Ext Fe H0 Fe H0:=Ext.refl S_;unfold xz at Hm;obtain rfl:V_n_=.int n_:=P_n_;have js:Bor K H0 Fe (cP cI cI) pairs kN:=jC;clear jC;refine(jfh (K:=K) (Wb (zB (jJ (i:=0) rfl) rfl) [] rfl (fun b2 k_ _ _ E1=>yS) (fun b2 k_ _ _ E1=>(qN (kG (c:=cI)) (by decide))) rfl) X Hm ?_);intro below_here jD F H Hm E X Hn jq;replace js:=E.xb js;refine Jf (K:=K) (c:=cI) ?_ X Hm (fun F1 below_here σ' F' H'=>∃ (jD:Addr) (w4_:Option V) (w5_:Option V) (w6_:Option V) (w7_:Option V),σ'=[some (.int n_),some kN,some (.ref jD),w4_,w5_,w6_,w7_]/\(Ext Fe H0 F' H'/\Same F1 F')/\Own2 K H0 F' H' cI below_here jD) ?_ ?_ ?_ ?_
  ·exact(kI (jJ (i:=0) rfl) rfl)
  ·intro F H E X;replace jq:=Own2.mono jq E;exact⟨_,_,_,_,_,rfl,⟨X,(Same.refl _)⟩,jq⟩
  ·rintro F1 below_here σ_ F_ H_ ⟨jD,w4_,w5_,w6_,w7_,rfl,⟨X_,SF_⟩,jq⟩;exact⟨X_,SF_⟩
  ·rintro F1 S0_ below_here B_ high yZ σ_ F_ H_ F H ⟨jD,w4_,w5_,w6_,w7_,rfl,⟨X,SF_⟩,jq⟩ E y0 Hm
   try dsimp only at Hm
   have SL0:=SF_;replace SF_:=Same.trans S0_ SF_;replace js:=Bor.mono js SF_;replace X:=Ext.trans X E;replace js:=E.xb js;replace jq:=Own2.mono jq E;replace SL0:=E.xd SL0;obtain rfl:yZ=.int high:=y0;refine qX ?_;refine W9 (K:=K) (c:=(cP cI cI)) ?_ X Hm (fun F1 below_here σ' F' H'=>∃ (jD:Addr) (w8_:Option V) (w9_:Option V) (w10_:Option V),σ'=[some (.int n_),some kN,some (.ref jD),some (.int high),w8_,w9_,w10_]/\(Ext Fe H0 F' H'/\Same F1 F')/\Own2 K H0 F' H' cI below_here jD) ?_ ?_ ?_ ?_
   ·exact(jan (i:=1) rfl js)
   ·intro F H E X;replace jq:=Own2.mono jq E;exact⟨_,_,_,_,rfl,⟨X,(Same.refl _)⟩,jq⟩
   ·rintro F1 below_here σ_ F_ H_ ⟨jD,w8_,w9_,w10_,rfl,⟨X_,SF_⟩,jq⟩;exact⟨X_,SF_⟩
   ·rintro F1 S0_ below_here B_ ⟨low,top⟩ ji9 σ_ F_ H_ F H ⟨jD,w8_,w9_,w10_,rfl,⟨X,SF_⟩,jq⟩ E jiD Hm
    try dsimp only at Hm
    have SL1:=SF_;replace SF_:=Same.trans S0_ SF_;replace X:=Ext.trans X E;replace jq:=Own2.mono jq E;replace SL1:=E.xd SL1;refine W5 jiD X.sub fun JJ jiE JK jiF=>?_;obtain rfl:JJ=.int low:=JK;obtain rfl:jiE=.int top:=jiF;refine(Q6 (K:=K) (fun below_here σ' H'=>∃ F':Hp,∃ (jD:Addr) (w22_:Option V),σ'=[some (.int n_),some kN,some (.ref jD),some (.int high),some (.int low),some (.int top),w22_]/\(Ext Fe H0 F' H'/\Same F F')/\Own2 K H0 F' H' cI below_here jD) (kE (jf xb (jJ (i:=5) rfl) (jJ (i:=3) rfl) rfl)) X Hm ?_ ?_ ?_)
    ·intro B_ F H Hm E X;replace jq:=Own2.mono jq E;have SJ2:=E.f;refine GE (K:=K) (c:=cI) ?_ X Hm (fun F1 below_here σ' F' H'=>∃ (jD:Addr) (w14_:Option V),σ'=[some (.int n_),some kN,some (.ref jD),some (.int high),some (.int low),some (.int top),w14_]/\(Ext Fe H0 F' H'/\Same F1 F')/\Own2 K H0 F' H' cI below_here jD) ?_ ?_ ?_ ?_
     ·exact(V6 (xc (jy jij (Qy (k':=2) rfl jq (jJ (i:=4) rfl) rfl) (xE (qN (jx (jJ (i:=4) rfl) (kG (c:=cI)) rfl) (by decide))) rfl)))
     ·intro F H E X;replace jq:=Own2.mono jq E;exact⟨_,_,rfl,⟨X,(Same.refl _)⟩,jq⟩
     ·rintro F1 below_here σ_ F_ H_ ⟨jD,w14_,rfl,⟨X_,SF_⟩,jq⟩;exact⟨X_,SF_⟩
     ·rintro F1 S0_ below_here B_ thing qU σ_ F_ H_ F H ⟨jD,w14_,rfl,⟨X,SF_⟩,jq⟩ E qV Hm
      try dsimp only at Hm
      have SL3:=SF_;replace SF_:=Same.trans S0_ SF_;replace X:=Ext.trans X E;replace jq:=Own2.mono jq E;replace SL3:=E.xd SL3;obtain rfl:qU=.int thing:=qV;refine qX ?_;refine(U9 (K:=K) (fun below_here σ' H'=>∃ F':Hp,∃ (jD:Addr),σ'=[some (.int n_),some kN,some (.ref jD),some (.int high),some (.int low),some (.int top),some (.int thing)]/\(Ext Fe H0 F' H'/\Same F F')/\Own2 K H0 F' H' cI below_here jD) (kE (jy (jih eqI (by decide)) (GO (jJ (i:=6) rfl)) (U5 (Qy (k':=2) rfl jq (jJ (i:=3) rfl) rfl)) rfl)) X Hm ?_ ?_ ?_)
      ·intro B_ F H Hm E X;replace jq:=Own2.mono jq E;have SJ4:=E.f;refine(jfA (K:=K) (k':=2) rfl jq (jJ (i:=3) rfl) (jJ (i:=6) rfl) X Hm ?_);intro below_here F H Hm Sf X jq;replace SJ4:=Same.trans SJ4 Sf;cases Hm;exact⟨F,_,rfl,⟨X,SJ4⟩,jq⟩
      ·intro B_ F H Hm E X;replace jq:=Own2.mono jq E;have SJ4:=E.f;refine yG ?_;cases Hm;exact⟨F,_,rfl,⟨X,SJ4⟩,jq⟩
      ·rintro below_here σ_ H Hm ⟨F,jD,rfl,⟨X,SF_⟩,jq⟩
       try dsimp only at Hm
       replace SL3:=Same.trans SL3 SF_;cases Hm;exact⟨F,_,_,rfl,⟨X,SL3⟩,jq⟩
     ·rintro F1 S0_ below_here σ_ F H Hm ⟨jD,w14_,rfl,⟨X,SF_⟩,jq⟩
      try dsimp only at Hm
      replace SF_:=Same.trans S0_ SF_;replace SJ2:=Same.trans SJ2 SF_;cases Hm;exact⟨F,_,_,rfl,⟨X,SJ2⟩,jq⟩
    ·intro B_ F H Hm E X;replace jq:=Own2.mono jq E;have SJ2:=E.f;refine yG ?_;cases Hm;exact⟨F,_,_,rfl,⟨X,SJ2⟩,jq⟩
    ·rintro below_here σ_ H Hm ⟨F,jD,w22_,rfl,⟨X,SF_⟩,jq⟩
     try dsimp only at Hm
     replace SL1:=Same.trans SL1 SF_;cases Hm;exact⟨F,_,_,_,_,rfl,⟨X,SL1⟩,jq⟩
   ·rintro F1 S0_ below_here σ_ F H Hm ⟨jD,w8_,w9_,w10_,rfl,⟨X,SF_⟩,jq⟩
    try dsimp only at Hm
    replace SF_:=Same.trans S0_ SF_;replace SL0:=Same.trans SL0 SF_;cases Hm;exact⟨F,_,_,_,_,_,rfl,⟨X,SL0⟩,jq⟩
  ·rintro F1 S0_ below_here σ_ F H Hm ⟨jD,w4_,w5_,w6_,w7_,rfl,⟨X,SF_⟩,jq⟩
   try dsimp only at Hm
   exact jcP (K:=K) (k':=2) rfl jq X Hm Kk
theorem sc_check_parts:FnScope ["many","pairs","low","high"] ["many","pairs"] (jo (top 10)):=⟨rfl,rfl,rfl,by decide +kernel,rfl,by decide +kernel,by decide +kernel⟩
theorem Qf (B:Bi mg) (Fn:Fun K "check_parts" "check_parts" (top 10) f fd) (yz:∃ t,mg "MOST_THINGS"=some (.int 9 t)):FnOk P w K mg base CX0 1 f fd ["many","pairs"] (sp2 K (pF cI) (pB (cP cI cI)) (rF cU) kQ):=by
 refine Fn.ok sc_check_parts (fun vs H Q E h=>?_) (fun cdv A outer s H0 vs Q E_ hr h=>?_)
 ·obtain⟨_,_,_,_,_,_,rfl,_⟩:=h;rfl
 ·obtain⟨many,pairs,JL,kN,Fe,R,rfl,S_,JM,jC,Hm,Kk⟩:=h;obtain⟨t_MOST_THINGS,g_MOST_THINGS⟩:=yz;have nd:=sc_check_parts.nd;have hu:=qd hr;refine⟨_,(jm (kU (yE (QS YB YB jl (pv 0) (xh (v:=.int 9) rfl g_MOST_THINGS ⟨_,rfl⟩))) (jn zO) j8)
   (jn (qB PassesOwn.never rfl (qS (pv 1)) (zP rfl (kx (jG (i:=2) nd rfl (Or.inl rfl)) (kx (jG (i:=3) nd rfl (Or.inl rfl)) yo))) (jn (kU (yE (jab YB G1 G1 jl (pv 2) (pv 3) (pv 0))) (jn zO) j8))))),?_⟩
  try dsimp only[qA]
  have X:Ext Fe H0 Fe H0:=Ext.refl S_;unfold kQ at Hm;obtain rfl:JL=.int many:=JM;have js:Bor K H0 Fe (cP cI cI) pairs kN:=jC;clear jC;refine(Je (K:=K) (Qw (kE (Jj (jk _) (jJ (i:=0) rfl) (jk _) rfl)) rfl) X Hm ?_ ?_)
  ·intro F H Hc Hm E X;cases Hm
  ·intro F H Hc Hm E X;replace js:=E.xb js;refine yG ?_;refine W9 (K:=K) (c:=(cP cI cI)) ?_ X Hm (fun F1 b σ' F' H'=>∃ (w1_:Option V) (w2_:Option V),σ'=[some (.int many),some kN,w1_,w2_]/\(Ext Fe H0 F' H'/\Same F1 F')) ?_ ?_ ?_ ?_
   ·exact(jan (i:=1) rfl js)
   ·intro F H E X;exact⟨_,_,rfl,⟨X,(Same.refl _)⟩⟩
   ·rintro F1 _ σ_ F_ H_ ⟨w1_,w2_,rfl,⟨X_,SF_⟩⟩;exact⟨X_,SF_⟩
   ·rintro F1 S0_ _ B_ ⟨low,high⟩ V_z3 σ_ F_ H_ F H ⟨w1_,w2_,rfl,⟨X,SF_⟩⟩ E P_z3 Hm
    try dsimp only at Hm
    have SL0:=SF_;replace X:=Ext.trans X E;replace SL0:=E.xd SL0;refine W5 P_z3 X.sub fun JJ yZ JK y0=>?_;obtain rfl:JJ=.int low:=JK;obtain rfl:yZ=.int high:=y0;refine(jdW (K:=K) (Qw (kE (Vd (jk _) (jJ (i:=2) rfl) (jJ (i:=3) rfl) (jJ (i:=0) rfl) rfl)) rfl) X Hm ?_ ?_)
    ·intro F H Hc Hm E X;cases Hm
    ·intro F H Hc Hm E X;replace SL0:=E.xd SL0;refine yG ?_;cases Hm;exact⟨F,_,_,rfl,⟨X,SL0⟩⟩
   ·rintro F1 S0_ _ σ_ F H Hm ⟨w1_,w2_,rfl,⟨X,SF_⟩⟩
    try dsimp only at Hm
    cases Hm;exact Kk _ F H X rfl
theorem sc_sets_below:FnScope ["many","pairs","found","thing","bits","low","high"] ["many","pairs"] (jo (top 12)):=⟨rfl,rfl,rfl,by decide +kernel,rfl,by decide +kernel,by decide +kernel⟩
theorem Uv (B:Bi mg) (Fn:Fun K "sets_below" "sets_below" (top 12) f fd):FnOk P w K mg base CX0 1 f fd ["many","pairs"] (sp2 K (pF cI) (pB (cP cI cI)) (rF (cT cI)) qe):=by
 refine Fn.ok sc_sets_below (fun vs H Q E h=>?_) (fun cdv A outer s H0 vs Q E_ hr h=>?_)
 ·obtain⟨_,_,_,_,_,_,rfl,_⟩:=h;rfl
 ·obtain⟨many,pairs,JL,kN,Fe,R,rfl,S_,JM,jC,Hm,Kk⟩:=h;have nd:=sc_sets_below.nd;have hu:=qd hr;refine⟨_,(jm (jI (i:=2) nd rfl (Or.inl rfl) (qM jh))
   (jm (qB PassesOwn.never rfl (kr rfl B.range_ (ja (pv 0) jh)) (jG (i:=3) nd rfl (Or.inl rfl)) (jm (jI (i:=4) nd rfl (Or.inl rfl) jl)
   (jm (qB PassesOwn.never rfl (qS (pv 1)) (zP rfl (kx (jG (i:=5) nd rfl (Or.inl rfl)) (kx (jG (i:=6) nd rfl (Or.inl rfl)) yo))) (jn (yN (kU (jV xI (pv 6) (pv 3) (kh _)) (jn (jI (i:=4) nd rfl (Or.inl rfl) (jw JW (jw JW (pv 4) (xt qy (pv 2) (pv 5) (fun _ _=>rfl))) (jw zo jl (pv 5))))) j8))))
   (jn (xi (JX XZ wf we qO (pv 2) (ja (pv 4) jh)))))))
   (jn (j7 (xr xD rfl B.tuple_ (by kernel_rfl) (ja (pv 2) jh)))))),?_⟩
  try dsimp only[qA]
  have X:Ext Fe H0 Fe H0:=Ext.refl S_;unfold qe at Hm;obtain rfl:JL=.int many:=JM;have js:Bor K H0 Fe (cP cI cI) pairs kN:=jC;clear jC;refine(GF (K:=K) (qN (kG (c:=cI)) (by decide)) X Hm ?_);intro found j_ F H Hm E X Hn O_found;replace js:=E.xb js;refine Jf (K:=K) (c:=cI) ?_ X Hm (fun F1 found σ' F' H'=>∃ (j_:Addr) (w1_:Option V) (w2_:Option V) (w3_:Option V) (w4_:Option V),σ'=[some (.int many),some kN,some (.ref j_),w1_,w2_,w3_,w4_]/\(Ext Fe H0 F' H'/\Same F1 F')/\Own K H0 F' H' cI found j_) ?_ ?_ ?_ ?_
  ·exact(kI (jJ (i:=0) rfl) rfl)
  ·intro F H E X;replace O_found:=O_found.mono E;exact⟨_,_,_,_,_,rfl,⟨X,(Same.refl _)⟩,O_found⟩
  ·rintro F1 found σ_ F_ H_ ⟨j_,w1_,w2_,w3_,w4_,rfl,⟨X_,SF_⟩,O_found⟩;exact⟨X_,SF_⟩
  ·rintro F1 S0_ found B_ thing qU σ_ F_ H_ F H ⟨j_,w1_,w2_,w3_,w4_,rfl,⟨X,SF_⟩,O_found⟩ E qV Hm
   try dsimp only at Hm
   have SL0:=SF_;replace SF_:=Same.trans S0_ SF_;replace js:=Bor.mono js SF_;replace X:=Ext.trans X E;replace js:=E.xb js;replace O_found:=O_found.mono E;replace SL0:=E.xd SL0;obtain rfl:qU=.int thing:=qV;refine qX ?_;refine(qp (K:=K) (jk _) X Hm ?_);intro bits F H Hm E X;replace js:=E.xb js;replace O_found:=O_found.mono E;replace SL0:=E.xd SL0;refine Q_ (K:=K) (c:=(cP cI cI)) ?_ X Hm (fun F1 bits σ' F' H'=>∃ (w5_:Option V) (w6_:Option V),σ'=[some (.int many),some kN,some (.ref j_),some (.int thing),some (.int bits),w5_,w6_]/\(Ext Fe H0 F' H'/\Same F1 F')/\Own K H0 F' H' cI found j_) ?_ ?_ ?_ ?_
   ·exact(jan (i:=1) rfl js)
   ·intro F H E X;replace O_found:=O_found.mono E;exact⟨_,_,rfl,⟨X,(Same.refl _)⟩,O_found⟩
   ·rintro F1 bits σ_ F_ H_ ⟨w5_,w6_,rfl,⟨X_,SF_⟩,O_found⟩;exact⟨X_,SF_⟩
   ·rintro F1 S0_ bits B_ ⟨low,high⟩ V_z7 σ_ F_ H_ F H ⟨w5_,w6_,rfl,⟨X,SF_⟩,O_found⟩ E P_z7 Hm
    try dsimp only at Hm
    have SL1:=SF_;replace SF_:=Same.trans S0_ SF_;replace X:=Ext.trans X E;replace O_found:=O_found.mono E;replace SL1:=E.xd SL1;refine W5 P_z7 X.sub fun JJ yZ JK y0=>?_;obtain rfl:JJ=.int low:=JK;obtain rfl:yZ=.int high:=y0;refine(Q6 (K:=K) (fun bits σ' H'=>∃ F':Hp,σ'=[some (.int many),some kN,some (.ref j_),some (.int thing),some (.int bits),some (.int low),some (.int high)]/\(Ext Fe H0 F' H'/\Same F F')/\Own K H0 F' H' cI found j_) (kE (jf xb (jJ (i:=6) rfl) (jJ (i:=3) rfl) rfl)) X Hm ?_ ?_ ?_)
    ·intro B_ F H Hm E X;replace O_found:=O_found.mono E;have SJ2:=E.f;refine(yP (K:=K) (jy jY (jy jY (jJ (i:=4) rfl) (jf zz (kZ (jj (p:=pB cI) (i:=2) rfl O_found.b)) (jJ (i:=5) rfl) rfl) rfl) (jf JZ (jk _) (jJ (i:=5) rfl) rfl) rfl) X Hm ?_);intro bits F H Hm E X;replace O_found:=O_found.mono E;replace SJ2:=E.xd SJ2;cases Hm;exact⟨F,rfl,⟨X,SJ2⟩,O_found⟩
    ·intro B_ F H Hm E X;replace O_found:=O_found.mono E;have SJ2:=E.f;refine yG ?_;cases Hm;exact⟨F,rfl,⟨X,SJ2⟩,O_found⟩
    ·rintro bits σ_ H Hm ⟨F,rfl,⟨X,SF_⟩,O_found⟩
     try dsimp only at Hm
     replace SL1:=Same.trans SL1 SF_;cases Hm;exact⟨F,_,_,rfl,⟨X,SL1⟩,O_found⟩
   ·rintro F1 S0_ bits σ_ F H Hm ⟨w5_,w6_,rfl,⟨X,SF_⟩,O_found⟩
    try dsimp only at Hm
    replace SF_:=Same.trans S0_ SF_;replace SL0:=Same.trans SL0 SF_;refine(yr (K:=K) (k':=2) rfl O_found (jJ (i:=4) rfl) X Hm ?_);intro found F H Hm Cg X O_found;replace SL0:=Same.trans SL0 Cg.f;cases Hm;exact⟨F,_,_,_,_,_,rfl,⟨X,SL0⟩,O_found⟩
  ·rintro F1 S0_ found σ_ F H Hm ⟨j_,w1_,w2_,w3_,w4_,rfl,⟨X,SF_⟩,O_found⟩
   try dsimp only at Hm
   exact kc (K:=K) (jR WY (kZ (jj (p:=pB cI) (i:=2) rfl O_found.b)) rfl) X Hm Kk
theorem sc_has:FnScope ["bits","thing"] ["bits","thing"] (jo (top 11)):=⟨rfl,rfl,rfl,by decide +kernel,rfl,by decide +kernel,by decide +kernel⟩
theorem jhM (B:Bi mg) (Fn:Fun K "has" "has" (top 11) f fd):FnOk P w K mg base CX0 1 f fd ["bits","thing"] (sp2 K (pF cI) (pF cI) (rF cB) zl):=by
 refine Fn.ok sc_has (fun vs H Q E h=>?_) (fun cdv A outer s H0 vs Q E_ hr h=>?_)
 ·obtain⟨_,_,_,_,_,_,rfl,_⟩:=h;rfl
 ·obtain⟨bits,thing,Gb,qU,Fe,R,rfl,S_,Gc,qV,Hm,Kk⟩:=h;have nd:=sc_has.nd;have hu:=qd hr;refine⟨_,(jn (j7 (zx xI (jw jdN (jw jdM (pv 0) (pv 1)) jl) jl (kh _)))),?_⟩
  try dsimp only[qA]
  have X:Ext Fe H0 Fe H0:=Ext.refl S_;unfold zl at Hm;obtain rfl:Gb=.int bits:=Gc;obtain rfl:qU=.int thing:=qV;exact kc (K:=K) (jy xb (jy jY (jf jgD (jJ (i:=0) rfl) (jJ (i:=1) rfl) rfl) (jk _) rfl) (jk _) rfl) X Hm Kk
theorem sc_is_cover:FnScope ["beneath","low","high"] ["beneath","low","high"] (jo (top 13)):=⟨rfl,rfl,rfl,by decide +kernel,rfl,by decide +kernel,by decide +kernel⟩
theorem WH (B:Bi mg) (Fn:Fun K "is_cover" "is_cover" (top 13) f fd) (JN:Def P w K mg base "has" 1 ["bits","thing"] (sp2 K (pF cI) (pF cI) (rF cB) zl)):FnOk P w K mg base CX0 2 f fd ["beneath","low","high"] (sp3 K (pF (cT cI)) (pF cI) (pF cI) (rF cB) qZ):=by
 refine Fn.ok sc_is_cover (fun vs H Q E h=>?_) (fun cdv A outer s H0 vs Q E_ hr h=>?_)
 ·obtain⟨_,_,_,_,_,_,_,_,rfl,_⟩:=h;rfl
 ·obtain⟨beneath,low,high,xS,JJ,yZ,Fe,R,rfl,S_,jA,JK,y0,Hm,Kk⟩:=h;have nd:=sc_is_cover.nd;have hu:=qd hr;refine⟨_,(jm (kU (yE (yh (jQ JN (hr.mono (by decide)) rfl (ja (xt GD (pv 0) (pv 2) (fun _ _=>rfl)) (ja (pv 1) jh))))) (jn (j7 yI)) j8)
   (jn (j7 (UL (jH (jcn rfl) rfl B.any_ (by kernel_rfl) (ja (xy (own:=["mid"]) (ix:=[0,1,2]) (xK rfl) rfl (UM rfl B.range_ (ja (jw kD (pv 1) jl) (ja (pv 2) jh))) (fun _=>(jG (i:=0) (show List.Nodup (["mid","beneath","low","high"]:List Str) by decide +kernel) rfl (Or.inl rfl))) (fun _=>xJ) (fun _=>(WO (jQ JN (hr.mono (by decide)) rfl (ja (xt GD (pv 1) (pv 3) (fun _ _=>rfl)) (ja (pv 0) jh))) (UK (jQ JN (hr.mono (by decide)) rfl (ja (xt GD (pv 1) (pv 0) (fun _ _=>rfl)) (ja (pv 2) jh))))))) jh)))))),?_⟩
  try dsimp only[qA]
  have X:Ext Fe H0 Fe H0:=Ext.refl S_;unfold qZ at Hm;replace jA:(cT cI).rep K Fe beneath xS:=jA;obtain rfl:JJ=.int low:=JK;obtain rfl:yZ=.int high:=y0;refine(ZE (K:=K) (xn (xC (qv (jf U8 (jj (p:=pF (cT cI)) (i:=0) rfl jA) (jJ (i:=2) rfl) rfl) (jJ (i:=1) rfl) rfl)) rfl) X Hm ?_ ?_)
  ·intro F H Hm E X
   try dsimp only[wm] at Hm
   exact kc (K:=K) (yJ _) X Hm Kk
  ·intro F H Hm E X
   try dsimp only[wb] at Hm
   replace jA:=E.xc jA;refine yG ?_;exact kc (K:=K) (Ua (xF jim (kZ (xE (qb (V_ (jf jY (jJ (i:=1) rfl) (jk _) rfl) (jJ (i:=2) rfl) rfl) [some xS,some (.int low),some (.int high)] rfl (fun b5 mid _ _ E4=>yS) (fun b5 mid _ _ E4=>(W_ (qv (jf U8 (jj (p:=pF (cT cI)) (i:=1) rfl (Cd.mono _ (E4).f jA)) (jJ (i:=3) rfl) rfl) (jJ (i:=0) rfl) rfl) (qv (jf U8 (jj (p:=pF (cT cI)) (i:=1) rfl (Cd.mono _ (E4).f jA)) (jJ (i:=0) rfl) rfl) (jJ (i:=2) rfl) rfl) rfl)) rfl))) rfl) rfl) X Hm Kk
theorem sc_cover_pairs:FnScope ["beneath","found","low","high"] ["beneath"] (jo (top 14)):=⟨rfl,rfl,rfl,by decide +kernel,rfl,by decide +kernel,by decide +kernel⟩
theorem Qg (B:Bi mg) (Fn:Fun K "cover_pairs" "cover_pairs" (top 14) f fd) (Gy:Def P w K mg base "is_cover" 2 ["beneath","low","high"] (sp3 K (pF (cT cI)) (pF cI) (pF cI) (rF cB) qZ)):FnOk P w K mg base CX0 3 f fd ["beneath"] (sp1 K (pF (cT cI)) (rF (cT (cP cI cI))) kR):=by
 refine Fn.ok sc_cover_pairs (fun vs H Q E h=>?_) (fun cdv A outer s H0 vs Q E_ hr h=>?_)
 ·obtain⟨_,_,_,_,rfl,_⟩:=h;rfl
 ·obtain⟨beneath,xS,Fe,R,rfl,S_,jA,Hm,Kk⟩:=h;have nd:=sc_cover_pairs.nd;have hu:=qd hr;refine⟨_,(jm (jI (i:=1) nd rfl (Or.inl rfl) (qM jh))
   (jm (qB PassesOwn.never rfl (kr rfl B.range_ (ja (jH jO rfl B.len_ (by kernel_rfl) (ja (pv 0) jh)) jh)) (jG (i:=2) nd rfl (Or.inl rfl)) (jn (qB PassesOwn.never rfl (UM rfl B.range_ (ja (jw kD (pv 2) jl) (ja (jH jO rfl B.len_ (by kernel_rfl) (ja (pv 0) jh)) jh))) (jG (i:=3) nd rfl (Or.inl rfl)) (jn (yN (kU (yh (jQ Gy (hr.mono (by decide)) rfl (ja (pv 0) (ja (pv 2) (ja (pv 3) jh))))) (jn (xi (JX XZ wf we qO (pv 1) (ja (kP (ja (pv 2) (ja (pv 3) jh))) jh)))) j8))))))
   (jn (j7 (xr xD rfl B.tuple_ (by kernel_rfl) (ja (pv 1) jh)))))),?_⟩
  try dsimp only[qA]
  have X:Ext Fe H0 Fe H0:=Ext.refl S_;unfold kR at Hm;replace jA:(cT cI).rep K Fe beneath xS:=jA;refine(GF (K:=K) (qN (kG (c:=(cP cI cI))) (by decide)) X Hm ?_);intro found j_ F H Hm E X Hn O_found;replace jA:=E.xc jA;refine Jf (K:=K) (c:=cI) ?_ X Hm (fun F1 found σ' F' H'=>∃ (j_:Addr) (w1_:Option V) (w2_:Option V),σ'=[some xS,some (.ref j_),w1_,w2_]/\(Ext Fe H0 F' H'/\Same F1 F')/\Own K H0 F' H' (cP cI cI) found j_) ?_ ?_ ?_ ?_
  ·exact(kI (jR Qr (jj (p:=pF (cT cI)) (i:=0) rfl jA) rfl) rfl)
  ·intro F H E X;replace O_found:=O_found.mono E;exact⟨_,_,_,rfl,⟨X,(Same.refl _)⟩,O_found⟩
  ·rintro F1 found σ_ F_ H_ ⟨j_,w1_,w2_,rfl,⟨X_,SF_⟩,O_found⟩;exact⟨X_,SF_⟩
  ·rintro F1 S0_ found B_ low JJ σ_ F_ H_ F H ⟨j_,w1_,w2_,rfl,⟨X,SF_⟩,O_found⟩ E JK Hm
   try dsimp only at Hm
   have SL0:=SF_;replace SF_:=Same.trans S0_ SF_;replace jA:=Cd.mono _ SF_ jA;replace X:=Ext.trans X E;replace jA:=E.xc jA;replace O_found:=O_found.mono E;replace SL0:=E.xd SL0;obtain rfl:JJ=.int low:=JK;refine qX ?_;refine GE (K:=K) (c:=cI) ?_ X Hm (fun F1 found σ' F' H'=>∃ (j_:Addr) (w3_:Option V),σ'=[some xS,some (.ref j_),some (.int low),w3_]/\(Ext Fe H0 F' H'/\Same F1 F')/\Own K H0 F' H' (cP cI cI) found j_) ?_ ?_ ?_ ?_
   ·exact(V9 (jf jY (jJ (i:=2) rfl) (jk _) rfl) (jR Qr (jj (p:=pF (cT cI)) (i:=0) rfl jA) rfl) rfl)
   ·intro F H E X;replace O_found:=O_found.mono E;exact⟨_,_,rfl,⟨X,(Same.refl _)⟩,O_found⟩
   ·rintro F1 found σ_ F_ H_ ⟨j_,w3_,rfl,⟨X_,SF_⟩,O_found⟩;exact⟨X_,SF_⟩
   ·rintro F1 S0_ found B_ high yZ σ_ F_ H_ F H ⟨j_,w3_,rfl,⟨X,SF_⟩,O_found⟩ E y0 Hm
    try dsimp only at Hm
    have SL1:=SF_;replace SF_:=Same.trans S0_ SF_;replace jA:=Cd.mono _ SF_ jA;replace X:=Ext.trans X E;replace jA:=E.xc jA;replace O_found:=O_found.mono E;replace SL1:=E.xd SL1;obtain rfl:yZ=.int high:=y0;refine qX ?_;refine(U9 (K:=K) (fun found σ' H'=>∃ F':Hp,∃ (j_:Addr),σ'=[some xS,some (.ref j_),some (.int low),some (.int high)]/\(Ext Fe H0 F' H'/\Same F F')/\Own K H0 F' H' (cP cI cI) found j_) (xC (xu (jj (p:=pF (cT cI)) (i:=0) rfl jA) (jJ (i:=2) rfl) (jJ (i:=3) rfl) rfl)) X Hm ?_ ?_ ?_)
    ·intro B_ F H Hm E X;replace O_found:=O_found.mono E;have SJ2:=E.f;refine(yr (K:=K) (k':=1) rfl O_found (kW (jJ (i:=2) rfl) (jJ (i:=3) rfl) rfl) X Hm ?_);intro found F H Hm Cg X O_found;replace SJ2:=Same.trans SJ2 Cg.f;cases Hm;exact⟨F,_,rfl,⟨X,SJ2⟩,O_found⟩
    ·intro B_ F H Hm E X;replace O_found:=O_found.mono E;have SJ2:=E.f;refine yG ?_;cases Hm;exact⟨F,_,rfl,⟨X,SJ2⟩,O_found⟩
    ·rintro found σ_ H Hm ⟨F,j_,rfl,⟨X,SF_⟩,O_found⟩
     try dsimp only at Hm
     replace SL1:=Same.trans SL1 SF_;cases Hm;exact⟨F,_,_,rfl,⟨X,SL1⟩,O_found⟩
   ·rintro F1 S0_ found σ_ F H Hm ⟨j_,w3_,rfl,⟨X,SF_⟩,O_found⟩
    try dsimp only at Hm
    replace SF_:=Same.trans S0_ SF_;replace SL0:=Same.trans SL0 SF_;cases Hm;exact⟨F,_,_,_,rfl,⟨X,SL0⟩,O_found⟩
  ·rintro F1 S0_ found σ_ F H Hm ⟨j_,w1_,w2_,rfl,⟨X,SF_⟩,O_found⟩
   try dsimp only at Hm
   exact kc (K:=K) (jR WY (kZ (jj (p:=pB (cP cI cI)) (i:=1) rfl O_found.b)) rfl) X Hm Kk
theorem sc_Order_init:FnScope ["self","many","pairs"] ["self","many","pairs"] (jo ((qz (top 15) 0))):=⟨rfl,rfl,rfl,by decide +kernel,rfl,by decide +kernel,by decide +kernel⟩
theorem Uw (B:Bi mg) (T_Order:Txt_Order K mg je) (Fn:Fun K "__init__" "Order.__init__" ((qz (top 15) 0)) f fd) (yA:Def P w K mg base "check_parts" 1 ["many","pairs"] (sp2 K (pF cI) (pB (cP cI cI)) (rF cU) kQ)) (y1:Def P w K mg base "sets_below" 1 ["many","pairs"] (sp2 K (pF cI) (pB (cP cI cI)) (rF (cT cI)) qe)) (yB:Def P w K mg base "cover_pairs" 3 ["beneath"] (sp1 K (pF (cT cI)) (rF (cT (cP cI cI))) kR)):FnOk P w K mg base CX0 4 f fd ["self","many","pairs"] (jhZ K je (pF cI) (pB (cP cI cI)) (jp je) kS):=by
 refine Fn.ok sc_Order_init (fun vs H Q E h=>?_) (fun cdv A outer s Hq vs Q E_ hr h=>?_)
 ·obtain⟨_,_,_,_,_,_,_,_,_,rfl,_⟩:=h;rfl
 ·obtain⟨many,pairs,JL,kN,Fe,H0,x_self,dx_self,R,rfl,rfl,n1_,n2_,n3_,S_,JM,jC,Hm,Kk⟩:=h;have nd:=sc_Order_init.nd;have hu:=qd hr;refine⟨_,(jm (xi (jQ yA (hr.mono (by decide)) rfl (ja (pv 1) (ja (pv 2) jh))))
   (jm (ZX (pv 0) (pv 1) rfl)
   (jm (ZX (pv 0) (jQ y1 (hr.mono (by decide)) rfl (ja (pv 1) (ja (pv 2) jh))) rfl)
   (jn (ZX (pv 0) (jQ yB (hr.mono (by decide)) rfl (ja (UR (pv 0) rfl) jh)) rfl))))),?_⟩
  try dsimp only[qA]
  obtain⟨X,zu⟩:=Y2 (C:=je) S_ n1_ n2_ n3_;unfold kS at Hm;obtain rfl:JL=.int many:=JM;have js:Bor K H0 Fe (cP cI cI) pairs kN:=jC;clear jC;refine(jax (K:=K) (ju (jJ (i:=1) rfl) (jj (p:=pB (cP cI cI)) (i:=2) rfl (Bor.b js X)) rfl) X Hm ?_);intro _ F H Hm E X;replace js:=E.xb js;replace zu:=OwnI.mono zu E;refine(jgN (K:=K) (k':=0) (c:=cI) rfl zu T_Order.cl T_Order.n_many (Nat.lt_of_le_of_lt (Xh 0) (by decide:0<1000)) (jJ (i:=1) rfl) X Hm ?_);intro f_many WJ F H Hm Cg X WK zu;replace js:=Bor.mono js Cg.f;obtain rfl:WJ=.int f_many:=WK;refine(jgN (K:=K) (k':=0) (c:=(cT cI)) rfl zu T_Order.cl T_Order.n_beneath (Nat.lt_of_le_of_lt (Wa (Xh 0)) (by decide:1<1000)) (ju (jJ (i:=1) rfl) (jj (p:=pB (cP cI cI)) (i:=2) rfl (Bor.b js X)) rfl) X Hm ?_);intro f_beneath jb6 F H Hm Cg X xp zu;refine(jd1 (K:=K) (k':=0) (c:=(cT (cP cI cI))) rfl zu T_Order.cl T_Order.n_neighbours (Nat.lt_of_le_of_lt (Wa (Wa (Xh 0))) (by decide:2<1000)) (kH (jfg (p:=pF (cT cI)) (k:=0) rfl zu T_Order.cl T_Order.n_beneath (by rw[ku,if_pos rfl]) xp) rfl) X Hm ?_);intro f_neighbours ZB F H Hm Cg X Gz zu;replace xp:=Cd.mono _ Cg.f xp;cases Hm;obtain⟨F',X',Cg,hx⟩:=OwnI.freeze zu X;exact Kk F' H X' ⟨x_self,dx_self,_,_,_,rfl,hx,rfl,Cd.mono _ Cg.f xp,Cd.mono _ Cg.f Gz⟩
theorem sc__law_free:FnScope ["_law_below_here","_law_row","_law_found","_law_thing"] ["_law_below_here","_law_row"] (jo (top 39)):=⟨rfl,rfl,rfl,by decide +kernel,rfl,by decide +kernel,by decide +kernel⟩
theorem VG (B:Bi mg) (Fn:Fun K "_law_free" "_law_free" (top 39) f fd):FnOk P w K mg base CX0 1 f fd ["_law_below_here","_law_row"] (sp2 K (pB (cL cI)) (pF (cT cI)) (rO cI) ym):=by
 refine Fn.ok sc__law_free (fun vs H Q E h=>?_) (fun cdv A outer s H0 vs Q E_ hr h=>?_)
 ·obtain⟨_,_,_,_,_,_,rfl,_⟩:=h;rfl
 ·obtain⟨below_here,row,kd,xB,Fe,R,rfl,S_,jr,jv,Hm,Kk⟩:=h;have nd:=sc__law_free.nd;have hu:=qd hr;refine⟨_,(jm (jI (i:=2) nd rfl (Or.inl rfl) (qM jh))
   (jm (qB PassesOwn.never rfl (kr rfl B.range_ (ja (jH jO rfl B.len_ (by kernel_rfl) (ja (pv 0) jh)) jh)) (jG (i:=3) nd rfl (Or.inl rfl)) (jn (yN (kU (PW.pt (Qm (jV (U3 hu) (pv 3) (pv 1) (by with_unfolding_all rfl)) (Gg (yh (jH (Q3 rfl) rfl B.all_ (by kernel_rfl) (ja (xy (own:=["_law_low"]) (ix:=[1]) (xK rfl) rfl (qS (xt qy (pv 0) (pv 3) (fun _ _=>rfl))) (fun _=>(jG (i:=0) (show List.Nodup (["_law_low","_law_row"]:List Str) by decide +kernel) rfl (Or.inl rfl))) (fun _=>xJ) (fun _=>(zx (Z_ hu) (pv 0) (pv 1) (by with_unfolding_all rfl)))) jh)))))) (jn (xi (JX XZ wf we qO (pv 2) (ja (pv 3) jh)))) j8))))
   (jn (j7 (pv 2))))),?_⟩
  try dsimp only[qA]
  have X:Ext Fe H0 Fe H0:=Ext.refl S_;unfold ym at Hm;have jd:Bor K H0 Fe (cL cI) below_here kd:=jr;clear jr;replace jv:(cT cI).rep K Fe row xB:=jv;refine(GF (K:=K) (qN (kG (c:=cI)) (by decide)) X Hm ?_);intro found j_ F H Hm E X Hn O_found;replace jd:=E.xb jd;replace jv:=E.xc jv;refine Jf (K:=K) (c:=cI) ?_ X Hm (fun F1 found σ' F' H'=>∃ (j_:Addr) (w1_:Option V),σ'=[some kd,some xB,some (.ref j_),w1_]/\(Ext Fe H0 F' H'/\Same F1 F')/\Own K H0 F' H' cI found j_) ?_ ?_ ?_ ?_
  ·exact(kI (jR xW (kZ (jj (p:=pB (cL cI)) (i:=0) rfl (Bor.b jd X))) rfl) rfl)
  ·intro F H E X;replace O_found:=O_found.mono E;exact⟨_,_,rfl,⟨X,(Same.refl _)⟩,O_found⟩
  ·rintro F1 found σ_ F_ H_ ⟨j_,w1_,rfl,⟨X_,SF_⟩,O_found⟩;exact⟨X_,SF_⟩
  ·rintro F1 S0_ found B_ thing qU σ_ F_ H_ F H ⟨j_,w1_,rfl,⟨X,SF_⟩,O_found⟩ E qV Hm
   try dsimp only at Hm
   have SL0:=SF_;replace SF_:=Same.trans S0_ SF_;replace jd:=Bor.mono jd SF_;replace jv:=Cd.mono _ SF_ jv;replace X:=Ext.trans X E;replace jd:=E.xb jd;replace jv:=E.xc jv;replace O_found:=O_found.mono E;replace SL0:=E.xd SL0;obtain rfl:qU=.int thing:=qV;refine qX ?_;refine(U9 (K:=K) (fun found σ' H'=>∃ F':Hp,∃ (j_:Addr),σ'=[some kd,some xB,some (.ref j_),some (.int thing)]/\(Ext Fe H0 F' H'/\Same F F')/\Own K H0 F' H' cI found j_) (yk (kE (jf (jii eqI (by decide)) (GO (jJ (i:=3) rfl)) (GO (jj (p:=pF (cT cI)) (i:=1) rfl jv)) rfl)) (xC (xF jfa (kZ (xE (qb (yq (kZ (x8 (jf zz (kZ (jj (p:=pB (cL cI)) (i:=0) rfl (Bor.b jd X))) (jJ (i:=3) rfl) rfl)))) [some xB] rfl (fun b3 low _ _ E2=>yS) (fun b3 low _ _ E2=>(jf (jeT eqI (by decide)) (GO (jJ (i:=0) rfl)) (GO (jj (p:=pF (cT cI)) (i:=1) rfl (Cd.mono _ (E2).f jv))) rfl)) rfl))) rfl)) rfl) X Hm ?_ ?_ ?_)
   ·intro B_ F H Hm E X;replace O_found:=O_found.mono E;have SJ1:=E.f;refine(yr (K:=K) (k':=2) rfl O_found (jJ (i:=3) rfl) X Hm ?_);intro found F H Hm Cg X O_found;replace SJ1:=Same.trans SJ1 Cg.f;cases Hm;exact⟨F,_,rfl,⟨X,SJ1⟩,O_found⟩
   ·intro B_ F H Hm E X;replace O_found:=O_found.mono E;have SJ1:=E.f;refine yG ?_;cases Hm;exact⟨F,_,rfl,⟨X,SJ1⟩,O_found⟩
   ·rintro found σ_ H Hm ⟨F,j_,rfl,⟨X,SF_⟩,O_found⟩
    try dsimp only at Hm
    replace SL0:=Same.trans SL0 SF_;cases Hm;exact⟨F,_,_,rfl,⟨X,SL0⟩,O_found⟩
  ·rintro F1 S0_ found σ_ F H Hm ⟨j_,w1_,rfl,⟨X,SF_⟩,O_found⟩
   try dsimp only at Hm
   exact jal (K:=K) (i:=2) rfl O_found X Hm Kk
theorem sc__law_counted:FnScope ["_law_below_here","_law_ways","_law_step","_law_more","_law_row","_law_thing","_law_key"] ["_law_below_here"] (jo (top 41)):=⟨rfl,rfl,rfl,by decide +kernel,rfl,by decide +kernel,by decide +kernel⟩
theorem JE (B:Bi mg) (Fn:Fun K "_law_counted" "_law_counted" (top 41) f fd) (xk:Def P w K mg base "_law_free" 1 ["_law_below_here","_law_row"] (sp2 K (pB (cL cI)) (pF (cT cI)) (rO cI) ym)):FnOk P w K mg base CX0 2 f fd ["_law_below_here"] (sp1 K (pB (cL cI)) (rF cI) qP):=by
 refine Fn.ok sc__law_counted (fun vs H Q E h=>?_) (fun cdv A outer s H0 vs Q E_ hr h=>?_)
 ·obtain⟨_,_,_,_,rfl,_⟩:=h;rfl
 ·obtain⟨below_here,kd,Fe,R,rfl,S_,jr,Hm,Kk⟩:=h;have nd:=sc__law_counted.nd;have hu:=qd hr;refine⟨_,(jm (Yk (i:=1) nd rfl (Or.inl rfl) (jdi (hu1 hu) (kP jh) jl))
   (jm (qB PassesOwn.never rfl (kr rfl B.range_ (ja (jH jO rfl B.len_ (by kernel_rfl) (ja (pv 0) jh)) jh)) (jG (i:=2) nd rfl (Or.inl rfl)) (jm (jI (i:=3) nd rfl (Or.inl rfl) jc5)
   (jm (qB PassesOwn.never rfl (jg9 (pv 1)) (jG (i:=4) nd rfl (Or.inl rfl)) (jn (qB PassesOwn.never rfl (qS (jQ xk (hr.mono (by decide)) rfl (ja (pv 0) (ja (pv 4) jh)))) (jG (i:=5) nd rfl (Or.inl rfl)) (jm (jI (i:=6) nd rfl (Or.inl rfl) (xr xD rfl B.tuple_ (by kernel_rfl) (ja (jH yT rfl B.sorted_ (by kernel_rfl) (ja (jw xo (pv 4) (kP (ja (pv 5) jh))) jh)) jh)))
   (jn (ja6 (hu1 hu) (pv 3) (pv 6) (jw kD (jc6 (hu1 hu) (pv 3) (pv 6) jl ⟨rfl,rfl,rfl,rfl⟩) (yu (hu1 hu) (pv 1) (pv 4) (fun _ _=>rfl))) rfl))))))
   (jn (Yk (i:=1) nd rfl (Or.inl rfl) (pv 3))))))
   (jn (j7 (yu (hu1 hu) (pv 1) (xr (Qb rfl) rfl B.tuple_ (by kernel_rfl) (ja (V2 rfl B.range_ (ja (jH jO rfl B.len_ (by kernel_rfl) (ja (pv 0) jh)) jh)) jh)) (fun _ _=>rfl)))))),?_⟩
  try dsimp only[qA]
  have X:Ext Fe H0 Fe H0:=Ext.refl S_;unfold qP at Hm;have jd:Bor K H0 Fe (cL cI) below_here kd:=jr;clear jr;refine(jfJ (K:=K) (Vw (ya (kG (c:=cI)) (by decide)) (jk _) rfl) X Hm ?_);intro ways Ge F H Hm E X kB;replace jd:=E.xb jd;refine Jf (K:=K) (c:=cI) ?_ X Hm (fun F1 ways σ' F' H'=>∃ (Ge:V) (w1_:Option V) (w2_:Option V) (w3_:Option V) (w4_:Option V) (w5_:Option V),σ'=[some kd,some Ge,w1_,w2_,w3_,w4_,w5_]/\(Ext Fe H0 F' H'/\Same F1 F')/\(cFD (κ:=(List Int)) cI).rep K F' ways Ge) ?_ ?_ ?_ ?_
  ·exact(kI (jR xW (kZ (jj (p:=pB (cL cI)) (i:=0) rfl (Bor.b jd X))) rfl) rfl)
  ·intro F H E X;replace kB:=E.xc kB;exact⟨_,_,_,_,_,_,rfl,⟨X,(Same.refl _)⟩,kB⟩
  ·rintro F1 ways σ_ F_ H_ ⟨Ge,w1_,w2_,w3_,w4_,w5_,rfl,⟨X_,SF_⟩,kB⟩;exact⟨X_,SF_⟩
  ·rintro F1 S0_ ways B_ step jbU σ_ F_ H_ F H ⟨Ge,w1_,w2_,w3_,w4_,w5_,rfl,⟨X,SF_⟩,kB⟩ E jbV Hm
   try dsimp only at Hm
   have SL0:=SF_;replace SF_:=Same.trans S0_ SF_;replace jd:=Bor.mono jd SF_;replace X:=Ext.trans X E;replace jd:=E.xb jd;replace kB:=E.xc kB;replace SL0:=E.xd SL0;obtain rfl:jbU=.int step:=jbV;refine qX ?_;refine(jfI (K:=K) (jdj (κ:=(List Int)) (c:=cI)) X Hm ?_);intro more yH F H Hm E X Hn O_more;replace jd:=E.xb jd;replace kB:=E.xc kB;replace SL0:=E.xd SL0;refine Q_ (K:=K) (c:=(cT cI)) ?_ X Hm (fun F1 more σ' F' H'=>∃ (yH:Addr) (w6_:Option V) (w7_:Option V) (w8_:Option V),σ'=[some kd,some Ge,some (.int step),some (.ref yH),w6_,w7_,w8_]/\(Ext Fe H0 F' H'/\Same F1 F')/\OwnDT K H0 F' H' cI more yH) ?_ ?_ ?_ ?_
   ·exact(Zj (jj (p:=pF (cFD (κ:=(List Int)) cI)) (i:=1) rfl kB) rfl)
   ·intro F H E X;replace O_more:=O_more.mono E;exact⟨_,_,_,_,rfl,⟨X,(Same.refl _)⟩,O_more⟩
   ·rintro F1 more σ_ F_ H_ ⟨yH,w6_,w7_,w8_,rfl,⟨X_,SF_⟩,O_more⟩;exact⟨X_,SF_⟩
   ·rintro F1 S0_ more B_ row xB σ_ F_ H_ F H ⟨yH,w6_,w7_,w8_,rfl,⟨X,SF_⟩,O_more⟩ E jv Hm
    try dsimp only at Hm
    have SL1:=SF_;replace SF_:=Same.trans S0_ SF_;replace jd:=Bor.mono jd SF_;replace kB:=Cd.mono _ SF_ kB;replace X:=Ext.trans X E;replace jd:=E.xb jd;replace kB:=E.xc kB;replace O_more:=O_more.mono E;replace SL1:=E.xd SL1;refine qX ?_;refine GE (K:=K) (c:=cI) ?_ X Hm (fun F1 more σ' F' H'=>∃ (yH:Addr) (w9_:Option V) (w10_:Option V),σ'=[some kd,some Ge,some (.int step),some (.ref yH),some xB,w9_,w10_]/\(Ext Fe H0 F' H'/\Same F1 F')/\OwnDT K H0 F' H' cI more yH) ?_ ?_ ?_ ?_
    ·exact(V6 (xc (ju (jj (p:=pB (cL cI)) (i:=0) rfl (Bor.b jd X)) (jj (p:=pF (cT cI)) (i:=4) rfl jv) rfl)))
    ·intro F H E X;replace O_more:=O_more.mono E;exact⟨_,_,_,rfl,⟨X,(Same.refl _)⟩,O_more⟩
    ·rintro F1 more σ_ F_ H_ ⟨yH,w9_,w10_,rfl,⟨X_,SF_⟩,O_more⟩;exact⟨X_,SF_⟩
    ·rintro F1 S0_ more B_ thing qU σ_ F_ H_ F H ⟨yH,w9_,w10_,rfl,⟨X,SF_⟩,O_more⟩ E qV Hm
     try dsimp only at Hm
     have SL2:=SF_;replace SF_:=Same.trans S0_ SF_;replace kB:=Cd.mono _ SF_ kB;replace jv:=Cd.mono _ SF_ jv;replace X:=Ext.trans X E;replace kB:=E.xc kB;replace O_more:=O_more.mono E;replace jv:=E.xc jv;replace SL2:=E.xd SL2;obtain rfl:qU=.int thing:=qV;refine qX ?_;refine(xX (K:=K) (c:=(cT cI)) (xF WY (kZ (xE (xF Jm (jf zq (jj (p:=pF (cT cI)) (i:=4) rfl jv) (ya (jx (jJ (i:=5) rfl) (kG (c:=cI)) rfl) (by decide)) rfl) rfl))) rfl) X Hm ?_);intro key ji_ F H Hm E X jdF;replace kB:=E.xc kB;replace O_more:=O_more.mono E;replace jv:=E.xc jv;replace SL2:=E.xd SL2;refine(jdl (K:=K) (k':=3) rfl O_more (jy jY (Uj (jj (p:=pDT (κ:=(List Int)) cI) (i:=3) rfl O_more.b) (jj (p:=pF (cT cI)) (i:=6) rfl jdF) (jk _) rfl) (Vv (jj (p:=pF (cFD (κ:=(List Int)) cI)) (i:=1) rfl kB) (jj (p:=pF (cT cI)) (i:=4) rfl jv) rfl) rfl) (jj (p:=pF (cT cI)) (i:=6) rfl jdF) X Hm ?_);intro more F H Hm Cg X O_more;replace SL2:=Same.trans SL2 Cg.f;cases Hm;exact⟨F,_,_,_,rfl,⟨X,SL2⟩,O_more⟩
    ·rintro F1 S0_ more σ_ F H Hm ⟨yH,w9_,w10_,rfl,⟨X,SF_⟩,O_more⟩
     try dsimp only at Hm
     replace SF_:=Same.trans S0_ SF_;replace SL1:=Same.trans SL1 SF_;cases Hm;exact⟨F,_,_,_,_,rfl,⟨X,SL1⟩,O_more⟩
   ·rintro F1 S0_ more σ_ F H Hm ⟨yH,w6_,w7_,w8_,rfl,⟨X,SF_⟩,O_more⟩
    try dsimp only at Hm
    replace SF_:=Same.trans S0_ SF_;replace kB:=Cd.mono _ SF_ kB;replace SL0:=Same.trans SL0 SF_;refine(jfK (K:=K) (j:=3) rfl O_more X Hm ?_);intro ways Ge F H Hm Cg X kB;replace SL0:=Same.trans SL0 Cg.f;cases Hm;exact⟨F,_,_,_,_,_,_,rfl,⟨X,SL0⟩,kB⟩
  ·rintro F1 S0_ ways σ_ F H Hm ⟨Ge,w1_,w2_,w3_,w4_,w5_,rfl,⟨X,SF_⟩,kB⟩
   try dsimp only at Hm
   replace SF_:=Same.trans S0_ SF_;replace jd:=Bor.mono jd SF_;exact kc (K:=K) (QH (jj (p:=pF (cFD (κ:=(List Int)) cI)) (i:=1) rfl kB) (Wr (jR xW (kZ (jj (p:=pB (cL cI)) (i:=0) rfl (Bor.b jd X))) rfl) rfl) rfl) X Hm Kk
theorem sc__law_line:FnScope ["_law_below_here","_law_cell_here","_law_row","_law_step","_law_free_here"] ["_law_below_here","_law_cell_here"] (jo (top 40)):=⟨rfl,rfl,rfl,by decide +kernel,rfl,by decide +kernel,by decide +kernel⟩
theorem VH (B:Bi mg) (Fn:Fun K "_law_line" "_law_line" (top 40) f fd) (xk:Def P w K mg base "_law_free" 1 ["_law_below_here","_law_row"] (sp2 K (pB (cL cI)) (pF (cT cI)) (rO cI) ym)):FnOk P w K mg base CX0 2 f fd ["_law_below_here","_law_cell_here"] (sp2 K (pB (cL cI)) (pF cI) (rF (cT cI)) zZ):=by
 refine Fn.ok sc__law_line (fun vs H Q E h=>?_) (fun cdv A outer s H0 vs Q E_ hr h=>?_)
 ·obtain⟨_,_,_,_,_,_,rfl,_⟩:=h;rfl
 ·obtain⟨below_here,cell_here,kd,xT,Fe,R,rfl,S_,jr,xU,Hm,Kk⟩:=h;have nd:=sc__law_line.nd;have hu:=qd hr;refine⟨_,(jm (jI (i:=2) nd rfl (Or.inl rfl) (kP jh))
   (jm (qB PassesOwn.never rfl (kr rfl B.range_ (ja (jH jO rfl B.len_ (by kernel_rfl) (ja (pv 0) jh)) jh)) (jG (i:=3) nd rfl (Or.inl rfl)) (jm (jI (i:=4) nd rfl (Or.inl rfl) (jQ xk (hr.mono (by decide)) rfl (ja (pv 0) (ja (pv 2) jh))))
   (jm (jI (i:=2) nd rfl (Or.inl rfl) (jw xo (pv 2) (kP (ja (xt qy (pv 4) (jw kL (pv 1) (jH jO rfl B.len_ (by kernel_rfl) (ja (pv 4) jh))) (fun _ _=>rfl)) jh))))
   (jn (jI (i:=1) nd rfl (Or.inl rfl) (jw qR (pv 1) (jH jO rfl B.len_ (by kernel_rfl) (ja (pv 4) jh))))))))
   (jn (j7 (pv 2))))),?_⟩
  try dsimp only[qA]
  have X:Ext Fe H0 Fe H0:=Ext.refl S_;unfold zZ at Hm;have jd:Bor K H0 Fe (cL cI) below_here kd:=jr;clear jr;obtain rfl:xT=.int cell_here:=xU;refine(xX (K:=K) (c:=(cT cI)) (ya (kG (c:=cI)) (by decide)) X Hm ?_);intro row xB F H Hm E X jv;replace jd:=E.xb jd;refine Jf (K:=K) (c:=cI) ?_ X Hm (fun F1 b σ' F' H'=>match b with | (cell_here,row)=>∃ (xB:V) (w1_:Option V) (w2_:Option V),σ'=[some kd,some (.int cell_here),some xB,w1_,w2_]/\(Ext Fe H0 F' H'/\Same F1 F')/\(cT cI).rep K F' row xB) ?_ ?_ ?_ ?_
  ·exact(kI (jR xW (kZ (jj (p:=pB (cL cI)) (i:=0) rfl (Bor.b jd X))) rfl) rfl)
  ·intro F H E X;replace jv:=E.xc jv;exact⟨_,_,_,rfl,⟨X,(Same.refl _)⟩,jv⟩
  ·rintro F1 ⟨cell_here,row⟩ σ_ F_ H_ ⟨xB,w1_,w2_,rfl,⟨X_,SF_⟩,jv⟩;exact⟨X_,SF_⟩
  ·rintro F1 S0_ ⟨cell_here,row⟩ B_ step jbU σ_ F_ H_ F H ⟨xB,w1_,w2_,rfl,⟨X,SF_⟩,jv⟩ E jbV Hm
   try dsimp only at Hm
   have SL0:=SF_;replace SF_:=Same.trans S0_ SF_;replace jd:=Bor.mono jd SF_;replace X:=Ext.trans X E;replace jd:=E.xb jd;replace jv:=E.xc jv;replace SL0:=E.xd SL0;obtain rfl:jbU=.int step:=jbV;refine qX ?_;refine(xX (K:=K) (c:=(cL cI)) (xc (ju (jj (p:=pB (cL cI)) (i:=0) rfl (Bor.b jd X)) (jj (p:=pF (cT cI)) (i:=2) rfl jv) rfl)) X Hm ?_);intro free_here jf2 F H Hm E X qW;replace jv:=E.xc jv;replace SL0:=E.xd SL0;refine(xX (K:=K) (c:=(cT cI)) (jy zq (jj (p:=pF (cT cI)) (i:=2) rfl jv) (ya (xM (jy zz (kZ (x8 (jj (p:=pF (cL cI)) (i:=4) rfl qW))) (jf Gn (jJ (i:=1) rfl) (jR xW (kZ (x8 (jj (p:=pF (cL cI)) (i:=4) rfl qW))) rfl) rfl) rfl) (kG (c:=cI)) rfl) (by decide)) rfl) X Hm ?_);intro row xB F H Hm E X jv;replace qW:=E.xc qW;replace SL0:=E.xd SL0;refine(yP (K:=K) (jf jeS (jJ (i:=1) rfl) (jR xW (kZ (x8 (jj (p:=pF (cL cI)) (i:=4) rfl qW))) rfl) rfl) X Hm ?_);intro cell_here F H Hm E X;replace jv:=E.xc jv;replace SL0:=E.xd SL0;cases Hm;exact⟨F,_,_,_,rfl,⟨X,SL0⟩,jv⟩
  ·rintro F1 S0_ ⟨cell_here,row⟩ σ_ F H Hm ⟨xB,w1_,w2_,rfl,⟨X,SF_⟩,jv⟩
   try dsimp only at Hm
   exact kc (K:=K) (jj (p:=pF (cT cI)) (i:=2) rfl jv) X Hm Kk
theorem sc__law_spoilt:FnScope ["_law_row","_law_cell_here","_law_at","_law_rest"] ["_law_row","_law_cell_here"] (jo (top 42)):=⟨rfl,rfl,rfl,by decide +kernel,rfl,by decide +kernel,by decide +kernel⟩
theorem Qh (B:Bi mg) (Fn:Fun K "_law_spoilt" "_law_spoilt" (top 42) f fd):FnOk P w K mg base CX0 1 f fd ["_law_row","_law_cell_here"] (sp2 K (pF (cT cI)) (pF cI) (rF (cT cI)) xH):=by
 refine Fn.ok sc__law_spoilt (fun vs H Q E h=>?_) (fun cdv A outer s H0 vs Q E_ hr h=>?_)
 ·obtain⟨_,_,_,_,_,_,rfl,_⟩:=h;rfl
 ·obtain⟨row,cell_here,xB,xT,Fe,R,rfl,S_,jv,xU,Hm,Kk⟩:=h;have nd:=sc__law_spoilt.nd;have hu:=qd hr;refine⟨_,(jm (jI (i:=2) nd rfl (Or.inl rfl) (jw kL (jw qR (pv 1) jl) (jH jO rfl B.len_ (by kernel_rfl) (ja (pv 0) jh))))
   (jm (jI (i:=3) nd rfl (Or.inl rfl) (jw qR (pv 1) jl))
   (jm (kU (jV xI (jw kL (pv 1) jl) jl (kh _)) (jn (j7 (jw xo (jw xo (xl yt (pv 0) x5 (x6 (pv 2))) (kP (ja (xt GD (pv 0) (jw kL (pv 3) (jH jO rfl B.len_ (by kernel_rfl) (ja (pv 0) jh))) (fun _ _=>rfl)) jh))) (xl yt (pv 0) (x6 (jw kD (pv 2) jl)) x5)))) j8)
   (jm (kU (jV xI (jw kL (pv 1) jl) jl (kh _)) (jn (j7 (jw xo (xl yt (pv 0) x5 (x6 (pv 2))) (xl yt (pv 0) (x6 (jw kD (pv 2) jl)) x5)))) j8)
   (jm (kU (jV xI (jw kL (pv 1) jl) jl (kh _)) (jn (j7 (jw xo (pv 0) (kP (ja (jw kL (pv 3) (jw kD (jH jO rfl B.len_ (by kernel_rfl) (ja (pv 0) jh)) jl)) jh))))) j8)
   (jm (kU (jV xI (jw kL (pv 1) jl) jl (kh _)) (jn (j7 (jw xo (Zg rfl rfl B.tuple_ rfl B.reversed_ (xl yt (pv 0) x5 (x6 (jw kD (pv 2) jl)))) (xl yt (pv 0) (x6 (jw kD (pv 2) jl)) x5)))) j8)
   (jn (j7 (jw xo (jw xo (xl yt (pv 0) x5 (x6 (pv 2))) (kP (ja (jw zQ (jw kL (pv 3) (jw kD (jw kD (jw G0 jl jl) (jw G0 jl jl)) jl)) (jw G0 jl jl)) jh))) (xl yt (pv 0) (x6 (jw kD (pv 2) jl)) x5)))))))))),?_⟩
  try dsimp only[qA]
  have X:Ext Fe H0 Fe H0:=Ext.refl S_;unfold xH at Hm;replace jv:(cT cI).rep K Fe row xB:=jv;obtain rfl:xT=.int cell_here:=xU;refine(qp (K:=K) (jf Gn (qT ⟨by decide,by decide⟩ (jJ (i:=1) rfl) (jk _) rfl) (jR Qr (jj (p:=pF (cT cI)) (i:=0) rfl jv) rfl) rfl) X Hm ?_);intro at_ F H Hm E X;replace jv:=E.xc jv;refine(qp (K:=K) (qT ⟨by decide,by decide⟩ (jJ (i:=1) rfl) (jk _) rfl) X Hm ?_);intro rest_ F H Hm E X;replace jv:=E.xc jv;refine(Je (K:=K) (kE (jf xb (qi (by decide) (jJ (i:=1) rfl) (jk _) rfl) (jk _) rfl)) X Hm ?_ ?_)
  ·intro F H Hc Hm E X;replace jv:=E.xc jv;exact kc (K:=K) (jy zq (jy zq (qH (jj (p:=pF (cT cI)) (i:=0) rfl jv) x9 (kX (jJ (i:=2) rfl) rfl) rfl) (ya (xM (jy U8 (jj (p:=pF (cT cI)) (i:=0) rfl jv) (jf Gn (jJ (i:=3) rfl) (jR Qr (jj (p:=pF (cT cI)) (i:=0) rfl jv) rfl) rfl) rfl) (kG (c:=cI)) rfl) (by decide)) rfl) (qH (jj (p:=pF (cT cI)) (i:=0) rfl jv) (kX (jf jY (jJ (i:=2) rfl) (jk _) rfl) rfl) x9 rfl) rfl) X Hm Kk
  ·intro F H Hc Hm E X;replace jv:=E.xc jv;refine yG ?_;refine(Je (K:=K) (kE (jf xb (qi (by decide) (jJ (i:=1) rfl) (jk _) rfl) (jk _) rfl)) X Hm ?_ ?_)
   ·intro F H Hc Hm E X;replace jv:=E.xc jv;exact kc (K:=K) (jf zq (qH (jj (p:=pF (cT cI)) (i:=0) rfl jv) x9 (kX (jJ (i:=2) rfl) rfl) rfl) (qH (jj (p:=pF (cT cI)) (i:=0) rfl jv) (kX (jf jY (jJ (i:=2) rfl) (jk _) rfl) rfl) x9 rfl) rfl) X Hm Kk
   ·intro F H Hc Hm E X;replace jv:=E.xc jv;refine yG ?_;refine(Je (K:=K) (kE (jf xb (qi (by decide) (jJ (i:=1) rfl) (jk _) rfl) (jk _) rfl)) X Hm ?_ ?_)
    ·intro F H Hc Hm E X;replace jv:=E.xc jv;exact kc (K:=K) (jy zq (jj (p:=pF (cT cI)) (i:=0) rfl jv) (ya (xM (jf Gn (jJ (i:=3) rfl) (jf jY (jR Qr (jj (p:=pF (cT cI)) (i:=0) rfl jv) rfl) (jk _) rfl) rfl) (kG (c:=cI)) rfl) (by decide)) rfl) X Hm Kk
    ·intro F H Hc Hm E X;replace jv:=E.xc jv;refine yG ?_;refine(Je (K:=K) (kE (jf xb (qi (by decide) (jJ (i:=1) rfl) (jk _) rfl) (jk _) rfl)) X Hm ?_ ?_)
     ·intro F H Hc Hm E X;replace jv:=E.xc jv;exact kc (K:=K) (jf zq (Vr (qH (jj (p:=pF (cT cI)) (i:=0) rfl jv) x9 (kX (jf jY (jJ (i:=2) rfl) (jk _) rfl) rfl) rfl) rfl) (qH (jj (p:=pF (cT cI)) (i:=0) rfl jv) (kX (jf jY (jJ (i:=2) rfl) (jk _) rfl) rfl) x9 rfl) rfl) X Hm Kk
     ·intro F H Hc Hm E X;replace jv:=E.xc jv;refine yG ?_;exact kc (K:=K) (jy zq (jy zq (qH (jj (p:=pF (cT cI)) (i:=0) rfl jv) x9 (kX (jJ (i:=2) rfl) rfl) rfl) (ya (xM (jy jY (jf Gn (jJ (i:=3) rfl) (jf jY (jf jY (xN (i:=10) (j:=40) ⟨by decide,by decide,by decide⟩ (jk _) (jk _) rfl) (xN (i:=10) (j:=20) ⟨by decide,by decide,by decide⟩ (jk _) (jk _) rfl) rfl) (jk _) rfl) rfl) (xN (i:=10) (j:=20) ⟨by decide,by decide,by decide⟩ (jk _) (jk _) rfl) rfl) (kG (c:=cI)) rfl) (by decide)) rfl) (qH (jj (p:=pF (cT cI)) (i:=0) rfl jv) (kX (jf jY (jJ (i:=2) rfl) (jk _) rfl) rfl) x9 rfl) rfl) X Hm Kk
theorem sc_Order_size:FnScope ["self"] ["self"] (jo ((qz (top 15) 1))):=⟨rfl,rfl,rfl,by decide +kernel,rfl,by decide +kernel,by decide +kernel⟩
theorem Ux (B:Bi mg) (T_Order:Txt_Order K mg je) (Fn:Fun K "size" "Order.size" ((qz (top 15) 1)) f fd):FnOk P w K mg base CX0 1 f fd ["self"] (sp1 K (pF (jp je)) (rF cI) jP):=by
 refine Fn.ok sc_Order_size (fun vs H Q E h=>?_) (fun cdv A outer s H0 vs Q E_ hr h=>?_)
 ·obtain⟨_,_,_,_,rfl,_⟩:=h;rfl
 ·obtain⟨self,jhQ,Fe,R,rfl,S_,jbW,Hm,Kk⟩:=h;have nd:=sc_Order_size.nd;have hu:=qd hr;refine⟨_,(jn (j7 (UR (pv 0) rfl))),?_⟩
  try dsimp only[qA]
  have X:Ext Fe H0 Fe H0:=Ext.refl S_;unfold jP at Hm;replace jbW:(jp je).rep K Fe self jhQ:=jbW;exact kc (K:=K) (zh (Qc T_Order) (jj (p:=pF (jp je)) (i:=0) rfl jbW) rfl) X Hm Kk
theorem sc_holds_all:FnScope ["bits","others"] ["bits","others"] (jo (top 18)):=⟨rfl,rfl,rfl,by decide +kernel,rfl,by decide +kernel,by decide +kernel⟩
theorem VI (B:Bi mg) (Fn:Fun K "holds_all" "holds_all" (top 18) f fd):FnOk P w K mg base CX0 1 f fd ["bits","others"] (sp2 K (pF cI) (pF cI) (rF cB) km):=by
 refine Fn.ok sc_holds_all (fun vs H Q E h=>?_) (fun cdv A outer s H0 vs Q E_ hr h=>?_)
 ·obtain⟨_,_,_,_,_,_,rfl,_⟩:=h;rfl
 ·obtain⟨bits,others,Gb,jdG,Fe,R,rfl,S_,Gc,jdH,Hm,Kk⟩:=h;have nd:=sc_holds_all.nd;have hu:=qd hr;refine⟨_,(jn (j7 (zx xI (jw jdN (pv 0) (pv 1)) (pv 1) (kh _)))),?_⟩
  try dsimp only[qA]
  have X:Ext Fe H0 Fe H0:=Ext.refl S_;unfold km at Hm;obtain rfl:Gb=.int bits:=Gc;obtain rfl:jdG=.int others:=jdH;exact kc (K:=K) (jf xb (jf jY (jJ (i:=0) rfl) (jJ (i:=1) rfl) rfl) (jJ (i:=1) rfl) rfl) X Hm Kk
theorem sc_is_line:FnScope ["order","line","ahead","thing"] ["order","line"] (jo (top 24)):=⟨rfl,rfl,rfl,by decide +kernel,rfl,by decide +kernel,by decide +kernel⟩
theorem Zw (B:Bi mg) (T_Order:Txt_Order K mg je) (Fn:Fun K "is_line" "is_line" (top 24) f fd) (jW:Mth P w K mg base je "size" 1 ["self"] (sp1 K (pF (jp je)) (rF cI) jP)) (qo:Def P w K mg base "holds_all" 1 ["bits","others"] (sp2 K (pF cI) (pF cI) (rF cB) km)):FnOk P w K mg base CX0 2 f fd ["order","line"] (sp2 K (pF (jp je)) (pF (cT cI)) (rF cB) kz):=by
 refine Fn.ok sc_is_line (fun vs H Q E h=>?_) (fun cdv A outer s H0 vs Q E_ hr h=>?_)
 ·obtain⟨_,_,_,_,_,_,rfl,_⟩:=h;rfl
 ·obtain⟨order,line,j3,y2,Fe,R,rfl,S_,jb,jE,Hm,Kk⟩:=h;have nd:=sc_is_line.nd;have hu:=qd hr;refine⟨_,(jm (kU (jV (WV hu) (jH yT rfl B.sorted_ (by kernel_rfl) (ja (pv 1) jh)) (xr (zT rfl) rfl B.list_ (by kernel_rfl) (ja (V2 rfl B.range_ (ja (Gm jW (hr.mono (by decide)) (pv 0)) jh)) jh)) (kh _)) (jn (j7 yI)) j8)
   (jm (jI (i:=2) nd rfl (Or.inl rfl) jl)
   (jm (qB PassesOwn.never rfl (jdK (pv 1)) (jG (i:=3) nd rfl (Or.inl rfl)) (jm (kU (yE (yh (jQ qo (hr.mono (by decide)) rfl (ja (pv 2) (ja (xt GD (UR (pv 0) rfl) (pv 3) (fun _ _=>rfl)) jh))))) (jn (j7 yI)) j8)
   (jn (jI (i:=2) nd rfl (Or.inl rfl) (jw JW (pv 2) (jw zo jl (pv 3)))))))
   (jn (j7 yI))))),?_⟩
  try dsimp only[qA]
  have X:Ext Fe H0 Fe H0:=Ext.refl S_;unfold kz at Hm;replace jb:(jp je).rep K Fe order j3:=jb;replace jE:(cT cI).rep K Fe line y2:=jE;refine(ZE (K:=K) (kE (jy (jcp (eqL eqI) (by decide) nfL) (U5 (xE (jR Jm (jj (p:=pF (cT cI)) (i:=1) rfl jE) rfl))) (U5 (xE (Vf (qY qJ (jj (p:=pF (jp je)) (i:=0) rfl jb) rfl) rfl))) rfl)) X Hm ?_ ?_)
  ·intro F H Hm E X
   try dsimp only[wm] at Hm
   exact kc (K:=K) (yJ _) X Hm Kk
  ·intro F H Hm E X
   try dsimp only[wb] at Hm
   replace jb:=E.xc jb;replace jE:=E.xc jE;refine yG ?_;refine(qp (K:=K) (jk _) X Hm ?_);intro ahead F H Hm E X;replace jb:=E.xc jb;replace jE:=E.xc jE;refine jcL (K:=K) (c:=cI) (fun c=>c=R) ?_ X Hm ?_ (fun F1 ahead σ' F' H'=>∃ (w4_:Option V),σ'=[some j3,some y2,some (.int ahead),w4_]/\(Ext Fe H0 F' H'/\Same F1 F')) ?_ ?_ ?_ ?_
   ·exact(jdX (jj (p:=pF (cT cI)) (i:=1) rfl jE))
   ·intro c h;exact Option.some.inj h
   ·intro F H E X;exact⟨_,rfl,⟨X,(Same.refl _)⟩⟩
   ·rintro F1 ahead σ_ F_ H_ ⟨w4_,rfl,⟨X_,SF_⟩⟩;exact⟨X_,SF_⟩
   ·rintro F1 S0_ ahead B_ thing qU σ_ F_ H_ F H ⟨w4_,rfl,⟨X,SF_⟩⟩ E qV Hm Hr
    try dsimp only at Hm
    have SL0:=SF_;replace SF_:=Same.trans S0_ SF_;replace jb:=Cd.mono _ SF_ jb;replace X:=Ext.trans X E;replace jb:=E.xc jb;replace SL0:=E.xd SL0;obtain rfl:qU=.int thing:=qV;refine qX ?_;refine(ZE (K:=K) (xn (xC (qv (jJ (i:=2) rfl) (jf U8 (zh (xj T_Order) (jj (p:=pF (jp je)) (i:=0) rfl jb) rfl) (jJ (i:=3) rfl) rfl) rfl)) rfl) X Hm ?_ ?_)
    ·intro F H Hm E X
     try dsimp only[wm] at Hm
     obtain⟨y_,Hy_,Hm⟩:=bind_some Hm;cases Hm;exact kc (K:=K) (yJ _) X (Hy_.trans (congrArg some (Hr _ rfl))) Kk
    ·intro F H Hm E X
     try dsimp only[wb] at Hm
     replace SL0:=E.xd SL0;refine yG ?_;refine(yP (K:=K) (jy jY (jJ (i:=2) rfl) (jf JZ (jk _) (jJ (i:=3) rfl) rfl) rfl) X Hm ?_);intro ahead F H Hm E X;replace SL0:=E.xd SL0;cases Hm;exact⟨_,F,rfl,_,rfl,⟨X,SL0⟩⟩
   ·rintro F1 S0_ ahead σ_ F H Hm ⟨w4_,rfl,⟨X,SF_⟩⟩
    try dsimp only at Hm
    exact kc (K:=K) (yJ _) X Hm Kk
theorem sc_check_line:FnScope ["order","line"] ["order","line"] (jo (top 25)):=⟨rfl,rfl,rfl,by decide +kernel,rfl,by decide +kernel,by decide +kernel⟩
theorem Uy (B:Bi mg) (T_Order:Txt_Order K mg je) (Fn:Fun K "check_line" "check_line" (top 25) f fd) (yn:Def P w K mg base "is_line" 2 ["order","line"] (sp2 K (pF (jp je)) (pF (cT cI)) (rF cB) kz)):FnOk P w K mg base CX0 3 f fd ["order","line"] (sp2 K (pF (jp je)) (pF (cT cI)) (rF cU) kj):=by
 refine Fn.ok sc_check_line (fun vs H Q E h=>?_) (fun cdv A outer s H0 vs Q E_ hr h=>?_)
 ·obtain⟨_,_,_,_,_,_,rfl,_⟩:=h;rfl
 ·obtain⟨order,line,j3,y2,Fe,R,rfl,S_,jb,jE,Hm,Kk⟩:=h;have nd:=sc_check_line.nd;have hu:=qd hr;refine⟨_,(jn (kU (yE (yh (jQ yn (hr.mono (by decide)) rfl (ja (pv 0) (ja (pv 1) jh))))) (jn zO) j8)),?_⟩
  try dsimp only[qA]
  have X:Ext Fe H0 Fe H0:=Ext.refl S_;unfold kj at Hm;replace jb:(jp je).rep K Fe order j3:=jb;replace jE:(cT cI).rep K Fe line y2:=jE;refine(jcs (K:=K) (xn (xC (ju (jj (p:=pF (jp je)) (i:=0) rfl jb) (jj (p:=pF (cT cI)) (i:=1) rfl jE) rfl)) rfl) X Hm ?_ ?_)
  ·intro F H Hm E X
   try dsimp only[wm] at Hm
   cases Hm
  ·intro F H Hm E X
   try dsimp only[wb] at Hm
   refine yG ?_;cases Hm;exact Kk _ F H X rfl
theorem sc_things_of:FnScope ["bits"] ["bits"] (jo (top 17)):=⟨rfl,rfl,rfl,by decide +kernel,rfl,by decide +kernel,by decide +kernel⟩
theorem VJ (B:Bi mg) (Fn:Fun K "things_of" "things_of" (top 17) f fd) (JN:Def P w K mg base "has" 1 ["bits","thing"] (sp2 K (pF cI) (pF cI) (rF cB) zl)):FnOk P w K mg base CX0 2 f fd ["bits"] (sp1 K (pF cI) (rO cI) ql):=by
 refine Fn.ok sc_things_of (fun vs H Q E h=>?_) (fun cdv A outer s H0 vs Q E_ hr h=>?_)
 ·obtain⟨_,_,_,_,rfl,_⟩:=h;rfl
 ·obtain⟨bits,Gb,Fe,R,rfl,S_,Gc,Hm,Kk⟩:=h;have nd:=sc_things_of.nd;have hu:=qd hr;refine⟨_,(jn (j7 (xy (own:=["thing"]) (ix:=[0]) (xK rfl) rfl (kr rfl B.range_ (ja (jgr PySem.F.plainAttrs_int PySem.F.slot_int_bit_length PySem.F.type_int_bit_length jaa (pv 0)) jh)) (fun _=>(jG (i:=0) (show List.Nodup (["thing","bits"]:List Str) by decide +kernel) rfl (Or.inl rfl))) (fun _=>QY (yh (jQ JN (hr.mono (by decide)) rfl (ja (pv 1) (ja (pv 0) jh))))) (fun _=>(pv 0))))),?_⟩
  try dsimp only[qA]
  have X:Ext Fe H0 Fe H0:=Ext.refl S_;unfold ql at Hm;obtain rfl:Gb=.int bits:=Gc;exact kc (K:=K) (qb (zB (Ub (jJ (i:=0) rfl) rfl) rfl) [some (.int bits)] rfl (fun b2 thing _ _ E1=>(xC (ju (jJ (i:=1) rfl) (jJ (i:=0) rfl) rfl))) (fun b2 thing _ _ E1=>(jJ (i:=0) rfl)) rfl) X Hm Kk
theorem sc_is_downset:FnScope ["order","bits"] ["order","bits"] (jo (top 19)):=⟨rfl,rfl,rfl,by decide +kernel,rfl,by decide +kernel,by decide +kernel⟩
theorem Uz (B:Bi mg) (T_Order:Txt_Order K mg je) (Fn:Fun K "is_downset" "is_downset" (top 19) f fd) (jW:Mth P w K mg base je "size" 1 ["self"] (sp1 K (pF (jp je)) (rF cI) jP)) (zH:Def P w K mg base "things_of" 2 ["bits"] (sp1 K (pF cI) (rO cI) ql)) (qo:Def P w K mg base "holds_all" 1 ["bits","others"] (sp2 K (pF cI) (pF cI) (rF cB) km)):FnOk P w K mg base CX0 3 f fd ["order","bits"] (sp2 K (pF (jp je)) (pF cI) (rF cB) kT):=by
 refine Fn.ok sc_is_downset (fun vs H Q E h=>?_) (fun cdv A outer s H0 vs Q E_ hr h=>?_)
 ·obtain⟨_,_,_,_,_,_,rfl,_⟩:=h;rfl
 ·obtain⟨order,bits,j3,Gb,Fe,R,rfl,S_,jb,Gc,Hm,Kk⟩:=h;have nd:=sc_is_downset.nd;have hu:=qd hr;refine⟨_,(jm (kU (PW.pt (ZL (jV G1 (pv 1) jl (kh _)) (UI (jV UO (jw jdM (pv 1) (Gm jW (hr.mono (by decide)) (pv 0))) jl (kh _))))) (jn (j7 yI)) j8)
   (jn (j7 (jH (Q3 rfl) rfl B.all_ (by kernel_rfl) (ja (xy (own:=["thing"]) (ix:=[0,1]) (xK rfl) rfl (qS (jQ zH (hr.mono (by decide)) rfl (ja (pv 1) jh))) (fun _=>(jG (i:=0) (show List.Nodup (["thing","order","bits"]:List Str) by decide +kernel) rfl (Or.inl rfl))) (fun _=>xJ) (fun _=>(jQ qo (hr.mono (by decide)) rfl (ja (pv 2) (ja (xt GD (UR (pv 1) rfl) (pv 0) (fun _ _=>rfl)) jh))))) jh))))),?_⟩
  try dsimp only[qA]
  have X:Ext Fe H0 Fe H0:=Ext.refl S_;unfold kT at Hm;replace jb:(jp je).rep K Fe order j3:=jb;obtain rfl:Gb=.int bits:=Gc;refine(ZE (K:=K) (Ji (kE (jf xL (jJ (i:=1) rfl) (jk _) rfl)) (kE (jy xL (jy jgD (jJ (i:=1) rfl) (qY qJ (jj (p:=pF (jp je)) (i:=0) rfl jb) rfl) rfl) (jk _) rfl)) rfl) X Hm ?_ ?_)
  ·intro F H Hm E X
   try dsimp only[wm] at Hm
   exact kc (K:=K) (yJ _) X Hm Kk
  ·intro F H Hm E X
   try dsimp only[wb] at Hm
   replace jb:=E.xc jb;refine yG ?_;exact kc (K:=K) (xF jfa (kZ (xE (qb (yq (kZ (xE (kH (jJ (i:=1) rfl) rfl)))) [some j3,some (.int bits)] rfl (fun b6 thing _ _ E5=>yS) (fun b6 thing _ _ E5=>(qv (jJ (i:=2) rfl) (jf U8 (zh (xj T_Order) (jj (p:=pF (jp je)) (i:=1) rfl (Cd.mono _ (E5).f jb)) rfl) (jJ (i:=0) rfl) rfl) rfl)) rfl))) rfl) X Hm Kk
theorem sc_downsets:FnScope ["order"] ["order"] (jo (top 21)):=⟨rfl,rfl,rfl,by decide +kernel,rfl,by decide +kernel,by decide +kernel⟩
theorem WI (B:Bi mg) (T_Order:Txt_Order K mg je) (Fn:Fun K "downsets" "downsets" (top 21) f fd) (jW:Mth P w K mg base je "size" 1 ["self"] (sp1 K (pF (jp je)) (rF cI) jP)) (y3:Def P w K mg base "is_downset" 3 ["order","bits"] (sp2 K (pF (jp je)) (pF cI) (rF cB) kT)):FnOk P w K mg base CX0 4 f fd ["order"] (sp1 K (pF (jp je)) (rO cI) qw):=by
 refine Fn.ok sc_downsets (fun vs H Q E h=>?_) (fun cdv A outer s H0 vs Q E_ hr h=>?_)
 ·obtain⟨_,_,_,_,rfl,_⟩:=h;rfl
 ·obtain⟨order,j3,Fe,R,rfl,S_,jb,Hm,Kk⟩:=h;have nd:=sc_downsets.nd;have hu:=qd hr;refine⟨_,(jn (j7 (xy (own:=["bits"]) (ix:=[0]) (xK rfl) rfl (kr rfl B.range_ (ja (jw zo jl (Gm jW (hr.mono (by decide)) (pv 0))) jh)) (fun _=>(jG (i:=0) (show List.Nodup (["bits","order"]:List Str) by decide +kernel) rfl (Or.inl rfl))) (fun _=>QY (yh (jQ y3 (hr.mono (by decide)) rfl (ja (pv 1) (ja (pv 0) jh))))) (fun _=>(pv 0))))),?_⟩
  try dsimp only[qA]
  have X:Ext Fe H0 Fe H0:=Ext.refl S_;unfold qw at Hm;replace jb:(jp je).rep K Fe order j3:=jb;exact kc (K:=K) (qb (Vb (jy JZ (jk _) (qY qJ (jj (p:=pF (jp je)) (i:=0) rfl jb) rfl) rfl) rfl) [some j3] rfl (fun b5 bits _ _ E4=>(xC (ju (jj (p:=pF (jp je)) (i:=1) rfl (Cd.mono _ (E4).f jb)) (jJ (i:=0) rfl) rfl))) (fun b5 bits _ _ E4=>(jJ (i:=0) rfl)) rfl) X Hm Kk
theorem sc_is_door:FnScope ["order","bits","thing"] ["order","bits","thing"] (jo (top 20)):=⟨rfl,rfl,rfl,by decide +kernel,rfl,by decide +kernel,by decide +kernel⟩
theorem Zx (B:Bi mg) (T_Order:Txt_Order K mg je) (Fn:Fun K "is_door" "is_door" (top 20) f fd) (JN:Def P w K mg base "has" 1 ["bits","thing"] (sp2 K (pF cI) (pF cI) (rF cB) zl)) (qo:Def P w K mg base "holds_all" 1 ["bits","others"] (sp2 K (pF cI) (pF cI) (rF cB) km)):FnOk P w K mg base CX0 2 f fd ["order","bits","thing"] (sp3 K (pF (jp je)) (pF cI) (pF cI) (rF cB) xa):=by
 refine Fn.ok sc_is_door (fun vs H Q E h=>?_) (fun cdv A outer s H0 vs Q E_ hr h=>?_)
 ·obtain⟨_,_,_,_,_,_,_,_,rfl,_⟩:=h;rfl
 ·obtain⟨order,bits,thing,j3,Gb,qU,Fe,R,rfl,S_,jb,Gc,qV,Hm,Kk⟩:=h;have nd:=sc_is_door.nd;have hu:=qd hr;refine⟨_,(jn (j7 (WO (UL (jQ JN (hr.mono (by decide)) rfl (ja (pv 1) (ja (pv 2) jh)))) (UK (jQ qo (hr.mono (by decide)) rfl (ja (pv 1) (ja (xt GD (UR (pv 0) rfl) (pv 2) (fun _ _=>rfl)) jh))))))),?_⟩
  try dsimp only[qA]
  have X:Ext Fe H0 Fe H0:=Ext.refl S_;unfold xa at Hm;replace jb:(jp je).rep K Fe order j3:=jb;obtain rfl:Gb=.int bits:=Gc;obtain rfl:qU=.int thing:=qV;exact kc (K:=K) (W_ (Ua (ju (jJ (i:=1) rfl) (jJ (i:=2) rfl) rfl) rfl) (qv (jJ (i:=1) rfl) (jf U8 (zh (xj T_Order) (jj (p:=pF (jp je)) (i:=0) rfl jb) rfl) (jJ (i:=2) rfl) rfl) rfl) rfl) X Hm Kk
theorem sc_things_next:FnScope ["order","ahead"] ["order","ahead"] (jo (top 26)):=⟨rfl,rfl,rfl,by decide +kernel,rfl,by decide +kernel,by decide +kernel⟩
theorem Qi (B:Bi mg) (T_Order:Txt_Order K mg je) (Fn:Fun K "things_next" "things_next" (top 26) f fd) (jW:Mth P w K mg base je "size" 1 ["self"] (sp1 K (pF (jp je)) (rF cI) jP)) (JO:Def P w K mg base "is_door" 2 ["order","bits","thing"] (sp3 K (pF (jp je)) (pF cI) (pF cI) (rF cB) xa)):FnOk P w K mg base CX0 3 f fd ["order","ahead"] (sp2 K (pF (jp je)) (pF cI) (rO cI) jX):=by
 refine Fn.ok sc_things_next (fun vs H Q E h=>?_) (fun cdv A outer s H0 vs Q E_ hr h=>?_)
 ·obtain⟨_,_,_,_,_,_,rfl,_⟩:=h;rfl
 ·obtain⟨order,ahead,j3,zI,Fe,R,rfl,S_,jb,zJ,Hm,Kk⟩:=h;have nd:=sc_things_next.nd;have hu:=qd hr;refine⟨_,(jn (j7 (xy (own:=["thing"]) (ix:=[0,1]) (xK rfl) rfl (kr rfl B.range_ (ja (Gm jW (hr.mono (by decide)) (pv 0)) jh)) (fun _=>(jG (i:=0) (show List.Nodup (["thing","order","ahead"]:List Str) by decide +kernel) rfl (Or.inl rfl))) (fun _=>QY (yh (jQ JO (hr.mono (by decide)) rfl (ja (pv 1) (ja (pv 2) (ja (pv 0) jh)))))) (fun _=>(pv 0))))),?_⟩
  try dsimp only[qA]
  have X:Ext Fe H0 Fe H0:=Ext.refl S_;unfold jX at Hm;replace jb:(jp je).rep K Fe order j3:=jb;obtain rfl:zI=.int ahead:=zJ;exact kc (K:=K) (qb (Vb (qY qJ (jj (p:=pF (jp je)) (i:=0) rfl jb) rfl) rfl) [some j3,some (.int ahead)] rfl (fun b3 thing _ _ E2=>(xC (xu (jj (p:=pF (jp je)) (i:=1) rfl (Cd.mono _ (E2).f jb)) (jJ (i:=2) rfl) (jJ (i:=0) rfl) rfl))) (fun b3 thing _ _ E2=>(jJ (i:=0) rfl)) rfl) X Hm Kk
theorem sc_ways_on:FnScope ["order","ways","ahead","grown"] ["order"] (jo (top 27)):=⟨rfl,rfl,rfl,by decide +kernel,rfl,by decide +kernel,by decide +kernel⟩
theorem Zy (B:Bi mg) (T_Order:Txt_Order K mg je) (Fn:Fun K "ways_on" "ways_on" (top 27) f fd) (GA:Def P w K mg base "downsets" 4 ["order"] (sp1 K (pF (jp je)) (rO cI) qw)) (kl:Def P w K mg base "things_next" 3 ["order","ahead"] (sp2 K (pF (jp je)) (pF cI) (rO cI) jX)):FnOk P w K mg base CX0 5 f fd ["order"] (sp1 K (pF (jp je)) (rD (κ:=Int) cI) kA):=by
 refine Fn.ok sc_ways_on (fun vs H Q E h=>?_) (fun cdv A outer s H0 vs Q E_ hr h=>?_)
 ·obtain⟨_,_,_,_,rfl,_⟩:=h;rfl
 ·obtain⟨order,j3,Fe,R,rfl,S_,jb,Hm,Kk⟩:=h;have nd:=sc_ways_on.nd;have hu:=qd hr;refine⟨_,(jm (jI (i:=1) nd rfl (Or.inr rfl) jc4)
   (jm (qB PassesOwn.never rfl (jgZ rfl B.reversed_ (jQ GA (hr.mono (by decide)) rfl (ja (pv 0) jh))) (jG (i:=2) nd rfl (Or.inr rfl)) (jm (Gk (i:=3) (own:=["thing"]) (ix:=[2]) (xK rfl) rfl (qS (jQ kl (hr.mono (by decide)) rfl (ja (pv 0) (ja (pv 2) jh)))) (fun _=>(jG (i:=0) (show List.Nodup (["thing","ahead"]:List Str) by decide +kernel) rfl (Or.inl rfl))) (fun _=>xJ) (fun _=>(jw JW (pv 1) (jw zo jl (pv 0)))) nd rfl rfl)
   (jn (ja6 (hu1 hu) (pv 1) (pv 2) (WP (jV UO (jH jO rfl B.len_ (by kernel_rfl) (ja (pv 3) jh)) jl (kh _)) (jH (WX rfl) rfl B.sum_ (by kernel_rfl) (ja (xy (own:=["bits"]) (ix:=[1]) (xK rfl) rfl (qS (pv 3)) (fun _=>(jG (i:=0) (show List.Nodup (["bits","ways"]:List Str) by decide +kernel) rfl (Or.inl rfl))) (fun _=>xJ) (fun _=>(yu (hu1 hu) (pv 1) (pv 0) (fun _ _=>rfl)))) jh)) jl) rfl))))
   (jn (j7 (pv 1))))),?_⟩
  try dsimp only[qA]
  have X:Ext Fe H0 Fe H0:=Ext.refl S_;unfold kA at Hm;replace jb:(jp je).rep K Fe order j3:=jb;refine(Yg (K:=K) (jfx (κ:=Int) (c:=cI)) X Hm ?_);intro ways xf F H Hm E X Hn O_ways;replace jb:=E.xc jb;refine Jf (K:=K) (c:=cI) ?_ X Hm (fun F1 ways σ' F' H'=>∃ (xf:Addr) (w2_:Option V) (w3_:Option V),σ'=[some j3,some (.ref xf),w2_,w3_]/\(Ext Fe H0 F' H'/\Same F1 F')/\OwnD K H0 F' H' cI ways xf) ?_ ?_ ?_ ?_
  ·exact(jc9 (xc (kH (jj (p:=pF (jp je)) (i:=0) rfl jb) rfl)) rfl)
  ·intro F H E X;replace O_ways:=O_ways.mono E;exact⟨_,_,_,rfl,⟨X,(Same.refl _)⟩,O_ways⟩
  ·rintro F1 ways σ_ F_ H_ ⟨xf,w2_,w3_,rfl,⟨X_,SF_⟩,O_ways⟩;exact⟨X_,SF_⟩
  ·rintro F1 S0_ ways B_ ahead zI σ_ F_ H_ F H ⟨xf,w2_,w3_,rfl,⟨X,SF_⟩,O_ways⟩ E zJ Hm
   try dsimp only at Hm
   have SL0:=SF_;replace SF_:=Same.trans S0_ SF_;replace jb:=Cd.mono _ SF_ jb;replace X:=Ext.trans X E;replace jb:=E.xc jb;replace O_ways:=O_ways.mono E;replace SL0:=E.xd SL0;obtain rfl:zI=.int ahead:=zJ;refine qX ?_;refine(xX (K:=K) (c:=(cL cI)) (xc (qb (yq (kZ (xE (ju (jj (p:=pF (jp je)) (i:=0) rfl jb) (jJ (i:=2) rfl) rfl)))) [some (.int ahead)] rfl (fun b5 thing _ _ E4=>yS) (fun b5 thing _ _ E4=>(jy jY (jJ (i:=1) rfl) (jf JZ (jk _) (jJ (i:=0) rfl) rfl) rfl)) rfl)) X Hm ?_);intro grown jiG F H Hm E X UC;replace O_ways:=O_ways.mono E;replace SL0:=E.xd SL0;refine(jfz (K:=K) (k':=1) rfl O_ways (U_ (kE (jf xL (jR xW (kZ (x8 (jj (p:=pF (cL cI)) (i:=3) rfl UC))) rfl) (jk _) rfl)) (xF jgJ (kZ (xE (GG (yq (kZ (x8 (jj (p:=pF (cL cI)) (i:=3) rfl UC)))) [some (.ref xf)] rfl (fun b10 bits _ _ E9=>yS) (fun b10 bits _ _ E9=>(zD (jj (p:=pD (κ:=Int) cI) (i:=1) rfl (OwnD.mono O_ways (E9)).b) (jJ (i:=0) rfl) rfl)) rfl))) rfl) (jk _) rfl) (jJ (i:=2) rfl) X Hm ?_);intro ways F H Hm Cg X O_ways;replace SL0:=Same.trans SL0 Cg.f;cases Hm;exact⟨F,_,_,_,rfl,⟨X,SL0⟩,O_ways⟩
  ·rintro F1 S0_ ways σ_ F H Hm ⟨xf,w2_,w3_,rfl,⟨X,SF_⟩,O_ways⟩
   try dsimp only at Hm
   exact jfB (K:=K) (i:=1) rfl O_ways X Hm Kk
theorem sc_number_of:FnScope ["order","line","ways","number","ahead","thing","lesser"] ["order","line"] (jo (top 30)):=⟨rfl,rfl,rfl,by decide +kernel,rfl,by decide +kernel,by decide +kernel⟩
theorem VL (B:Bi mg) (T_Order:Txt_Order K mg je) (Fn:Fun K "number_of" "number_of" (top 30) f fd) (y6:Def P w K mg base "check_line" 3 ["order","line"] (sp2 K (pF (jp je)) (pF (cT cI)) (rF cU) kj)) (qu:Def P w K mg base "ways_on" 5 ["order"] (sp1 K (pF (jp je)) (rD (κ:=Int) cI) kA)) (kl:Def P w K mg base "things_next" 3 ["order","ahead"] (sp2 K (pF (jp je)) (pF cI) (rO cI) jX)):FnOk P w K mg base CX0 6 f fd ["order","line"] (sp2 K (pF (jp je)) (pF (cT cI)) (rF cI) kJ):=by
 refine Fn.ok sc_number_of (fun vs H Q E h=>?_) (fun cdv A outer s H0 vs Q E_ hr h=>?_)
 ·obtain⟨_,_,_,_,_,_,rfl,_⟩:=h;rfl
 ·obtain⟨order,line,j3,y2,Fe,R,rfl,S_,jb,jE,Hm,Kk⟩:=h;have nd:=sc_number_of.nd;have hu:=qd hr;refine⟨_,(jm (xi (jQ y6 (hr.mono (by decide)) rfl (ja (pv 0) (ja (pv 1) jh))))
   (jm (jI (i:=2) nd rfl (Or.inr rfl) (jQ qu (hr.mono (by decide)) rfl (ja (pv 0) jh)))
   (jm (jI (i:=3) nd rfl (Or.inl rfl) jl)
   (jm (jI (i:=4) nd rfl (Or.inr rfl) jl)
   (jm (qB PassesOwn.never rfl (jdK (pv 1)) (jG (i:=5) nd rfl (Or.inr rfl)) (jm (Gk (i:=6) (own:=["other"]) (ix:=[5]) (xK rfl) rfl (qS (jQ kl (hr.mono (by decide)) rfl (ja (pv 0) (ja (pv 4) jh)))) (fun _=>(jG (i:=0) (show List.Nodup (["other","thing"]:List Str) by decide +kernel) rfl (Or.inl rfl))) (fun _=>QY (jV G1 (pv 0) (pv 1) (kh _))) (fun _=>(pv 0)) nd rfl rfl)
   (jm (jI (i:=3) nd rfl (Or.inl rfl) (jw kD (pv 3) (jH (WX rfl) rfl B.sum_ (by kernel_rfl) (ja (xy (own:=["other"]) (ix:=[2,4]) (xK rfl) rfl (qS (pv 6)) (fun _=>(jG (i:=0) (show List.Nodup (["other","ways","ahead"]:List Str) by decide +kernel) rfl (Or.inl rfl))) (fun _=>xJ) (fun _=>(yu (hu1 hu) (pv 1) (jw JW (pv 2) (jw zo jl (pv 0))) (fun _ _=>rfl)))) jh))))
   (jn (jI (i:=4) nd rfl (Or.inr rfl) (jw JW (pv 4) (jw zo jl (pv 5))))))))
   (jn (j7 (pv 3)))))))),?_⟩
  try dsimp only[qA]
  have X:Ext Fe H0 Fe H0:=Ext.refl S_;unfold kJ at Hm;replace jb:(jp je).rep K Fe order j3:=jb;replace jE:(cT cI).rep K Fe line y2:=jE;refine(jax (K:=K) (ju (jj (p:=pF (jp je)) (i:=0) rfl jb) (jj (p:=pF (cT cI)) (i:=1) rfl jE) rfl) X Hm ?_);intro _ F H Hm E X;replace jb:=E.xc jb;replace jE:=E.xc jE;refine(Yg (K:=K) (kH (jj (p:=pF (jp je)) (i:=0) rfl jb) rfl) X Hm ?_);intro ways xf F H Hm E X Hn O_ways;replace jb:=E.xc jb;replace jE:=E.xc jE;refine(qp (K:=K) (jk _) X Hm ?_);intro number F H Hm E X;replace jb:=E.xc jb;replace jE:=E.xc jE;replace O_ways:=O_ways.mono E;refine(qp (K:=K) (jk _) X Hm ?_);intro ahead F H Hm E X;replace jb:=E.xc jb;replace jE:=E.xc jE;replace O_ways:=O_ways.mono E;refine Q_ (K:=K) (c:=cI) ?_ X Hm (fun F1 b σ' F' H'=>match b with | (number,ahead)=>∃ (w1_:Option V) (w2_:Option V),σ'=[some j3,some y2,some (.ref xf),some (.int number),some (.int ahead),w1_,w2_]/\(Ext Fe H0 F' H'/\Same F1 F')/\OwnD K H0 F' H' cI ways xf) ?_ ?_ ?_ ?_
  ·exact(jdX (jj (p:=pF (cT cI)) (i:=1) rfl jE))
  ·intro F H E X;replace O_ways:=O_ways.mono E;exact⟨_,_,rfl,⟨X,(Same.refl _)⟩,O_ways⟩
  ·rintro F1 ⟨number,ahead⟩ σ_ F_ H_ ⟨w1_,w2_,rfl,⟨X_,SF_⟩,O_ways⟩;exact⟨X_,SF_⟩
  ·rintro F1 S0_ ⟨number,ahead⟩ B_ thing qU σ_ F_ H_ F H ⟨w1_,w2_,rfl,⟨X,SF_⟩,O_ways⟩ E qV Hm
   try dsimp only at Hm
   have SL0:=SF_;replace SF_:=Same.trans S0_ SF_;replace jb:=Cd.mono _ SF_ jb;replace X:=Ext.trans X E;replace jb:=E.xc jb;replace O_ways:=O_ways.mono E;replace SL0:=E.xd SL0;obtain rfl:qU=.int thing:=qV;refine qX ?_;refine(xX (K:=K) (c:=(cL cI)) (xc (qb (yq (kZ (xE (ju (jj (p:=pF (jp je)) (i:=0) rfl jb) (jJ (i:=4) rfl) rfl)))) [some (.int thing)] rfl (fun b5 other _ _ E4=>(kE (jf xL (jJ (i:=0) rfl) (jJ (i:=1) rfl) rfl))) (fun b5 other _ _ E4=>(jJ (i:=0) rfl)) rfl)) X Hm ?_);intro lesser jh4 F H Hm E X Gf;replace O_ways:=O_ways.mono E;replace SL0:=E.xd SL0;refine(qp (K:=K) (jy jY (jJ (i:=3) rfl) (xF jgJ (kZ (xE (GG (yq (kZ (x8 (jj (p:=pF (cL cI)) (i:=6) rfl Gf)))) [some (.ref xf),some (.int ahead)] rfl (fun b8 other _ _ E7=>yS) (fun b8 other _ _ E7=>(yV (jj (p:=pD (κ:=Int) cI) (i:=1) rfl (OwnD.mono O_ways (E7)).b) (jy jY (jJ (i:=2) rfl) (jf JZ (jk _) (jJ (i:=0) rfl) rfl) rfl) rfl)) rfl))) rfl) rfl) X Hm ?_);intro number F H Hm E X;replace O_ways:=O_ways.mono E;replace SL0:=E.xd SL0;refine(yP (K:=K) (jy jY (jJ (i:=4) rfl) (jf JZ (jk _) (jJ (i:=5) rfl) rfl) rfl) X Hm ?_);intro ahead F H Hm E X;replace O_ways:=O_ways.mono E;replace SL0:=E.xd SL0;cases Hm;exact⟨F,_,_,rfl,⟨X,SL0⟩,O_ways⟩
  ·rintro F1 S0_ ⟨number,ahead⟩ σ_ F H Hm ⟨w1_,w2_,rfl,⟨X,SF_⟩,O_ways⟩
   try dsimp only at Hm
   exact kc (K:=K) (jJ (i:=3) rfl) X Hm Kk
theorem JF (B:Bi mg) (T_Order:Txt_Order K mg je) (Fn:Fun K "check_line" "check_line" (top 25) f fd) (yn:Def P w K mg base "is_line" 2 ["order","line"] (sp2 K (pF (jp je)) (pF (cT cI)) (rF cB) kz)) (Y_NoLine:MDef0 K mg cs "NoLine" 3):FnOk P w K mg base (CX1 P w) 3 f fd ["order","line"] (Za K (pF (jp je)) (pF (cT cI)) cs qf):=by
 refine Fn.okE sc_check_line (fun vs H Q E h=>?_) (fun cdv A outer s H0 vs Q E_ hr h=>?_)
 ·obtain⟨_,_,_,_,_,_,rfl,_⟩:=h;rfl
 ·obtain⟨order,line,j3,y2,Fe,R,rfl,S_,jb,jE,Hm,Kk⟩:=h;have nd:=sc_check_line.nd;have hu:=qd hr;have hgd:=hr.gd;obtain⟨j4,h_NoLine,m_NoLine,jdI⟩:=Y_NoLine.ex;refine⟨_,(jn (kU (yE (yh (jQ yn (hr.mono (by decide)) rfl (ja (pv 0) (ja (pv 1) jh))))) (jn (Vs (cxOf_def.wish _) rfl jaW jdI rfl m_NoLine (ja (jbb (jg7 hgd hu (pv 1) (Yi jeb))) jh))) j8)),?_⟩
  try dsimp only[jc1]
  have X:Ext Fe H0 Fe H0:=Ext.refl S_;unfold qf at Hm;replace jb:(jp je).rep K Fe order j3:=jb;replace jE:(cT cI).rep K Fe line y2:=jE;refine(jcs (K:=K) (xn (xC (ju (jj (p:=pF (jp je)) (i:=0) rfl jb) (jj (p:=pF (cT cI)) (i:=1) rfl jE) rfl)) rfl) X Hm ?_ ?_)
  ·intro F H Hm E X
   try dsimp only[wm] at Hm
   replace jE:=E.xc jE;exact Vt (K:=K) (jbc (jg8 (jj (p:=pF (cT cI)) (i:=1) rfl jE) (Yj jed)) rfl) X Hm h_NoLine Kk
  ·intro F H Hm E X
   try dsimp only[wb] at Hm
   refine yG ?_;cases Hm
theorem Qj (B:Bi mg) (T_Order:Txt_Order K mg je) (Fn:Fun K "number_of" "number_of" (top 30) f fd) (DE_check_line:DefE P w K mg base "check_line" 3 ["order","line"] (ZF (sp2 K (pF (jp je)) (pF (cT cI)) (rF cU) kj) (Za K (pF (jp je)) (pF (cT cI)) cs qf))):FnOk P w K mg base (CX1 P w) 6 f fd ["order","line"] (Za K (pF (jp je)) (pF (cT cI)) cs kY):=by
 refine Fn.okE sc_number_of (fun vs H Q E h=>?_) (fun cdv A outer s H0 vs Q E_ hr h=>?_)
 ·obtain⟨_,_,_,_,_,_,rfl,_⟩:=h;rfl
 ·obtain⟨order,line,j3,y2,Fe,R,rfl,S_,jb,jE,Hm,Kk⟩:=h;have nd:=sc_number_of.nd;have hu:=qd hr;refine⟨_,(jm (xi (Ue cxOf_def DE_check_line (hr.mono (by decide)) rfl (ja (pv 0) (ja (pv 1) jh)))) xY),?_⟩
  try dsimp only[jc1]
  have X:Ext Fe H0 Fe H0:=Ext.refl S_;unfold kY at Hm;replace jb:(jp je).rep K Fe order j3:=jb;replace jE:(cT cI).rep K Fe line y2:=jE;rcases jc0 Hm with Hm | Hm
  ·exact jfo (K:=K) (Gr (jj (p:=pF (jp je)) (i:=0) rfl jb) (jj (p:=pF (cT cI)) (i:=1) rfl jE)) X Hm Kk
  ·refine(jax (K:=K) (Jo (jj (p:=pF (jp je)) (i:=0) rfl jb) (jj (p:=pF (cT cI)) (i:=1) rfl jE)) X Hm ?_);intro _ F H Hm E X;cases Hm
theorem sc__law_asked:FnScope ["_law_order_here","_law_which","_law_one","_law_error","_law_found","e","_law_kinds"] ["_law_order_here","_law_which","_law_one"] (jo (top 44)):=⟨rfl,rfl,rfl,by decide +kernel,rfl,by decide +kernel,by decide +kernel⟩
theorem UA (B:Bi mg) (T_Order:Txt_Order K mg je) (Fn:Fun K "_law_asked" "_law_asked" (top 44) f fd) (DE_number_of:DefE P w K mg base "number_of" 6 ["order","line"] (ZF (sp2 K (pF (jp je)) (pF (cT cI)) (rF cI) kJ) (Za K (pF (jp je)) (pF (cT cI)) cs kY))) (m_T:mg "ToggleError"=some (.ref CT)) (x_T:yU K CT fo_T=true) (UD:jfp K CT cs) (J_NoLine:XClN K mg cs "NoLine" [3]) (J_NoPlace:XClN K mg cs "NoPlace" [2]) (J_TooMany:XClN K mg cs "TooMany" [4]):FnOk P w K mg base CX0 7 f fd ["_law_order_here","_law_which","_law_one"] (sp3 K (pF (jp je)) (pF cI) (pF (cT cI)) (rF (cQ (cOp cI) (cOE cs) (cL cB))) yy):=by
 refine Fn.ok0 sc__law_asked (fun vs H Q E h=>?_) (fun cdv A outer s H0 vs Q E_ hr h=>?_)
 ·obtain⟨_,_,_,_,_,_,_,_,rfl,_⟩:=h;rfl
 ·obtain⟨order_here,which,one,q8,JP,jbX,Fe,R,rfl,S_,jg,JQ,zm,Hm,Kk⟩:=h;have nd:=sc__law_asked.nd;have hu:=qd hr;obtain⟨Cq_NoLine,mq_NoLine,Iq_NoLine,Nq_NoLine⟩:=J_NoLine.ex;obtain⟨Cq_NoPlace,mq_NoPlace,Iq_NoPlace,Nq_NoPlace⟩:=J_NoPlace.ex;obtain⟨Cq_TooMany,mq_TooMany,Iq_TooMany,Nq_TooMany⟩:=J_TooMany.ex;refine⟨_,(qr (PS.z (jI (i:=3) nd rfl (Or.inl rfl) GZ))
   (qr (PS.z (jI (i:=4) nd rfl (Or.inl rfl) GZ))
   (qr (Wg (i:=5) (cxOf_def.wish _) nd rfl rfl rfl m_T x_T (fun Er_=>(jn (kU (jV xI (pv 1) jl (kh _)) (jn (jI (i:=4) nd rfl (Or.inl rfl) (Ue (cxOf_def.wish _) DE_number_of (hr.mono (by decide)) rfl (ja (pv 0) (ja (pv 2) jh))))) xY))) (fun v_=>jn (jI (i:=3) nd rfl (Or.inl rfl) (pv 5))))
   (qr (PS.z (jI (i:=6) nd rfl (Or.inl rfl) (qM (ja (jH qI rfl B.isinstance_ (by kernel_rfl) (ja (pv 3) (ja (xh (v:=.ref Cq_NoLine) rfl mq_NoLine rfl) jh))) (ja (jH qI rfl B.isinstance_ (by kernel_rfl) (ja (pv 3) (ja (xh (v:=.ref Cq_NoPlace) rfl mq_NoPlace rfl) jh))) (ja (jH qI rfl B.isinstance_ (by kernel_rfl) (ja (pv 3) (ja (xh (v:=.ref Cq_TooMany) rfl mq_TooMany rfl) jh))) jh))))))
   (PSs.z (jn (j7 (kP (ja (pv 4) (ja (pv 3) (ja (pv 6) jh))))))))))),?_⟩
  try dsimp only[qA]
  have X:Ext Fe H0 Fe H0:=Ext.refl S_;unfold yy at Hm;replace jg:(jp je).rep K Fe order_here q8:=jg;obtain rfl:JP=.int which:=JQ;replace zm:(cT cI).rep K Fe one jbX:=zm;refine(Qt (K:=K) Jb X Hm ?_);intro F H Hm E X;replace jg:=E.xc jg;replace zm:=E.xc zm;refine(Qt (K:=K) Jb X Hm ?_);intro F H Hm E X;replace jg:=E.xc jg;replace zm:=E.xc zm;refine(jbp (K:=K) (c:=cI) (f:=4) (i:=5) (j:=3) (jbn (kE (jf xb (jJ (i:=1) rfl) (jk _) rfl)) (jbl (fun Er_=>(Gr (jj (p:=pF (jp je)) (i:=0) rfl jg) (jj (p:=pF (cT cI)) (i:=2) rfl zm)))) Ju) (jbo (kE (jf xb (jJ (i:=1) rfl) (jk _) rfl)) (jbm (fun Er_=>(Jo (jj (p:=pF (jp je)) (i:=0) rfl jg) (jj (p:=pF (cT cI)) (i:=2) rfl zm)))) Jv) UD (by decide) (by decide) rfl rfl rfl X Hm ?_);intro found error zK JR F H Hm E X ka jM
  try dsimp only at Hm
  refine(xX (K:=K) (c:=(cL cB)) (xc (qN (jx (qj (c:=.ref Cq_NoLine) (fun u h=>h) Iq_NoLine Nq_NoLine (jj (p:=pF (cOE cs)) (i:=3) rfl jM) rfl) (jx (qj (c:=.ref Cq_NoPlace) (fun u h=>h) Iq_NoPlace Nq_NoPlace (jj (p:=pF (cOE cs)) (i:=3) rfl jM) rfl) (jx (qj (c:=.ref Cq_TooMany) (fun u h=>h) Iq_TooMany Nq_TooMany (jj (p:=pF (cOE cs)) (i:=3) rfl jM) rfl) (kG (c:=cB)) rfl) rfl) rfl) (by decide))) X Hm ?_);intro kinds JS F H Hm E X kq;replace jM:=E.xc jM;replace ka:=E.xc ka;exact kc (K:=K) (zA (jj (p:=pF (cOp cI)) (i:=4) rfl ka) (jj (p:=pF (cOE cs)) (i:=3) rfl jM) (jj (p:=pF (cL cB)) (i:=6) rfl kq) rfl) X Hm Kk
theorem sc__law_is_line:FnScope ["_law_below_here","_law_row","_law_at"] ["_law_below_here","_law_row"] (jo (top 43)):=⟨rfl,rfl,rfl,by decide +kernel,rfl,by decide +kernel,by decide +kernel⟩
theorem JG (B:Bi mg) (Fn:Fun K "_law_is_line" "_law_is_line" (top 43) f fd):FnOk P w K mg base CX0 1 f fd ["_law_below_here","_law_row"] (sp2 K (pB (cL cI)) (pF (cT cI)) (rF cB) kK):=by
 refine Fn.ok sc__law_is_line (fun vs H Q E h=>?_) (fun cdv A outer s H0 vs Q E_ hr h=>?_)
 ·obtain⟨_,_,_,_,_,_,rfl,_⟩:=h;rfl
 ·obtain⟨below_here,row,kd,xB,Fe,R,rfl,S_,jr,jv,Hm,Kk⟩:=h;have nd:=sc__law_is_line.nd;have hu:=qd hr;refine⟨_,(jm (kU (jV (WV hu) (jH yT rfl B.sorted_ (by kernel_rfl) (ja (pv 1) jh)) (xr (zT rfl) rfl B.list_ (by kernel_rfl) (ja (V2 rfl B.range_ (ja (jH jO rfl B.len_ (by kernel_rfl) (ja (pv 0) jh)) jh)) jh)) (kh _)) (jn (j7 yI)) j8)
   (jm (qB PassesOwn.never rfl (kr rfl B.range_ (ja (jH jO rfl B.len_ (by kernel_rfl) (ja (pv 1) jh)) jh)) (jG (i:=2) nd rfl (Or.inr rfl)) (jn (kU (yE (yh (jH (Q3 rfl) rfl B.all_ (by kernel_rfl) (ja (xy (own:=["_law_low"]) (ix:=[1,2]) (xK rfl) rfl (qS (xt qy (pv 0) (xt GD (pv 1) (pv 2) (fun _ _=>rfl)) (fun _ _=>rfl))) (fun _=>(jG (i:=0) (show List.Nodup (["_law_low","_law_row","_law_at"]:List Str) by decide +kernel) rfl (Or.inl rfl))) (fun _=>xJ) (fun _=>(zx (Z_ hu) (pv 0) (xl yt (pv 1) x5 (x6 (pv 2))) (by with_unfolding_all rfl)))) jh)))) (jn (j7 yI)) j8)))
   (jn (j7 yI)))),?_⟩
  try dsimp only[qA]
  have X:Ext Fe H0 Fe H0:=Ext.refl S_;unfold kK at Hm;have jd:Bor K H0 Fe (cL cI) below_here kd:=jr;clear jr;replace jv:(cT cI).rep K Fe row xB:=jv;refine(ZE (K:=K) (kE (jy (jcp (eqL eqI) (by decide) nfL) (U5 (xE (jR Jm (jj (p:=pF (cT cI)) (i:=1) rfl jv) rfl))) (U5 (xE (Wc (jR xW (kZ (jj (p:=pB (cL cI)) (i:=0) rfl (Bor.b jd X))) rfl) rfl))) rfl)) X Hm ?_ ?_)
  ·intro F H Hm E X
   try dsimp only[wm] at Hm
   exact kc (K:=K) (yJ _) X Hm Kk
  ·intro F H Hm E X
   try dsimp only[wb] at Hm
   replace jd:=E.xb jd;replace jv:=E.xc jv;refine yG ?_;refine jd0 (K:=K) (c:=cI) (fun c=>c=R) ?_ X Hm ?_ (fun F1 b σ' F' H'=>∃ (w3_:Option V),σ'=[some kd,some xB,w3_]/\(Ext Fe H0 F' H'/\Same F1 F')) ?_ ?_ ?_ ?_
   ·exact(kI (jR Qr (jj (p:=pF (cT cI)) (i:=1) rfl jv) rfl) rfl)
   ·intro c h;exact Option.some.inj h
   ·intro F H E X;exact⟨_,rfl,⟨X,(Same.refl _)⟩⟩
   ·rintro F1 _ σ_ F_ H_ ⟨w3_,rfl,⟨X_,SF_⟩⟩;exact⟨X_,SF_⟩
   ·rintro F1 S0_ _ B_ at_ jiH σ_ F_ H_ F H ⟨w3_,rfl,⟨X,SF_⟩⟩ E jiI Hm Hr
    try dsimp only at Hm
    have SL0:=SF_;replace SF_:=Same.trans S0_ SF_;replace jd:=Bor.mono jd SF_;replace jv:=Cd.mono _ SF_ jv;replace X:=Ext.trans X E;replace jd:=E.xb jd;replace jv:=E.xc jv;replace SL0:=E.xd SL0;obtain rfl:jiH=.int at_:=jiI;refine qX ?_;refine(jcs (K:=K) (xn (xC (xF jfa (kZ (xE (qb (yq (kZ (x8 (jy zz (kZ (jj (p:=pB (cL cI)) (i:=0) rfl (Bor.b jd X))) (jf U8 (jj (p:=pF (cT cI)) (i:=1) rfl jv) (jJ (i:=2) rfl) rfl) rfl)))) [some xB,some (.int at_)] rfl (fun b8 low _ _ E7=>yS) (fun b8 low _ _ E7=>(jf (jeT eqI (by decide)) (GO (jJ (i:=0) rfl)) (GO (qH (jj (p:=pF (cT cI)) (i:=1) rfl (Cd.mono _ (E7).f jv)) x9 (kX (jJ (i:=2) rfl) rfl) rfl)) rfl)) rfl))) rfl)) rfl) X Hm ?_ ?_)
    ·intro F H Hm E X
     try dsimp only[wm] at Hm
     obtain⟨y_,Hy_,Hm⟩:=bind_some Hm;cases Hm;exact kc (K:=K) (yJ _) X (Hy_.trans (congrArg some (Hr _ rfl))) Kk
    ·intro F H Hm E X
     try dsimp only[wb] at Hm
     replace SL0:=E.xd SL0;refine yG ?_;cases Hm;exact⟨_,F,rfl,_,rfl,⟨X,SL0⟩⟩
   ·rintro F1 S0_ _ σ_ F H Hm ⟨w3_,rfl,⟨X,SF_⟩⟩
    try dsimp only at Hm
    exact kc (K:=K) (yJ _) X Hm Kk
theorem sc__law_whole:FnScope ["_law_found"] ["_law_found"] (jo (top 34)):=⟨rfl,rfl,rfl,by decide +kernel,rfl,by decide +kernel,by decide +kernel⟩
theorem UB (B:Bi mg) (Fn:Fun K "_law_whole" "_law_whole" (top 34) f fd):FnOk P w K mg base CX0 1 f fd ["_law_found"] (sp1 K (pF cI) (rF cB) xO):=by
 refine Fn.ok sc__law_whole (fun vs H Q E h=>?_) (fun cdv A outer s H0 vs Q E_ hr h=>?_)
 ·obtain⟨_,_,_,_,rfl,_⟩:=h;rfl
 ·obtain⟨found,zK,Fe,R,rfl,S_,ka,Hm,Kk⟩:=h;have nd:=sc__law_whole.nd;have hu:=qd hr;refine⟨_,(jn (j7 (WO (jH Q4 rfl B.isinstance_ (by kernel_rfl) (ja (pv 0) (ja (VV (v:=.ty "int") rfl B.int_ (by kernel_rfl) rfl) jh))) (UK (UL (jH Q4 rfl B.isinstance_ (by kernel_rfl) (ja (pv 0) (ja (VV (v:=.ty "bool") rfl B.bool_ (by kernel_rfl) rfl) jh)))))))),?_⟩
  try dsimp only[qA]
  have X:Ext Fe H0 Fe H0:=Ext.refl S_;unfold xO at Hm;obtain rfl:zK=.int found:=ka;exact kc (K:=K) (YX (Qx (b:=true) (fun u h=>h) jdZ (by first | rfl | with_unfolding_all rfl) (jJ (i:=0) rfl) rfl) (Qv (Qx (b:=false) (fun u h=>h) jdZ (by first | rfl | with_unfolding_all rfl) (jJ (i:=0) rfl) rfl) rfl) rfl) X Hm Kk
theorem sc__law_number:FnScope ["_law_many","_law_cell_here"] ["_law_many","_law_cell_here"] (jo (top 45)):=⟨rfl,rfl,rfl,by decide +kernel,rfl,by decide +kernel,by decide +kernel⟩
theorem Qk (B:Bi mg) (Fn:Fun K "_law_number" "_law_number" (top 45) f fd):FnOk P w K mg base CX0 1 f fd ["_law_many","_law_cell_here"] (sp2 K (pF cI) (pF cI) (rF cI) xZ):=by
 refine Fn.ok sc__law_number (fun vs H Q E h=>?_) (fun cdv A outer s H0 vs Q E_ hr h=>?_)
 ·obtain⟨_,_,_,_,_,_,rfl,_⟩:=h;rfl
 ·obtain⟨many,cell_here,JL,xT,Fe,R,rfl,S_,JM,xU,Hm,Kk⟩:=h;have nd:=sc__law_number.nd;have hu:=qd hr;refine⟨_,(jm (kU (jV xI (jw kL (pv 1) jl) jl (kh _)) (jn (j7 (xt qy (qM (ja (pv 0) (ja (jh8 jgk jl) (ja (jw zQ (pv 0) jl) (ja jl jh))))) (jw kL (jw qR (pv 1) jl) jl) (fun _ _=>rfl)))) j8)
   (jn (j7 (jw zQ (jw kL (jw qR (pv 1) jl) (jw kD (jw kD (jw G0 jl jl) (jw G0 jl jl)) jl)) (jw G0 jl jl))))),?_⟩
  try dsimp only[qA]
  have X:Ext Fe H0 Fe H0:=Ext.refl S_;unfold xZ at Hm;obtain rfl:JL=.int many:=JM;obtain rfl:xT=.int cell_here:=xU;refine(Je (K:=K) (kE (jf xb (qi (by decide) (jJ (i:=1) rfl) (jk _) rfl) (jk _) rfl)) X Hm ?_ ?_)
  ·intro F H Hc Hm E X;exact kc (K:=K) (jf zz (kZ (xE (qN (jx (jJ (i:=0) rfl) (jx (jaK o_u (jk _) rfl) (jx (jf jY (jJ (i:=0) rfl) (jk _) rfl) (jx (jk _) (kG (c:=cI)) rfl) rfl) rfl) rfl) (by decide)))) (qi (by decide) (qT ⟨by decide,by decide⟩ (jJ (i:=1) rfl) (jk _) rfl) (jk _) rfl) rfl) X Hm Kk
  ·intro F H Hc Hm E X;refine yG ?_;exact kc (K:=K) (jy jY (jf Gn (qT ⟨by decide,by decide⟩ (jJ (i:=1) rfl) (jk _) rfl) (jf jY (jf jY (xN (i:=10) (j:=40) ⟨by decide,by decide,by decide⟩ (jk _) (jk _) rfl) (xN (i:=10) (j:=20) ⟨by decide,by decide,by decide⟩ (jk _) (jk _) rfl) rfl) (jk _) rfl) rfl) (xN (i:=10) (j:=20) ⟨by decide,by decide,by decide⟩ (jk _) (jk _) rfl) rfl) X Hm Kk
theorem sc_line_at:FnScope ["order","number","ways","row","ahead","left","choices"] ["order","number"] (jo (top 31)):=⟨rfl,rfl,rfl,by decide +kernel,rfl,by decide +kernel,by decide +kernel⟩
theorem Zz (B:Bi mg) (T_Order:Txt_Order K mg je) (Fn:Fun K "line_at" "line_at" (top 31) f fd) (qu:Def P w K mg base "ways_on" 5 ["order"] (sp1 K (pF (jp je)) (rD (κ:=Int) cI) kA)) (jW:Mth P w K mg base je "size" 1 ["self"] (sp1 K (pF (jp je)) (rF cI) jP)) (kl:Def P w K mg base "things_next" 3 ["order","ahead"] (sp2 K (pF (jp je)) (pF cI) (rO cI) jX)):FnOk P w K mg base CX0 6 f fd ["order","number"] (sp2 K (pF (jp je)) (pF cI) (rF (cT cI)) qt):=by
 refine Fn.ok sc_line_at (fun vs H Q E h=>?_) (fun cdv A outer s H0 vs Q E_ hr h=>?_)
 ·obtain⟨_,_,_,_,_,_,rfl,_⟩:=h;rfl
 ·obtain⟨order,number,j3,UE,Fe,R,rfl,S_,jb,UF,Hm,Kk⟩:=h;have nd:=sc_line_at.nd;have hu:=qd hr;refine⟨_,(jm (jI (i:=2) nd rfl (Or.inl rfl) (jQ qu (hr.mono (by decide)) rfl (ja (pv 0) jh)))
   (jm (kU (yE (QS YB G1 jl (pv 1) (yu (hu1 hu) (pv 2) jl (fun _ _=>rfl)))) (jn zO) j8)
   (jm (jI (i:=3) nd rfl (Or.inl rfl) (qM jh))
   (jm (jI (i:=4) nd rfl (Or.inl rfl) jl)
   (jm (jI (i:=5) nd rfl (Or.inl rfl) (pv 1))
   (jm (WR PassesOwn.never (jV G1 (jH jO rfl B.len_ (by kernel_rfl) (ja (pv 3) jh)) (Gm jW (hr.mono (by decide)) (pv 0)) (kh _)) (jm (jI (i:=6) nd rfl (Or.inl rfl) (jQ kl (hr.mono (by decide)) rfl (ja (pv 0) (ja (pv 4) jh))))
   (jm (WR PassesOwn.never (jV jh_ (pv 5) (yu (hu1 hu) (pv 2) (jw JW (pv 4) (jw zo jl (xt qy (pv 6) jl (fun _ _=>rfl)))) (fun _ _=>rfl)) (kh _)) (jm (jI (i:=5) nd rfl (Or.inl rfl) (jw zQ (pv 5) (yu (hu1 hu) (pv 2) (jw JW (pv 4) (jw zo jl (xt qy (pv 6) jl (fun _ _=>rfl)))) (fun _ _=>rfl))))
   (jn (jI (i:=6) nd rfl (Or.inl rfl) (xl jeM (pv 6) (x6 jl) x5)))))
   (jm (xi (JX XZ wf we qO (pv 3) (ja (xt qy (pv 6) jl (fun _ _=>rfl)) jh)))
   (jn (jI (i:=4) nd rfl (Or.inl rfl) (jw JW (pv 4) (jw zo jl (xt qy (pv 6) jl (fun _ _=>rfl))))))))))
   (jn (j7 (xr xD rfl B.tuple_ (by kernel_rfl) (ja (pv 3) jh)))))))))),?_⟩
  try dsimp only[qA]
  have X:Ext Fe H0 Fe H0:=Ext.refl S_;unfold qt at Hm;replace jb:(jp je).rep K Fe order j3:=jb;obtain rfl:UE=.int number:=UF;refine(Yg (K:=K) (kH (jj (p:=pF (jp je)) (i:=0) rfl jb) rfl) X Hm ?_);intro ways xf F H Hm E X Hn O_ways;replace jb:=E.xc jb;refine(ZE (K:=K) (xn (kE (GH (jk _) (jJ (i:=1) rfl) (zD (jj (p:=pD (κ:=Int) cI) (i:=2) rfl O_ways.b) (jk _) rfl) rfl)) rfl) X Hm ?_ ?_)
  ·intro F H Hm E X
   try dsimp only[wm] at Hm
   cases Hm
  ·intro F H Hm E X
   try dsimp only[wb] at Hm
   replace jb:=E.xc jb;replace O_ways:=O_ways.mono E;refine yG ?_;refine(GF (K:=K) (qN (kG (c:=cI)) (by decide)) X Hm ?_);intro row Ql F H Hm E X Hn O_row;have qc:=OwnD.ne O_ways Hn;have GB:=Ne.symm qc;replace jb:=E.xc jb;replace O_ways:=O_ways.mono E;refine(qp (K:=K) (jk _) X Hm ?_);intro ahead F H Hm E X;replace jb:=E.xc jb;replace O_ways:=O_ways.mono E;replace O_row:=O_row.mono E;refine(qp (K:=K) (jJ (i:=1) rfl) X Hm ?_);intro left F H Hm E X;replace jb:=E.xc jb;replace O_ways:=O_ways.mono E;replace O_row:=O_row.mono E;refine jaO (K:=K) X Hm (fun F1 b σ' F' H'=>match b with | (row,ahead,left)=>∃ (Ql:Addr) (w3_:Option V),σ'=[some j3,some (.int number),some (.ref xf),some (.ref Ql),some (.int ahead),some (.int left),w3_]/\(Ext Fe H0 F' H'/\Same F1 F')/\OwnD K H0 F' H' cI ways xf/\Own K H0 F' H' cI row Ql/\xf≠Ql) ?_ ?_ ?_ ?_ ?_
   ·exact⟨_,_,rfl,⟨X,(Same.refl _)⟩,O_ways,O_row,qc⟩
   ·rintro F1 ⟨row,ahead,left⟩ σ_ F_ H_ ⟨Ql,w3_,rfl,⟨X_,SF_⟩,O_ways,O_row,qc⟩;exact⟨X_,SF_⟩
   ·rintro⟨row,ahead,left⟩ σ_ F H ⟨Ql,w3_,rfl,⟨X,SF_⟩,O_ways,O_row,qc⟩;replace jb:=Cd.mono _ SF_ jb;have GB:=Ne.symm qc;exact(kE (jy xL (jR xW (kZ (jj (p:=pB cI) (i:=3) rfl O_row.b)) rfl) (qY qJ (jj (p:=pF (jp je)) (i:=0) rfl jb) rfl) rfl))
   ·rintro⟨row,ahead,left⟩ B_ σ_ F_ H_ F H ⟨Ql,w3_,rfl,⟨X,SF_⟩,O_ways,O_row,qc⟩ E Hm
    try dsimp only at Hm
    have SL0:=SF_;replace jb:=Cd.mono _ SF_ jb;have GB:=Ne.symm qc;replace X:=Ext.trans X E;replace jb:=E.xc jb;replace O_ways:=O_ways.mono E;replace O_row:=O_row.mono E;replace SL0:=E.xd SL0;refine(xX (K:=K) (c:=(cL cI)) (xc (ju (jj (p:=pF (jp je)) (i:=0) rfl jb) (jJ (i:=4) rfl) rfl)) X Hm ?_);intro choices xx F H Hm E X kg;replace O_ways:=O_ways.mono E;replace O_row:=O_row.mono E;replace SL0:=E.xd SL0;refine jaO (K:=K) X Hm (fun F1 b σ' F' H'=>match b with | (left,choices)=>∃ (xx:V),σ'=[some j3,some (.int number),some (.ref xf),some (.ref Ql),some (.int ahead),some (.int left),some xx]/\(Ext Fe H0 F' H'/\Same F1 F')/\OwnD K H0 F' H' cI ways xf/\Own K H0 F' H' cI row Ql/\(cL cI).rep K F' choices xx) ?_ ?_ ?_ ?_ ?_
    ·exact⟨_,rfl,⟨X,(Same.refl _)⟩,O_ways,O_row,kg⟩
    ·rintro F1 ⟨left,choices⟩ σ_ F_ H_ ⟨xx,rfl,⟨X_,SF_⟩,O_ways,O_row,kg⟩;exact⟨X_,SF_⟩
    ·rintro⟨left,choices⟩ σ_ F H ⟨xx,rfl,⟨X,SF_⟩,O_ways,O_row,kg⟩;exact(kE (jy xL (jJ (i:=5) rfl) (yV (jj (p:=pD (κ:=Int) cI) (i:=2) rfl O_ways.b) (jy jY (jJ (i:=4) rfl) (jy JZ (jk _) (jf zz (kZ (x8 (jj (p:=pF (cL cI)) (i:=6) rfl kg))) (jk _) rfl) rfl) rfl) rfl) rfl))
    ·rintro⟨left,choices⟩ B_ σ_ F_ H_ F H ⟨xx,rfl,⟨X,SF_⟩,O_ways,O_row,kg⟩ E Hm
     try dsimp only at Hm
     have SL1:=SF_;replace X:=Ext.trans X E;replace O_ways:=O_ways.mono E;replace O_row:=O_row.mono E;replace kg:=E.xc kg;replace SL1:=E.xd SL1;refine(qp (K:=K) (jy jY (jJ (i:=5) rfl) (yV (jj (p:=pD (κ:=Int) cI) (i:=2) rfl O_ways.b) (jy jY (jJ (i:=4) rfl) (jy JZ (jk _) (jf zz (kZ (x8 (jj (p:=pF (cL cI)) (i:=6) rfl kg))) (jk _) rfl) rfl) rfl) rfl) rfl) X Hm ?_);intro left F H Hm E X;replace O_ways:=O_ways.mono E;replace O_row:=O_row.mono E;replace kg:=E.xc kg;replace SL1:=E.xd SL1;refine(Q7 (K:=K) (c:=(cL cI)) (xc (YZ (kZ (x8 (jj (p:=pF (cL cI)) (i:=6) rfl kg))) (kX (jk _) rfl) x9 rfl)) X Hm ?_);intro choices xx F H Hm E X kg;replace O_ways:=O_ways.mono E;replace O_row:=O_row.mono E;replace SL1:=E.xd SL1;cases Hm;exact⟨F,_,rfl,⟨X,SL1⟩,O_ways,O_row,kg⟩
    ·rintro⟨left,choices⟩ σ_ F_ H_ F H ⟨xx,rfl,⟨X,SF_⟩,O_ways,O_row,kg⟩ E Hm
     try dsimp only at Hm
     replace SL0:=Same.trans SL0 SF_;replace X:=Ext.trans X E;replace O_ways:=O_ways.mono E;replace O_row:=O_row.mono E;replace kg:=E.xc kg;replace SL0:=E.xd SL0;refine(jcz (K:=K) (i:=3) rfl O_row (jf zz (kZ (x8 (jj (p:=pF (cL cI)) (i:=6) rfl kg))) (jk _) rfl) X Hm ?_);intro row F H Hm Cg X O_row;replace O_ways:=OwnD.chg O_ways Cg qc;replace kg:=Cd.mono _ Cg.f kg;replace SL0:=Same.trans SL0 Cg.f;refine(yP (K:=K) (jy jY (jJ (i:=4) rfl) (jy JZ (jk _) (jf zz (kZ (x8 (jj (p:=pF (cL cI)) (i:=6) rfl kg))) (jk _) rfl) rfl) rfl) X Hm ?_);intro ahead F H Hm E X;replace O_ways:=O_ways.mono E;replace O_row:=O_row.mono E;replace SL0:=E.xd SL0;cases Hm;exact⟨F,_,_,rfl,⟨X,SL0⟩,O_ways,O_row,qc⟩
   ·rintro⟨row,ahead,left⟩ σ_ F_ H_ F H ⟨Ql,w3_,rfl,⟨X,SF_⟩,O_ways,O_row,qc⟩ E Hm
    try dsimp only at Hm
    have GB:=Ne.symm qc;replace X:=Ext.trans X E;replace O_row:=O_row.mono E;exact kc (K:=K) (jR WY (kZ (jj (p:=pB cI) (i:=3) rfl O_row.b)) rfl) X Hm Kk
theorem VM (B:Bi mg) (T_Order:Txt_Order K mg je) (Fn:Fun K "line_at" "line_at" (top 31) f fd) (qu:Def P w K mg base "ways_on" 5 ["order"] (sp1 K (pF (jp je)) (rD (κ:=Int) cI) kA)) (X_NoPlace:XDef P w K mg base cs "NoPlace" 2 1 ["place"]):FnOk P w K mg base (CX1 P w) 6 f fd ["order","number"] (Za K (pF (jp je)) (pF cI) cs qQ):=by
 refine Fn.okE sc_line_at (fun vs H Q E h=>?_) (fun cdv A outer s H0 vs Q E_ hr h=>?_)
 ·obtain⟨_,_,_,_,_,_,rfl,_⟩:=h;rfl
 ·obtain⟨order,number,j3,UE,Fe,R,rfl,S_,jb,UF,Hm,Kk⟩:=h;have nd:=sc_line_at.nd;have hu:=qd hr;obtain⟨jK,f_NoPlace,fd_NoPlace,h_NoPlace,m_NoPlace,jbY,jbZ,b_NoPlace⟩:=X_NoPlace.ex;refine⟨_,(jm (jI (i:=2) nd rfl (Or.inl rfl) (jQ qu (hr.mono (by decide)) rfl (ja (pv 0) jh)))
   (jm (kU (yE (QS YB G1 jl (pv 1) (yu (hu1 hu) (pv 2) jl (fun _ _=>rfl)))) (jn (jcV (cxOf_def.wish _) rfl jaW jbY jbZ (hr.mono (by decide)) rfl m_NoPlace b_NoPlace (ja (pv 1) jh))) j8) xY)),?_⟩
  try dsimp only[jc1]
  have X:Ext Fe H0 Fe H0:=Ext.refl S_;unfold qQ at Hm;replace jb:(jp je).rep K Fe order j3:=jb;obtain rfl:UE=.int number:=UF;refine(Yg (K:=K) (kH (jj (p:=pF (jp je)) (i:=0) rfl jb) rfl) X Hm ?_);intro ways xf F H Hm E X Hn O_ways;refine(ZE (K:=K) (xn (kE (GH (jk _) (jJ (i:=1) rfl) (zD (jj (p:=pD (κ:=Int) cI) (i:=2) rfl O_ways.b) (jk _) rfl) rfl)) rfl) X Hm ?_ ?_)
  ·intro F H Hm E X
   try dsimp only[wm] at Hm
   exact jaZ (K:=K) (jJ (i:=1) rfl) X Hm h_NoPlace Kk
  ·intro F H Hm E X
   try dsimp only[wb] at Hm
   refine yG ?_;cases Hm
theorem sc__law_asked_2:FnScope ["_law_order_here","_law_which","_law_one","_law_error","_law_found","e","_law_kinds"] ["_law_order_here","_law_which","_law_one"] (jo (top 44)):=⟨rfl,rfl,rfl,by decide +kernel,rfl,by decide +kernel,by decide +kernel⟩
theorem JH (B:Bi mg) (T_Order:Txt_Order K mg je) (Fn:Fun K "_law_asked" "_law_asked" (top 44) f fd) (DE_line_at:DefE P w K mg base "line_at" 6 ["order","number"] (ZF (sp2 K (pF (jp je)) (pF cI) (rF (cT cI)) qt) (Za K (pF (jp je)) (pF cI) cs qQ))) (m_T:mg "ToggleError"=some (.ref CT)) (x_T:yU K CT fo_T=true) (UD:jfp K CT cs) (J_NoLine:XClN K mg cs "NoLine" [3]) (J_NoPlace:XClN K mg cs "NoPlace" [2]) (J_TooMany:XClN K mg cs "TooMany" [4]):FnOk P w K mg base CX0 7 f fd ["_law_order_here","_law_which","_law_one"] (sp3 K (pF (jp je)) (pF cI) (pF cI) (rF (cQ (cOp (cT cI)) (cOE cs) (cL cB))) xv):=by
 refine Fn.ok0 sc__law_asked_2 (fun vs H Q E h=>?_) (fun cdv A outer s H0 vs Q E_ hr h=>?_)
 ·obtain⟨_,_,_,_,_,_,_,_,rfl,_⟩:=h;rfl
 ·obtain⟨order_here,which,one,q8,JP,jbX,Fe,R,rfl,S_,jg,JQ,zm,Hm,Kk⟩:=h;have nd:=sc__law_asked_2.nd;have hu:=qd hr;obtain⟨Cq_NoLine,mq_NoLine,Iq_NoLine,Nq_NoLine⟩:=J_NoLine.ex;obtain⟨Cq_NoPlace,mq_NoPlace,Iq_NoPlace,Nq_NoPlace⟩:=J_NoPlace.ex;obtain⟨Cq_TooMany,mq_TooMany,Iq_TooMany,Nq_TooMany⟩:=J_TooMany.ex;refine⟨_,(qr (PS.z (jI (i:=3) nd rfl (Or.inl rfl) GZ))
   (qr (PS.z (jI (i:=4) nd rfl (Or.inl rfl) GZ))
   (qr (Wg (i:=5) (cxOf_def.wish _) nd rfl rfl rfl m_T x_T (fun Er_=>(jn (kU (jV xI (pv 1) jl (kh _)) xY (jn (kU (jV xI (pv 1) jl (kh _)) (jn (jI (i:=4) nd rfl (Or.inl rfl) (Ue (cxOf_def.wish _) DE_line_at (hr.mono (by decide)) rfl (ja (pv 0) (ja (pv 2) jh))))) xY))))) (fun v_=>jn (jI (i:=3) nd rfl (Or.inl rfl) (pv 5))))
   (qr (PS.z (jI (i:=6) nd rfl (Or.inl rfl) (qM (ja (jH qI rfl B.isinstance_ (by kernel_rfl) (ja (pv 3) (ja (xh (v:=.ref Cq_NoLine) rfl mq_NoLine rfl) jh))) (ja (jH qI rfl B.isinstance_ (by kernel_rfl) (ja (pv 3) (ja (xh (v:=.ref Cq_NoPlace) rfl mq_NoPlace rfl) jh))) (ja (jH qI rfl B.isinstance_ (by kernel_rfl) (ja (pv 3) (ja (xh (v:=.ref Cq_TooMany) rfl mq_TooMany rfl) jh))) jh))))))
   (PSs.z (jn (j7 (kP (ja (pv 4) (ja (pv 3) (ja (pv 6) jh))))))))))),?_⟩
  try dsimp only[qA]
  have X:Ext Fe H0 Fe H0:=Ext.refl S_;unfold xv at Hm;replace jg:(jp je).rep K Fe order_here q8:=jg;obtain rfl:JP=.int which:=JQ;obtain rfl:jbX=.int one:=zm;refine(Qt (K:=K) Jb X Hm ?_);intro F H Hm E X;replace jg:=E.xc jg;refine(Qt (K:=K) Jb X Hm ?_);intro F H Hm E X;replace jg:=E.xc jg;refine(jbp (K:=K) (c:=(cT cI)) (f:=4) (i:=5) (j:=3) (jbn (kE (jf xb (jJ (i:=1) rfl) (jk _) rfl)) Ju (jbn (kE (jf xb (jJ (i:=1) rfl) (jk _) rfl)) (jbl (fun Er_=>(Gr (jj (p:=pF (jp je)) (i:=0) rfl jg) (jJ (i:=2) rfl)))) Ju)) (jbo (kE (jf xb (jJ (i:=1) rfl) (jk _) rfl)) Jv (jbo (kE (jf xb (jJ (i:=1) rfl) (jk _) rfl)) (jbm (fun Er_=>(Jo (jj (p:=pF (jp je)) (i:=0) rfl jg) (jJ (i:=2) rfl)))) Jv)) UD (by decide) (by decide) rfl rfl rfl X Hm ?_);intro found error zK JR F H Hm E X ka jM
  try dsimp only at Hm
  refine(xX (K:=K) (c:=(cL cB)) (xc (qN (jx (qj (c:=.ref Cq_NoLine) (fun u h=>h) Iq_NoLine Nq_NoLine (jj (p:=pF (cOE cs)) (i:=3) rfl jM) rfl) (jx (qj (c:=.ref Cq_NoPlace) (fun u h=>h) Iq_NoPlace Nq_NoPlace (jj (p:=pF (cOE cs)) (i:=3) rfl jM) rfl) (jx (qj (c:=.ref Cq_TooMany) (fun u h=>h) Iq_TooMany Nq_TooMany (jj (p:=pF (cOE cs)) (i:=3) rfl jM) rfl) (kG (c:=cB)) rfl) rfl) rfl) (by decide))) X Hm ?_);intro kinds JS F H Hm E X kq;replace jM:=E.xc jM;replace ka:=E.xc ka;exact kc (K:=K) (zA (jj (p:=pF (cOp (cT cI))) (i:=4) rfl ka) (jj (p:=pF (cOE cs)) (i:=3) rfl jM) (jj (p:=pF (cL cB)) (i:=6) rfl kq) rfl) X Hm Kk
theorem sc_how_many_lines:FnScope ["order"] ["order"] (jo (top 28)):=⟨rfl,rfl,rfl,by decide +kernel,rfl,by decide +kernel,by decide +kernel⟩
theorem Gx (B:Bi mg) (T_Order:Txt_Order K mg je) (Fn:Fun K "how_many_lines" "how_many_lines" (top 28) f fd) (qu:Def P w K mg base "ways_on" 5 ["order"] (sp1 K (pF (jp je)) (rD (κ:=Int) cI) kA)):FnOk P w K mg base CX0 6 f fd ["order"] (sp1 K (pF (jp je)) (rF cI) jS):=by
 refine Fn.ok sc_how_many_lines (fun vs H Q E h=>?_) (fun cdv A outer s H0 vs Q E_ hr h=>?_)
 ·obtain⟨_,_,_,_,rfl,_⟩:=h;rfl
 ·obtain⟨order,j3,Fe,R,rfl,S_,jb,Hm,Kk⟩:=h;have nd:=sc_how_many_lines.nd;have hu:=qd hr;refine⟨_,(jn (j7 (yu (hu1 hu) (jQ qu (hr.mono (by decide)) rfl (ja (pv 0) jh)) jl (fun _ _=>rfl)))),?_⟩
  try dsimp only[qA]
  have X:Ext Fe H0 Fe H0:=Ext.refl S_;unfold jS at Hm;replace jb:(jp je).rep K Fe order j3:=jb;exact kc (K:=K) (yV (jg2 (kH (jj (p:=pF (jp je)) (i:=0) rfl jb) rfl)) (jk _) rfl) X Hm Kk
theorem sc_lines:FnScope ["order","count","begun","place","longer","row","ahead"] ["order"] (jo (top 29)):=⟨rfl,rfl,rfl,by decide +kernel,rfl,by decide +kernel,by decide +kernel⟩
theorem jdE (B:Bi mg) (T_Order:Txt_Order K mg je) (Fn:Fun K "lines" "lines" (top 29) f fd) (qK:∃ t,mg "MOST_LISTED"=some (.int 1000 t)) (kO:Def P w K mg base "how_many_lines" 6 ["order"] (sp1 K (pF (jp je)) (rF cI) jS)) (jW:Mth P w K mg base je "size" 1 ["self"] (sp1 K (pF (jp je)) (rF cI) jP)) (kl:Def P w K mg base "things_next" 3 ["order","ahead"] (sp2 K (pF (jp je)) (pF cI) (rO cI) jX)):FnOk P w K mg base CX0 7 f fd ["order"] (sp1 K (pF (jp je)) (rO (cT cI)) xP):=by
 refine Fn.ok sc_lines (fun vs H Q E h=>?_) (fun cdv A outer s H0 vs Q E_ hr h=>?_)
 ·obtain⟨_,_,_,_,rfl,_⟩:=h;rfl
 ·obtain⟨order,j3,Fe,R,rfl,S_,jb,Hm,Kk⟩:=h;obtain⟨t_MOST_LISTED,g_MOST_LISTED⟩:=qK;have nd:=sc_lines.nd;have hu:=qd hr;refine⟨_,(jm (jI (i:=1) nd rfl (Or.inl rfl) (jQ kO (hr.mono (by decide)) rfl (ja (pv 0) jh)))
   (jm (kU (jV UO (pv 1) (xh (v:=.int 1000) rfl g_MOST_LISTED ⟨_,rfl⟩) (kh _)) (jn zO) j8)
   (jm (jI (i:=2) nd rfl (Or.inl rfl) (qM (zY (kP (ja (kP jh) (ja jl jh))) jh)))
   (jm (qB PassesOwn.never rfl (kr rfl B.range_ (ja (Gm jW (hr.mono (by decide)) (pv 0)) jh)) (jG (i:=3) nd rfl (Or.inl rfl)) (jm (jI (i:=4) nd rfl (Or.inl rfl) (qM jh))
   (jm (qB PassesOwn.never rfl (qS (pv 2)) (zP rfl (kx (jG (i:=5) nd rfl (Or.inr rfl)) (kx (jG (i:=6) nd rfl (Or.inr rfl)) yo))) (jn (xi (JX XZ PySem.F.slot_list_extend PySem.F.type_list_extend Z4 (pv 4) (ja (xy (own:=["thing"]) (ix:=[5,6]) (xK rfl) rfl (qS (jQ kl (hr.mono (by decide)) rfl (ja (pv 0) (ja (pv 6) jh)))) (fun _=>(jG (i:=0) (show List.Nodup (["thing","row","ahead"]:List Str) by decide +kernel) rfl (Or.inl rfl))) (fun _=>xJ) (fun _=>(kP (ja (jw xo (pv 1) (kP (ja (pv 0) jh))) (ja (jw JW (pv 2) (jw zo jl (pv 0))) jh))))) jh)))))
   (jn (jI (i:=2) nd rfl (Or.inl rfl) (pv 4))))))
   (jn (j7 (xy (own:=["row","ahead"]) (ix:=[]) (xK rfl) rfl (qS (pv 2)) (fun _=>(zP rfl (kx (jG (i:=0) (show List.Nodup (["row","ahead"]:List Str) by decide +kernel) rfl (Or.inl rfl)) (kx (jG (i:=1) (show List.Nodup (["row","ahead"]:List Str) by decide +kernel) rfl (Or.inl rfl)) yo)))) (fun _=>xJ) (fun _=>(pv 0))))))))),?_⟩
  try dsimp only[qA]
  have X:Ext Fe H0 Fe H0:=Ext.refl S_;unfold xP at Hm;replace jb:(jp je).rep K Fe order j3:=jb;refine(qp (K:=K) (kH (jj (p:=pF (jp je)) (i:=0) rfl jb) rfl) X Hm ?_);intro count F H Hm E X;replace jb:=E.xc jb;refine(Je (K:=K) (kE (jf xL (jJ (i:=1) rfl) (jk _) rfl)) X Hm ?_ ?_)
  ·intro F H Hc Hm E X;cases Hm
  ·intro F H Hc Hm E X;replace jb:=E.xc jb;refine yG ?_;refine(xX (K:=K) (c:=(cL (cP (cT cI) cI))) (xc (qN (jx (kW (ya (kG (c:=cI)) (by decide)) (jk _) rfl) (kG (c:=(cP (cT cI) cI))) rfl) (by decide))) X Hm ?_);intro begun y7 F H Hm E X kC;replace jb:=E.xc jb;refine Jf (K:=K) (c:=cI) ?_ X Hm (fun F1 begun σ' F' H'=>∃ (y7:V) (w2_:Option V) (w3_:Option V) (w4_:Option V) (w5_:Option V),σ'=[some j3,some (.int count),some y7,w2_,w3_,w4_,w5_]/\(Ext Fe H0 F' H'/\Same F1 F')/\(cL (cP (cT cI) cI)).rep K F' begun y7) ?_ ?_ ?_ ?_
   ·exact(Va (qY qJ (jj (p:=pF (jp je)) (i:=0) rfl jb) rfl) rfl)
   ·intro F H E X;replace kC:=E.xc kC;exact⟨_,_,_,_,_,rfl,⟨X,(Same.refl _)⟩,kC⟩
   ·rintro F1 begun σ_ F_ H_ ⟨y7,w2_,w3_,w4_,w5_,rfl,⟨X_,SF_⟩,kC⟩;exact⟨X_,SF_⟩
   ·rintro F1 S0_ begun B_ place jf3 σ_ F_ H_ F H ⟨y7,w2_,w3_,w4_,w5_,rfl,⟨X,SF_⟩,kC⟩ E jf4 Hm
    try dsimp only at Hm
    have SL0:=SF_;replace SF_:=Same.trans S0_ SF_;replace jb:=Cd.mono _ SF_ jb;replace X:=Ext.trans X E;replace jb:=E.xc jb;replace kC:=E.xc kC;replace SL0:=E.xd SL0;obtain rfl:jf3=.int place:=jf4;refine qX ?_;refine(GF (K:=K) (qN (kG (c:=(cP (cT cI) cI))) (by decide)) X Hm ?_);intro longer zk F H Hm E X Hn qL;replace jb:=E.xc jb;replace kC:=E.xc kC;replace SL0:=E.xd SL0;refine Q_ (K:=K) (c:=(cP (cT cI) cI)) ?_ X Hm (fun F1 longer σ' F' H'=>∃ (zk:Addr) (w6_:Option V) (w7_:Option V),σ'=[some j3,some (.int count),some y7,some (.int place),some (.ref zk),w6_,w7_]/\(Ext Fe H0 F' H'/\Same F1 F')/\Own K H0 F' H' (cP (cT cI) cI) longer zk) ?_ ?_ ?_ ?_
    ·exact(V6 (jj (p:=pF (cL (cP (cT cI) cI))) (i:=2) rfl kC))
    ·intro F H E X;replace qL:=qL.mono E;exact⟨_,_,_,rfl,⟨X,(Same.refl _)⟩,qL⟩
    ·rintro F1 longer σ_ F_ H_ ⟨zk,w6_,w7_,rfl,⟨X_,SF_⟩,qL⟩;exact⟨X_,SF_⟩
    ·rintro F1 S0_ longer B_ ⟨row,ahead⟩ V_z8 σ_ F_ H_ F H ⟨zk,w6_,w7_,rfl,⟨X,SF_⟩,qL⟩ E P_z8 Hm
     try dsimp only at Hm
     have SL1:=SF_;replace SF_:=Same.trans S0_ SF_;replace jb:=Cd.mono _ SF_ jb;replace X:=Ext.trans X E;replace jb:=E.xc jb;replace qL:=qL.mono E;replace SL1:=E.xd SL1;refine W5 P_z8 X.sub fun xB zI jv zJ=>?_;obtain rfl:zI=.int ahead:=zJ;refine(jaN (K:=K) (k':=4) rfl qL (xE (qb (yq (kZ (xE (ju (jj (p:=pF (jp je)) (i:=0) rfl jb) (jJ (i:=6) rfl) rfl)))) [some xB,some (.int ahead)] rfl (fun b10 thing _ _ E9=>yS) (fun b10 thing _ _ E9=>(yj (jf zq (jj (p:=pF (cT cI)) (i:=1) rfl (Cd.mono _ (E9).f jv)) (ya (jx (jJ (i:=0) rfl) (kG (c:=cI)) rfl) (by decide)) rfl) (jy jY (jJ (i:=2) rfl) (jf JZ (jk _) (jJ (i:=0) rfl) rfl) rfl) rfl)) rfl)) X Hm ?_);intro longer F H Hm Cg X qL;replace SL1:=Same.trans SL1 Cg.f;cases Hm;exact⟨F,_,_,_,rfl,⟨X,SL1⟩,qL⟩
    ·rintro F1 S0_ longer σ_ F H Hm ⟨zk,w6_,w7_,rfl,⟨X,SF_⟩,qL⟩
     try dsimp only at Hm
     replace SF_:=Same.trans S0_ SF_;replace kC:=Cd.mono _ SF_ kC;replace SL0:=Same.trans SL0 SF_;obtain⟨F,X,Cg,UG⟩:=Own.freeze qL X;clear qL;replace kC:=Cd.mono _ Cg.f kC;replace SL0:=Same.trans SL0 Cg.f;refine(Q7 (K:=K) (c:=(cL (cP (cT cI) cI))) (jj (p:=pF (cL (cP (cT cI) cI))) (i:=4) rfl UG) X Hm ?_);intro begun y7 F H Hm E X kC;replace SL0:=E.xd SL0;cases Hm;exact⟨F,_,_,_,_,_,rfl,⟨X,SL0⟩,kC⟩
   ·rintro F1 S0_ begun σ_ F H Hm ⟨y7,w2_,w3_,w4_,w5_,rfl,⟨X,SF_⟩,kC⟩
    try dsimp only at Hm
    exact kc (K:=K) (Vc (yq (kZ (x8 (jj (p:=pF (cL (cP (cT cI) cI))) (i:=2) rfl kC)))) [] rfl (fun b20 row ahead xB zI _ _ E19 jv zJ=>yS) (fun b20 row ahead xB zI _ _ E19 jv zJ=>(jj (p:=pF (cT cI)) (i:=0) rfl jv)) rfl) X Hm Kk
theorem ZA (B:Bi mg) (T_Order:Txt_Order K mg je) (Fn:Fun K "lines" "lines" (top 29) f fd) (qK:∃ t,mg "MOST_LISTED"=some (.int 1000 t)) (kO:Def P w K mg base "how_many_lines" 6 ["order"] (sp1 K (pF (jp je)) (rF cI) jS)) (Y_TooMany:MDef0 K mg cs "TooMany" 4):FnOk P w K mg base (CX1 P w) 7 f fd ["order"] (jgQ K (pF (jp je)) cs yb):=by
 refine Fn.okE sc_lines (fun vs H Q E h=>?_) (fun cdv A outer s H0 vs Q E_ hr h=>?_)
 ·obtain⟨_,_,_,_,rfl,_⟩:=h;rfl
 ·obtain⟨order,j3,Fe,R,rfl,S_,jb,Hm,Kk⟩:=h;obtain⟨t_MOST_LISTED,g_MOST_LISTED⟩:=qK;have nd:=sc_lines.nd;have hu:=qd hr;obtain⟨jN,h_TooMany,m_TooMany,jb0⟩:=Y_TooMany.ex;refine⟨_,(jm (jI (i:=1) nd rfl (Or.inl rfl) (jQ kO (hr.mono (by decide)) rfl (ja (pv 0) jh)))
   (jm (kU (jV UO (pv 1) (xh (v:=.int 1000) rfl g_MOST_LISTED ⟨_,rfl⟩) (kh _)) (jn (Vs (cxOf_def.wish _) rfl jaW jb0 rfl m_TooMany (ja (jbb (Yi (jec (pv 1) (Yi (jec (xh (v:=.int 1000) rfl g_MOST_LISTED ⟨_,rfl⟩) (Yi jeb)))))) jh))) j8) xY)),?_⟩
  try dsimp only[jc1]
  have X:Ext Fe H0 Fe H0:=Ext.refl S_;unfold yb at Hm;replace jb:(jp je).rep K Fe order j3:=jb;refine(qp (K:=K) (kH (jj (p:=pF (jp je)) (i:=0) rfl jb) rfl) X Hm ?_);intro count F H Hm E X;refine(Je (K:=K) (kE (jf xL (jJ (i:=1) rfl) (jk _) rfl)) X Hm ?_ ?_)
  ·intro F H Hc Hm E X;exact Vt (K:=K) (jbc (Yj (jee (jJ (i:=1) rfl) (Yj (jee (jk _) (Yj jed))))) rfl) X Hm h_TooMany Kk
  ·intro F H Hc Hm E X;refine yG ?_;cases Hm
theorem sc__law_asked_3:FnScope ["_law_order_here","_law_which","_law_one","_law_error","_law_found","e","_law_kinds"] ["_law_order_here","_law_which","_law_one"] (jo (top 44)):=⟨rfl,rfl,rfl,by decide +kernel,rfl,by decide +kernel,by decide +kernel⟩
theorem JI (B:Bi mg) (T_Order:Txt_Order K mg je) (Fn:Fun K "_law_asked" "_law_asked" (top 44) f fd) (DE_lines:DefE P w K mg base "lines" 7 ["order"] (ZF (sp1 K (pF (jp je)) (rO (cT cI)) xP) (jgQ K (pF (jp je)) cs yb))) (m_T:mg "ToggleError"=some (.ref CT)) (x_T:yU K CT fo_T=true) (UD:jfp K CT cs) (J_NoLine:XClN K mg cs "NoLine" [3]) (J_NoPlace:XClN K mg cs "NoPlace" [2]) (J_TooMany:XClN K mg cs "TooMany" [4]):FnOk P w K mg base CX0 8 f fd ["_law_order_here","_law_which","_law_one"] (sp3 K (pF (jp je)) (pF cI) (pF cU) (rF (cQ (cOp (cL (cT cI))) (cOE cs) (cL cB))) xw):=by
 refine Fn.ok0 sc__law_asked_3 (fun vs H Q E h=>?_) (fun cdv A outer s H0 vs Q E_ hr h=>?_)
 ·obtain⟨_,_,_,_,_,_,_,_,rfl,_⟩:=h;rfl
 ·obtain⟨order_here,which,one,q8,JP,jbX,Fe,R,rfl,S_,jg,JQ,zm,Hm,Kk⟩:=h;have nd:=sc__law_asked_3.nd;have hu:=qd hr;obtain⟨Cq_NoLine,mq_NoLine,Iq_NoLine,Nq_NoLine⟩:=J_NoLine.ex;obtain⟨Cq_NoPlace,mq_NoPlace,Iq_NoPlace,Nq_NoPlace⟩:=J_NoPlace.ex;obtain⟨Cq_TooMany,mq_TooMany,Iq_TooMany,Nq_TooMany⟩:=J_TooMany.ex;refine⟨_,(qr (PS.z (jI (i:=3) nd rfl (Or.inl rfl) GZ))
   (qr (PS.z (jI (i:=4) nd rfl (Or.inl rfl) GZ))
   (qr (Wg (i:=5) (cxOf_def.wish _) nd rfl rfl rfl m_T x_T (fun Er_=>(jn (kU (jV xI (pv 1) jl (kh _)) xY (jn (kU (jV xI (pv 1) jl (kh _)) xY (jn (jI (i:=4) nd rfl (Or.inl rfl) (Ue (cxOf_def.wish _) DE_lines (hr.mono (by decide)) rfl (ja (pv 0) jh))))))))) (fun v_=>jn (jI (i:=3) nd rfl (Or.inl rfl) (pv 5))))
   (qr (PS.z (jI (i:=6) nd rfl (Or.inl rfl) (qM (ja (jH qI rfl B.isinstance_ (by kernel_rfl) (ja (pv 3) (ja (xh (v:=.ref Cq_NoLine) rfl mq_NoLine rfl) jh))) (ja (jH qI rfl B.isinstance_ (by kernel_rfl) (ja (pv 3) (ja (xh (v:=.ref Cq_NoPlace) rfl mq_NoPlace rfl) jh))) (ja (jH qI rfl B.isinstance_ (by kernel_rfl) (ja (pv 3) (ja (xh (v:=.ref Cq_TooMany) rfl mq_TooMany rfl) jh))) jh))))))
   (PSs.z (jn (j7 (kP (ja (pv 4) (ja (pv 3) (ja (pv 6) jh))))))))))),?_⟩
  try dsimp only[qA]
  have X:Ext Fe H0 Fe H0:=Ext.refl S_;unfold xw at Hm;replace jg:(jp je).rep K Fe order_here q8:=jg;obtain rfl:JP=.int which:=JQ;obtain rfl:jbX=.non:=zm;refine(Qt (K:=K) Jb X Hm ?_);intro F H Hm E X;replace jg:=E.xc jg;refine(Qt (K:=K) Jb X Hm ?_);intro F H Hm E X;replace jg:=E.xc jg;refine(jbp (K:=K) (c:=(cL (cT cI))) (f:=4) (i:=5) (j:=3) (jbn (kE (jf xb (jJ (i:=1) rfl) (jk _) rfl)) Ju (jbn (kE (jf xb (jJ (i:=1) rfl) (jk _) rfl)) Ju (jbl (fun Er_=>(Zb (jj (p:=pF (jp je)) (i:=0) rfl jg)))))) (jbo (kE (jf xb (jJ (i:=1) rfl) (jk _) rfl)) Jv (jbo (kE (jf xb (jJ (i:=1) rfl) (jk _) rfl)) Jv (jbm (fun Er_=>(xc (ja0 (jj (p:=pF (jp je)) (i:=0) rfl jg))))))) UD (by decide) (by decide) rfl rfl rfl X Hm ?_);intro found error zK JR F H Hm E X ka jM
  try dsimp only at Hm
  refine(xX (K:=K) (c:=(cL cB)) (xc (qN (jx (qj (c:=.ref Cq_NoLine) (fun u h=>h) Iq_NoLine Nq_NoLine (jj (p:=pF (cOE cs)) (i:=3) rfl jM) rfl) (jx (qj (c:=.ref Cq_NoPlace) (fun u h=>h) Iq_NoPlace Nq_NoPlace (jj (p:=pF (cOE cs)) (i:=3) rfl jM) rfl) (jx (qj (c:=.ref Cq_TooMany) (fun u h=>h) Iq_TooMany Nq_TooMany (jj (p:=pF (cOE cs)) (i:=3) rfl jM) rfl) (kG (c:=cB)) rfl) rfl) rfl) (by decide))) X Hm ?_);intro kinds JS F H Hm E X kq;replace jM:=E.xc jM;replace ka:=E.xc ka;exact kc (K:=K) (zA (jj (p:=pF (cOp (cL (cT cI)))) (i:=4) rfl ka) (jj (p:=pF (cOE cs)) (i:=3) rfl jM) (jj (p:=pF (cL cB)) (i:=6) rfl kq) rfl) X Hm Kk
theorem sc_law:FnScope ["_law_script","_law_n","_law_pairs","_law_below_here","_law_order_here","_law_many","_law_row","_law_found","_law_error","_law_kinds","_law_number_here"] ["_law_script"] (jo (top 46)):=⟨rfl,rfl,rfl,by decide +kernel,rfl,by decide +kernel,by decide +kernel⟩
theorem jhN (B:Bi mg) (T_Order:Txt_Order K mg je) (Fn:Fun K "law" "law" (top 46) f fd) (y9:Def P w K mg base "_law_order" 3 ["_law_script","_law_most"] (sp2 K (pF cScr) (pF cI) (rF (cP cI (cL (cP cI cI)))) yx)) (jU:Def P w K mg base "_law_cell" 1 ["_law_script","_law_k"] (sp2 K (pF cScr) (pF cI) (rF cI) ko)) (za:Def P w K mg base "_law_below" 1 ["_law_n","_law_pairs"] (sp2 K (pF cI) (pB (cP cI cI)) (rO (cL cI)) xz)) (zb:Kls P w K mg base "Order" je 4 ["self","many","pairs"] (jhZ K je (pF cI) (pB (cP cI cI)) (jp je) kS)) (yd:Def P w K mg base "_law_counted" 2 ["_law_below_here"] (sp1 K (pB (cL cI)) (rF cI) qP)) (zL:Def P w K mg base "_law_line" 2 ["_law_below_here","_law_cell_here"] (sp2 K (pB (cL cI)) (pF cI) (rF (cT cI)) zZ)) (yC:Def P w K mg base "_law_spoilt" 1 ["_law_row","_law_cell_here"] (sp2 K (pF (cT cI)) (pF cI) (rF (cT cI)) xH)) (zc:Def P w K mg base "_law_asked" 7 ["_law_order_here","_law_which","_law_one"] (sp3 K (pF (jp je)) (pF cI) (pF (cT cI)) (rF (cQ (cOp cI) (cOE cs) (cL cB))) yy)) (xq:Def P w K mg base "_law_is_line" 1 ["_law_below_here","_law_row"] (sp2 K (pB (cL cI)) (pF (cT cI)) (rF cB) kK)) (zd:Def P w K mg base "_law_whole" 1 ["_law_found"] (sp1 K (pF cI) (rF cB) xO)) (yD:Def P w K mg base "_law_number" 1 ["_law_many","_law_cell_here"] (sp2 K (pF cI) (pF cI) (rF cI) xZ)) (ye:Def P w K mg base "_law_asked" 7 ["_law_order_here","_law_which","_law_one"] (sp3 K (pF (jp je)) (pF cI) (pF cI) (rF (cQ (cOp (cT cI)) (cOE cs) (cL cB))) xv)) (yf:Def P w K mg base "_law_asked" 8 ["_law_order_here","_law_which","_law_one"] (sp3 K (pF (jp je)) (pF cI) (pF cU) (rF (cQ (cOp (cL (cT cI))) (cOE cs) (cL cB))) xw)) (ze:mg "ValueError"=none/\jd6 K cs (.type "ValueError") [0,1,2,3,4]) (WL:jgS K cs 2 0 "place"):FnOk P w K mg base CX0 9 f fd ["_law_script"] (sp1 K (pF cScr) (rF cB) Vx):=by
  refine Fn.ok sc_law (fun vs H Q E h=>?_) (fun cdv A outer s H0 vs Q E_ hr h=>?_)
  · obtain⟨_,_,_,_,rfl,_⟩:=h
    rfl
  · obtain⟨script,qC,Fe,R,rfl,S_,jc,Hm,Kk⟩:=h
    have nd:=sc_law.nd;have hu:=qd hr;obtain⟨mq_ValueError,Iq_ValueError⟩:=ze;refine⟨_,(by
      with_reducible refine' Ws ?zz1 ?zz2 ?zz3
      case zz1=>exact rfl
      case zz2=>
       exact(WQ (jQ y9 (hr.mono (by decide)) rfl (ja (pv 0) (ja jl jh))) (zP rfl (kx (jG (i:=1) nd rfl (Or.inl rfl)) (kx (jG (i:=2) nd rfl (Or.inl rfl)) yo))))
      case zz3=>
       with_reducible refine' Ws ?zz4 ?zz5 ?zz6
       case zz4=>exact rfl
       case zz5=>
        with_reducible refine' yN ?zz7
        case zz7=>
         with_reducible refine' kU ?zz8 ?zz9 ?zz10
         case zz8=>
          exact(jV xI (jw kL (jQ jU (hr.mono (by decide)) rfl (ja (pv 0) (ja jl jh))) jl) jl (kh _))
         case zz9=>
          with_reducible refine' Ws ?zz11 ?zz12 ?zz13
          case zz11=>exact rfl
          case zz12=>
           exact(jI (i:=1) nd rfl (Or.inl rfl) jl)
          case zz13=>
           with_reducible refine' jn ?zz14
           case zz14=>
            with_reducible refine' jI (i:=2) ?zz15 ?zz16 ?zz17 ?zz18 ?zz19 ?zz20
            case zz15=>exact nd
            case zz16=>exact rfl
            case zz17=>exact Or.inl rfl
            case zz18=>
             with_reducible refine' xt ?zz21 ?zz22 ?zz23 ?zz24
             case zz21=>
              exact qy
             case zz22=>
              with_reducible refine' qM ?zz25
              case zz25=>
               with_reducible refine' Yl ?zz26 ?zz27
               case zz26=>
                exact(qM (zY (kP (ja jl (ja jl jh))) (zY (kP (ja jl (ja jl jh))) jh)))
               case zz27=>
                with_reducible refine' Yl ?zz28 ?zz29
                case zz28=>
                 exact(qM (zY (kP (ja jl (ja jl jh))) (zY (kP (ja jl (ja jl jh))) jh)))
                case zz29=>
                 exact jh
             case zz23=>
              exact(jw kL (jw qR (jQ jU (hr.mono (by decide)) rfl (ja (pv 0) (ja jl jh))) jl) jl)
             case zz24=>
              exact(fun _ _=>rfl)
            case zz19=>exact rfl
            case zz20=>exact Or.inl rfl
         case zz10=>
          exact j8
       case zz6=>
        with_reducible refine' Ws ?zz30 ?zz31 ?zz32
        case zz30=>exact rfl
        case zz31=>
         exact(jI (i:=3) nd rfl (Or.inl rfl) (jQ za (hr.mono (by decide)) rfl (ja (pv 1) (ja (pv 2) jh))))
        case zz32=>
         with_reducible refine' Ws ?zz33 ?zz34 ?zz35
         case zz33=>exact rfl
         case zz34=>
          exact(jI (i:=4) nd rfl (Or.inl rfl) (jgx zb (hr.mono (by decide)) rfl (ja (pv 1) (ja (xr UZ rfl B.list_ (by kernel_rfl) (ja (pv 2) jh)) jh))))
         case zz35=>
          with_reducible refine' Ws ?zz36 ?zz37 ?zz38
          case zz36=>exact rfl
          case zz37=>
           exact(jI (i:=5) nd rfl (Or.inl rfl) (jQ yd (hr.mono (by decide)) rfl (ja (pv 3) jh)))
          case zz38=>
           with_reducible refine' Ws ?zz39 ?zz40 ?zz41
           case zz39=>exact rfl
           case zz40=>
            exact(jI (i:=6) nd rfl (Or.inl rfl) (jQ yC (hr.mono (by decide)) rfl (ja (jQ zL (hr.mono (by decide)) rfl (ja (pv 3) (ja (jQ jU (hr.mono (by decide)) rfl (ja (pv 0) (ja jl jh))) jh))) (ja (jQ jU (hr.mono (by decide)) rfl (ja (pv 0) (ja jl jh))) jh))))
           case zz41=>
            with_reducible refine' Ws ?zz42 ?zz43 ?zz44
            case zz42=>exact rfl
            case zz43=>
             exact(WQ (jQ zc (hr.mono (by decide)) rfl (ja (pv 4) (ja jl (ja (pv 6) jh)))) (zP rfl (kx (jG (i:=7) nd rfl (Or.inl rfl)) (kx (jG (i:=8) nd rfl (Or.inl rfl)) (kx (jG (i:=9) nd rfl (Or.inl rfl)) yo)))))
            case zz44=>
             with_reducible refine' Ws ?zz45 ?zz46 ?zz47
             case zz45=>exact rfl
             case zz46=>
              exact(kU (PW.pt (ZL (jV (WV hu) (pv 9) (qM (ja (UL (jQ xq (hr.mono (by decide)) rfl (ja (pv 3) (ja (pv 6) jh)))) (ja yI (ja yI jh)))) (kh _)) (UI (PW.pt (Qm (ZK (jdJ (pv 8))) (Gg (yE (yh (jQ zd (hr.mono (by decide)) rfl (ja (pv 7) jh)))))))))) (jn (j7 yI)) j8)
             case zz47=>
              with_reducible refine' Ws ?zz48 ?zz49 ?zz50
              case zz48=>exact rfl
              case zz49=>
               exact(jI (i:=10) nd rfl (Or.inl rfl) (jQ yD (hr.mono (by decide)) rfl (ja (pv 5) (ja (jQ jU (hr.mono (by decide)) rfl (ja (pv 0) (ja jl jh))) jh))))
              case zz50=>
               with_reducible refine' Ws ?zz51 ?zz52 ?zz53
               case zz51=>exact rfl
               case zz52=>
                exact(WQ (jQ ye (hr.mono (by decide)) rfl (ja (pv 4) (ja jl (ja (pv 10) jh)))) (zP rfl (kx (jG (i:=7) nd rfl (Or.inl rfl)) (kx (jG (i:=8) nd rfl (Or.inl rfl)) (kx (jG (i:=9) nd rfl (Or.inl rfl)) yo)))))
               case zz53=>
                with_reducible refine' Ws ?zz54 ?zz55 ?zz56
                case zz54=>exact rfl
                case zz55=>
                 exact(kU (jV (WV hu) (pv 9) (qM (ja yI (ja (UL (jca YB G1 jl (pv 10) (pv 5))) (ja yI jh)))) (kh _)) (jn (j7 yI)) j8)
                case zz56=>
                 with_reducible refine' Ws ?zz57 ?zz58 ?zz59
                 case zz57=>exact rfl
                 case zz58=>
                  exact(kU (PW.pt (Qm (ZK (jdJ (pv 8))) (Gg (yE (yh (jQ xq (hr.mono (by decide)) rfl (ja (pv 3) (ja (pv 7) jh)))))))) (jn (j7 yI)) j8)
                 case zz59=>
                  with_reducible refine' Ws ?zz60 ?zz61 ?zz62
                  case zz60=>exact rfl
                  case zz61=>
                   exact(kU (PW.pt (Qm (ZK (ZJ (pv 8))) (Gg (PW.pt (ZL (yE (yh (jH Vk rfl B.isinstance_ (by kernel_rfl) (ja (pv 8) (ja (VV (v:=.ty "ValueError") rfl mq_ValueError (by kernel_rfl) rfl) jh))))) (UI (jV jh9 (jfm (pv 8) rfl) (pv 10) (kh _)))))))) (jn (j7 yI)) j8)
                  case zz62=>
                   with_reducible refine' Ws ?zz63 ?zz64 ?zz65
                   case zz63=>exact rfl
                   case zz64=>
                    exact(WQ (jQ yf (hr.mono (by decide)) rfl (ja (pv 4) (ja jl (ja GZ jh)))) (zP rfl (kx (jG (i:=7) nd rfl (Or.inl rfl)) (kx (jG (i:=8) nd rfl (Or.inl rfl)) (kx (jG (i:=9) nd rfl (Or.inl rfl)) yo)))))
                   case zz65=>
                    exact(jn (j7 (WO (zx (jgv hu) (pv 9) (qM (ja yI (ja yI (ja (zx UO (pv 5) jl (kh _)) jh)))) (kh _)) (UK (jh6 (jgf (ZJ (pv 8))) (UK (zx xI (jH jO rfl B.len_ (by kernel_rfl) (ja (pv 7) jh)) (pv 5) (kh _))))))))),?_⟩
    try dsimp only[qA]
    have X:Ext Fe H0 Fe H0:=Ext.refl S_;unfold Vx at Hm;replace jc:cScr.rep K Fe script qC:=jc;refine(jgL (K:=K) (ju (jj (p:=pF cScr) (i:=0) rfl jc) (jk _) rfl) X Hm ?_);intro n_ pairs V_n_ kN F H Hm E X P_n_ jC
    try dsimp only at Hm
    obtain rfl:V_n_=.int n_:=P_n_;replace jc:=E.xc jc;refine(jgM (K:=K) (fun b σ' H'=>∃ F':Hp,match b with | (n_,pairs)=>∃ (kN:V),σ'=[some qC,some (.int n_),some kN,none,none,none,none,none,none,none,none]/\(Ext Fe H0 F' H'/\Same F F')/\(cL (cP cI cI)).rep K F' pairs kN) (kE (jy xb (q9 (by decide) (ju (jj (p:=pF cScr) (i:=0) rfl jc) (jk _) rfl) (jk _) rfl) (jk _) rfl)) X Hm ?_ ?_ ?_)
    · intro B_ F H Hm E X
      replace jc:=E.xc jc;replace jC:=E.xc jC;have SJ0:=E.f;refine(qp (K:=K) (jk _) X Hm ?_);intro n_ F H Hm E X;replace jc:=E.xc jc;replace jC:=E.xc jC;replace SJ0:=E.xd SJ0;refine(Q7 (K:=K) (c:=(cL (cP cI cI))) (jy zz (kZ (xE (qN (jx (xc (qN (jx (kW (jk _) (jk _) rfl) (jx (kW (jk _) (jk _) rfl) (kG (c:=(cP cI cI))) rfl) rfl) (by decide))) (jx (xc (qN (jx (kW (jk _) (jk _) rfl) (jx (kW (jk _) (jk _) rfl) (kG (c:=(cP cI cI))) rfl) rfl) (by decide))) (kG (c:=(cL (cP cI cI)))) rfl) rfl) (by decide)))) (q9 (by decide) (Jh ⟨by decide,by decide⟩ (ju (jj (p:=pF cScr) (i:=0) rfl jc) (jk _) rfl) (jk _) rfl) (jk _) rfl) rfl) X Hm ?_);intro pairs kN F H Hm E X jC;replace SJ0:=E.xd SJ0;cases Hm;exact⟨F,_,rfl,⟨X,SJ0⟩,jC⟩
    · intro B_ F H Hm E X
      replace jC:=E.xc jC;have SJ0:=E.f;refine yG ?_;cases Hm;exact⟨F,_,rfl,⟨X,SJ0⟩,jC⟩
    · rintro⟨n_,pairs⟩ σ_ H Hm ⟨F,kN,rfl,⟨X,SF_⟩,jC⟩
      try dsimp only at Hm
      replace jc:=Cd.mono _ SF_ jc;refine(xX (K:=K) (c:=(cL (cL cI))) (xc (ju (jJ (i:=1) rfl) (x8 (jj (p:=pF (cL (cP cI cI))) (i:=2) rfl jC)) rfl)) X Hm ?_);intro below_here kd F H Hm E X jr;replace jc:=E.xc jc;replace jC:=E.xc jC;refine(xX (K:=K) (c:=(jp je)) (Ve (jJ (i:=1) rfl) (xE (jR jeU (kZ (x8 (jj (p:=pF (cL (cP cI cI))) (i:=2) rfl jC))) rfl)) rfl) X Hm ?_);intro order_here q8 F H Hm E X jg;replace jc:=E.xc jc;replace jr:=E.xc jr;refine(qp (K:=K) (kH (x8 (jj (p:=pF (cL (cL cI))) (i:=3) rfl jr)) rfl) X Hm ?_);intro many F H Hm E X;replace jc:=E.xc jc;replace jr:=E.xc jr;replace jg:=E.xc jg;refine(xX (K:=K) (c:=(cT cI)) (qv (qv (x8 (jj (p:=pF (cL (cL cI))) (i:=3) rfl jr)) (ju (jj (p:=pF cScr) (i:=0) rfl jc) (jk _) rfl) rfl) (ju (jj (p:=pF cScr) (i:=0) rfl jc) (jk _) rfl) rfl) X Hm ?_);intro row xB F H Hm E X jv;replace jc:=E.xc jc;replace jr:=E.xc jr;replace jg:=E.xc jg;refine(jav (K:=K) (xu (jj (p:=pF (jp je)) (i:=4) rfl jg) (jk _) (jj (p:=pF (cT cI)) (i:=6) rfl jv) rfl) X Hm ?_);intro found error kinds zK JR JS F H Hm E X ka jM kq
      try dsimp only at Hm
      replace jc:=E.xc jc;replace jr:=E.xc jr;replace jg:=E.xc jg;replace jv:=E.xc jv;refine(ZE (K:=K) (jaL (kE (jy (jcp (eqL eqB) (by decide) nfL) (GO (jj (p:=pF (cL cB)) (i:=9) rfl kq)) (U5 (xE (qN (xM (Ua (ju (x8 (jj (p:=pF (cL (cL cI))) (i:=3) rfl jr)) (jj (p:=pF (cT cI)) (i:=6) rfl jv) rfl) rfl) (jx (yJ _) (jx (yJ _) (kG (c:=cB)) rfl) rfl) rfl) (by decide)))) rfl)) (yk (xC (QC (jj (p:=pF (cOE cs)) (i:=8) rfl jM) rfl)) (xn (xC (Y0 (Gs (jj (p:=pF (cOp cI)) (i:=7) rfl ka) rfl) rfl)) rfl) rfl) rfl) X Hm ?_ ?_)
      · intro F H Hm E X
        try dsimp only[wm] at Hm
        exact kc (K:=K) (yJ _) X Hm Kk
      · intro F H Hm E X
        try dsimp only[wb] at Hm
        replace jc:=E.xc jc;replace jr:=E.xc jr;replace jg:=E.xc jg;replace ka:=E.xc ka;replace jM:=E.xc jM;replace kq:=E.xc kq;refine yG ?_;refine(qp (K:=K) (qv (jJ (i:=5) rfl) (ju (jj (p:=pF cScr) (i:=0) rfl jc) (jk _) rfl) rfl) X Hm ?_);intro number_here F H Hm E X;replace jr:=E.xc jr;replace jg:=E.xc jg;replace ka:=E.xc ka;replace jM:=E.xc jM;replace kq:=E.xc kq;refine(jav (K:=K) (xu (jj (p:=pF (jp je)) (i:=4) rfl jg) (jk _) (jJ (i:=10) rfl) rfl) X Hm ?_);intro found error kinds zK JR JS F H Hm E X ka jM kq
        try dsimp only at Hm
        replace jr:=E.xc jr;replace jg:=E.xc jg;refine(Je (K:=K) (kE (jf (jcp (eqL eqB) (by decide) nfL) (GO (jj (p:=pF (cL cB)) (i:=9) rfl kq)) (U5 (xE (qN (jx (yJ _) (jx (Qv (Jj (jk _) (jJ (i:=10) rfl) (jJ (i:=5) rfl) rfl) rfl) (jx (yJ _) (kG (c:=cB)) rfl) rfl) rfl) (by decide)))) rfl)) X Hm ?_ ?_)
        · intro F H Hc Hm E X
          exact kc (K:=K) (yJ _) X Hm Kk
        · intro F H Hc Hm E X
          replace jr:=E.xc jr;replace jg:=E.xc jg;replace ka:=E.xc ka;replace jM:=E.xc jM;replace kq:=E.xc kq;refine yG ?_;refine(ZE (K:=K) (yk (xC (QC (jj (p:=pF (cOE cs)) (i:=8) rfl jM) rfl)) (xn (xC (qv (x8 (jj (p:=pF (cL (cL cI))) (i:=3) rfl jr)) (Gs (jj (p:=pF (cOp (cT cI))) (i:=7) rfl ka) rfl) rfl)) rfl) rfl) X Hm ?_ ?_)
          · intro F H Hm E X
            try dsimp only[wm] at Hm
            exact kc (K:=K) (yJ _) X Hm Kk
          · intro F H Hm E X
            try dsimp only[wb] at Hm
            replace jg:=E.xc jg;replace ka:=E.xc ka;replace jM:=E.xc jM;replace kq:=E.xc kq;refine yG ?_;refine(ZE (K:=K) (yk (xC (Jp (jj (p:=pF (cOE cs)) (i:=8) rfl jM) rfl)) (jaL (xn (xC (Wj (c:=.ty "ValueError") (fun u h=>h) Iq_ValueError (jj (p:=pF (cOE cs)) (i:=8) rfl jM) rfl)) rfl) (kE (jy jif (Wi WL (jj (p:=pF (cOE cs)) (i:=8) rfl jM) rfl) (jJ (i:=10) rfl) rfl)) rfl) rfl) X Hm ?_ ?_)
            · intro F H Hm E X
              try dsimp only[wm] at Hm
              exact kc (K:=K) (yJ _) X Hm Kk
            · intro F H Hm E X
              try dsimp only[wb] at Hm
              replace jg:=E.xc jg;replace ka:=E.xc ka;replace jM:=E.xc jM;replace kq:=E.xc kq;refine yG ?_;refine(jav (K:=K) (xu (jj (p:=pF (jp je)) (i:=4) rfl jg) (jk _) Jb rfl) X Hm ?_);intro found error kinds zK JR JS F H Hm E X ka jM kq
              try dsimp only at Hm
              exact kc (K:=K) (Y1 (jf (jig (eqL eqB) (by decide) nfL) (GO (jj (p:=pF (cL cB)) (i:=9) rfl kq)) (U5 (xE (qN (jx (yJ _) (jx (yJ _) (jx (jf xL (jJ (i:=5) rfl) (jk _) rfl) (kG (c:=cB)) rfl) rfl) rfl) (by decide)))) rfl) (jaM (Jp (jj (p:=pF (cOE cs)) (i:=8) rfl jM) rfl) (jy xb (xF xW (kZ (x8 (Gs (jj (p:=pF (cOp (cL (cT cI)))) (i:=7) rfl ka) rfl))) rfl) (jJ (i:=5) rfl) rfl) rfl) rfl) X Hm Kk
theorem VN:FnScope ["self","place"] ["self","place"] (jo ((qz (top 5) 0))):=⟨rfl,rfl,rfl,by decide +kernel,rfl,by decide +kernel,by decide +kernel⟩
theorem VO {P:Program}{f:Addr} (Fn:Fun K "__init__" "NoPlace.__init__" ((qz (top 5) 0)) f fd) (c:XCls K C) (n0:NoAttr K C "place"):FnOk P w K mg base CX0 1 f fd ["self","place"] (spX C ["place"]):=by
 refine Fn.ok VN (fun vs H Q E h=>?_) (fun cdv A outer s H0 vs Q E_ hr h=>?_)
 ·obtain⟨x,is,rfl,hl,_⟩:=h;simpa using hl
 ·obtain⟨x,is,rfl,hl,hx,k⟩:=h;obtain⟨i,rfl⟩:∃ i,is=[i]:=by
   match is,hl with
   | [i],_=>exact ⟨i,rfl⟩
  refine⟨_,(jn (ji6 (pv 0) (pv 1) rfl)),?_⟩
  try dsimp only[qA]
  refine jiq rfl rfl c n0 hx fun dx h1 h2=>?_;exact k dx h1 h2
end
theorem all_mk {l:W.OpenLaw}{fa:Addr} (X:K.In h) (G:h.Ns mainGlobals mg) (hfa:mg "law"=some (.ref fa))
  {f0 f1 f2 f3 f4 f5 f6 f7 f8 f9 f10 f11 f12 f13 f14 f15 f16 f17 f18 f19 f20 f21 f22 f23 f24 f25 f26 f27 f28 f29 f30 f31 f32 f33 f34:Addr}{od0 od1 od2 od3 od4 od5 od6 od7 od8 od9 od10 od11 od12 od13 od14 od15 od16 od17 od18 od19 od20 od21 od22 od23 od24 od25 od26 od27 od28 od29 od30 od31 od32 od33 od34 an0 an1 an2 an3 an4 an5 an6 an7 an8 an9 an10 an11 an12 an13 an14 an15 an16 an17 an18 an19 an20 an21 an22 an23 an24 an25 an26 an27 an28 an29 an30 an31 an32 an33 an34:Option Addr}{sl0 sl1 sl2 sl3 sl4 sl5 sl6 sl7 sl8 sl9 sl10 sl11 sl12 sl13 sl14 sl15 sl16 sl17 sl18 sl19 sl20 sl21 sl22 sl23 sl24 sl25 sl26 sl27 sl28 sl29 sl30 sl31 sl32 sl33 sl34:Array (Option Value)}{oc0 oc1 oc2 oc3 oc4 oc5 oc6 oc7 oc8 oc9 oc10 oc11 oc12 oc13 oc14 oc15 oc16 oc17 oc18 oc19 oc20 oc21 oc22 oc23 oc24 oc25 oc26 oc27 oc28 oc29 oc30 oc31 oc32 oc33 oc34 kV0 kV1 kV2 kV3 kV4 kV5 kV6 kV7 kV8 kV9 kV10 kV11 kV12 kV13 kV14 kV15 kV16 kV17 kV18 kV19 kV20 kV21 kV22 kV23 kV24 kV25 kV26 kV27 kV28 kV29 kV30 kV31 kV32 kV33 kV34 dc0 dc1 dc2 dc3 dc4 dc5 dc6 dc7 dc8 dc9 dc10 dc11 dc12 dc13 dc14 dc15 dc16 dc17 dc18 dc19 dc20 dc21 dc22 dc23 dc24 dc25 dc26 dc27 dc28 dc29 dc30 dc31 dc32 dc33 dc34 pm0 pm1 pm2 pm3 pm4 pm5 pm6 pm7 pm8 pm9 pm10 pm11 pm12 pm13 pm14 pm15 pm16 pm17 pm18 pm19 pm20 pm21 pm22 pm23 pm24 pm25 pm26 pm27 pm28 pm29 pm30 pm31 pm32 pm33 pm34 cd0 cd1 cd2 cd3 cd4 cd5 cd6 cd7 cd8 cd9 cd10 cd11 cd12 cd13 cd14 cd15 cd16 cd17 cd18 cd19 cd20 cd21 cd22 cd23 cd24 cd25 cd26 cd27 cd28 cd29 cd30 cd31 cd32 cd33 cd34 ct0 ct1 ct2 ct3 ct4 ct5 ct6 ct7 ct8 ct9 ct10 ct11 ct12 ct13 ct14 ct15 ct16 ct17 ct18 ct19 ct20 ct21 ct22 ct23 ct24 ct25 ct26 ct27 ct28 ct29 ct30 ct31 ct32 ct33 ct34:Value}{jZ kf jK j4 jN ef_NoCount ef_NoPair:Addr}{tk_MOST_THINGS tk_MOST_LISTED:Tok}
  (aC_Order:W.nsIn K mainGlobals "Order"=some (some (.ref je)))
  (pg_Order:W.plainGet K je Str.empty=true) (hd_Order:W.hasDictIn K je=true) (po_Order:W.plainOver K je=true) (sa_Order:W.findIn K (.ref je) "__setattr__"=some (some (.builtin "object.__setattr__"))) (mk_Order:W.makesIn K je=true) (kc_Order:W.keepIn K (.ref je)=true)
  (n_Order_many:W.findIn K (.ref je) "many"=some none)
  (n_Order_beneath:W.findIn K (.ref je) "beneath"=some none)
  (n_Order_neighbours:W.findIn K (.ref je) "neighbours"=some none)
  (xa_T:W.nsIn K mainGlobals "ToggleError"=some (some (.ref CT)))
  (xa_NoCount:W.nsIn K mainGlobals "NoCount"=some (some (.ref jZ)))
  (xi_NoCount:W.findIn K (.ref jZ) "__init__"=some (some (.ref ef_NoCount)))
  (xa_NoPair:W.nsIn K mainGlobals "NoPair"=some (some (.ref kf)))
  (xi_NoPair:W.findIn K (.ref kf) "__init__"=some (some (.ref ef_NoPair)))
  (xa_NoPlace:W.nsIn K mainGlobals "NoPlace"=some (some (.ref jK)))
  (xa_NoLine:W.nsIn K mainGlobals "NoLine"=some (some (.ref j4)))
  (xa_TooMany:W.nsIn K mainGlobals "TooMany"=some (some (.ref jN)))
  (a0:W.nsIn K mainGlobals "_law_cell"=some (some (.ref f0)))
  (l0:K.lookup f0=some ⟨oc0,od0,.func (W.fnOf "_law_cell" "_law_cell" (j0 (top 33)) (jT (top 33)) (jo (top 33)) .none kV0 dc0 pm0 an0 cd0 ct0),sl0⟩) (c0:W.codeIn K cd0 "_law_cell"=true) (k0:W.keepIn K (.ref f0)=true)
  (a1:W.nsIn K mainGlobals "_law_any_order"=some (some (.ref f1)))
  (l1:K.lookup f1=some ⟨oc1,od1,.func (W.fnOf "_law_any_order" "_law_any_order" (j0 (top 36)) (jT (top 36)) (jo (top 36)) .none kV1 dc1 pm1 an1 cd1 ct1),sl1⟩) (c1:W.codeIn K cd1 "_law_any_order"=true) (k1:W.keepIn K (.ref f1)=true)
  (a2:W.nsIn K mainGlobals "_law_grid"=some (some (.ref f2)))
  (l2:K.lookup f2=some ⟨oc2,od2,.func (W.fnOf "_law_grid" "_law_grid" (j0 (top 35)) (jT (top 35)) (jo (top 35)) .none kV2 dc2 pm2 an2 cd2 ct2),sl2⟩) (c2:W.codeIn K cd2 "_law_grid"=true) (k2:W.keepIn K (.ref f2)=true)
  (a3:W.nsIn K mainGlobals "_law_order"=some (some (.ref f3)))
  (l3:K.lookup f3=some ⟨oc3,od3,.func (W.fnOf "_law_order" "_law_order" (j0 (top 37)) (jT (top 37)) (jo (top 37)) .none kV3 dc3 pm3 an3 cd3 ct3),sl3⟩) (c3:W.codeIn K cd3 "_law_order"=true) (k3:W.keepIn K (.ref f3)=true)
  (a4:W.nsIn K mainGlobals "_law_below"=some (some (.ref f4)))
  (l4:K.lookup f4=some ⟨oc4,od4,.func (W.fnOf "_law_below" "_law_below" (j0 (top 38)) (jT (top 38)) (jo (top 38)) .none kV4 dc4 pm4 an4 cd4 ct4),sl4⟩) (c4:W.codeIn K cd4 "_law_below"=true) (k4:W.keepIn K (.ref f4)=true)
  (a5:W.nsIn K mainGlobals "check_parts"=some (some (.ref f5)))
  (l5:K.lookup f5=some ⟨oc5,od5,.func (W.fnOf "check_parts" "check_parts" (j0 (top 10)) (jT (top 10)) (jo (top 10)) .none kV5 dc5 pm5 an5 cd5 ct5),sl5⟩) (c5:W.codeIn K cd5 "check_parts"=true) (k5:W.keepIn K (.ref f5)=true)
  (a6:W.nsIn K mainGlobals "sets_below"=some (some (.ref f6)))
  (l6:K.lookup f6=some ⟨oc6,od6,.func (W.fnOf "sets_below" "sets_below" (j0 (top 12)) (jT (top 12)) (jo (top 12)) .none kV6 dc6 pm6 an6 cd6 ct6),sl6⟩) (c6:W.codeIn K cd6 "sets_below"=true) (k6:W.keepIn K (.ref f6)=true)
  (a7:W.nsIn K mainGlobals "has"=some (some (.ref f7)))
  (l7:K.lookup f7=some ⟨oc7,od7,.func (W.fnOf "has" "has" (j0 (top 11)) (jT (top 11)) (jo (top 11)) .none kV7 dc7 pm7 an7 cd7 ct7),sl7⟩) (c7:W.codeIn K cd7 "has"=true) (k7:W.keepIn K (.ref f7)=true)
  (a8:W.nsIn K mainGlobals "is_cover"=some (some (.ref f8)))
  (l8:K.lookup f8=some ⟨oc8,od8,.func (W.fnOf "is_cover" "is_cover" (j0 (top 13)) (jT (top 13)) (jo (top 13)) .none kV8 dc8 pm8 an8 cd8 ct8),sl8⟩) (c8:W.codeIn K cd8 "is_cover"=true) (k8:W.keepIn K (.ref f8)=true)
  (a9:W.nsIn K mainGlobals "cover_pairs"=some (some (.ref f9)))
  (l9:K.lookup f9=some ⟨oc9,od9,.func (W.fnOf "cover_pairs" "cover_pairs" (j0 (top 14)) (jT (top 14)) (jo (top 14)) .none kV9 dc9 pm9 an9 cd9 ct9),sl9⟩) (c9:W.codeIn K cd9 "cover_pairs"=true) (k9:W.keepIn K (.ref f9)=true)
  (a10:W.findIn K (.ref je) "__init__"=some (some (.ref f10))) (i10:W.isFn K (.ref f10)=true)
  (l10:K.lookup f10=some ⟨oc10,od10,.func (W.fnOf "__init__" "Order.__init__" (j0 ((qz (top 15) 0))) (jT ((qz (top 15) 0))) (jo ((qz (top 15) 0))) .none kV10 dc10 pm10 an10 cd10 ct10),sl10⟩) (c10:W.codeIn K cd10 "Order.__init__"=true) (k10:W.keepIn K (.ref f10)=true)
  (a11:W.nsIn K mainGlobals "_law_free"=some (some (.ref f11)))
  (l11:K.lookup f11=some ⟨oc11,od11,.func (W.fnOf "_law_free" "_law_free" (j0 (top 39)) (jT (top 39)) (jo (top 39)) .none kV11 dc11 pm11 an11 cd11 ct11),sl11⟩) (c11:W.codeIn K cd11 "_law_free"=true) (k11:W.keepIn K (.ref f11)=true)
  (a12:W.nsIn K mainGlobals "_law_counted"=some (some (.ref f12)))
  (l12:K.lookup f12=some ⟨oc12,od12,.func (W.fnOf "_law_counted" "_law_counted" (j0 (top 41)) (jT (top 41)) (jo (top 41)) .none kV12 dc12 pm12 an12 cd12 ct12),sl12⟩) (c12:W.codeIn K cd12 "_law_counted"=true) (k12:W.keepIn K (.ref f12)=true)
  (a13:W.nsIn K mainGlobals "_law_line"=some (some (.ref f13)))
  (l13:K.lookup f13=some ⟨oc13,od13,.func (W.fnOf "_law_line" "_law_line" (j0 (top 40)) (jT (top 40)) (jo (top 40)) .none kV13 dc13 pm13 an13 cd13 ct13),sl13⟩) (c13:W.codeIn K cd13 "_law_line"=true) (k13:W.keepIn K (.ref f13)=true)
  (a14:W.nsIn K mainGlobals "_law_spoilt"=some (some (.ref f14)))
  (l14:K.lookup f14=some ⟨oc14,od14,.func (W.fnOf "_law_spoilt" "_law_spoilt" (j0 (top 42)) (jT (top 42)) (jo (top 42)) .none kV14 dc14 pm14 an14 cd14 ct14),sl14⟩) (c14:W.codeIn K cd14 "_law_spoilt"=true) (k14:W.keepIn K (.ref f14)=true)
  (a15:W.findIn K (.ref je) "size"=some (some (.ref f15))) (i15:W.isFn K (.ref f15)=true)
  (l15:K.lookup f15=some ⟨oc15,od15,.func (W.fnOf "size" "Order.size" (j0 ((qz (top 15) 1))) (jT ((qz (top 15) 1))) (jo ((qz (top 15) 1))) .none kV15 dc15 pm15 an15 cd15 ct15),sl15⟩) (c15:W.codeIn K cd15 "Order.size"=true) (k15:W.keepIn K (.ref f15)=true)
  (a16:W.nsIn K mainGlobals "holds_all"=some (some (.ref f16)))
  (l16:K.lookup f16=some ⟨oc16,od16,.func (W.fnOf "holds_all" "holds_all" (j0 (top 18)) (jT (top 18)) (jo (top 18)) .none kV16 dc16 pm16 an16 cd16 ct16),sl16⟩) (c16:W.codeIn K cd16 "holds_all"=true) (k16:W.keepIn K (.ref f16)=true)
  (a17:W.nsIn K mainGlobals "is_line"=some (some (.ref f17)))
  (l17:K.lookup f17=some ⟨oc17,od17,.func (W.fnOf "is_line" "is_line" (j0 (top 24)) (jT (top 24)) (jo (top 24)) .none kV17 dc17 pm17 an17 cd17 ct17),sl17⟩) (c17:W.codeIn K cd17 "is_line"=true) (k17:W.keepIn K (.ref f17)=true)
  (a18:W.nsIn K mainGlobals "check_line"=some (some (.ref f18)))
  (l18:K.lookup f18=some ⟨oc18,od18,.func (W.fnOf "check_line" "check_line" (j0 (top 25)) (jT (top 25)) (jo (top 25)) .none kV18 dc18 pm18 an18 cd18 ct18),sl18⟩) (c18:W.codeIn K cd18 "check_line"=true) (k18:W.keepIn K (.ref f18)=true)
  (a19:W.nsIn K mainGlobals "things_of"=some (some (.ref f19)))
  (l19:K.lookup f19=some ⟨oc19,od19,.func (W.fnOf "things_of" "things_of" (j0 (top 17)) (jT (top 17)) (jo (top 17)) .none kV19 dc19 pm19 an19 cd19 ct19),sl19⟩) (c19:W.codeIn K cd19 "things_of"=true) (k19:W.keepIn K (.ref f19)=true)
  (a20:W.nsIn K mainGlobals "is_downset"=some (some (.ref f20)))
  (l20:K.lookup f20=some ⟨oc20,od20,.func (W.fnOf "is_downset" "is_downset" (j0 (top 19)) (jT (top 19)) (jo (top 19)) .none kV20 dc20 pm20 an20 cd20 ct20),sl20⟩) (c20:W.codeIn K cd20 "is_downset"=true) (k20:W.keepIn K (.ref f20)=true)
  (a21:W.nsIn K mainGlobals "downsets"=some (some (.ref f21)))
  (l21:K.lookup f21=some ⟨oc21,od21,.func (W.fnOf "downsets" "downsets" (j0 (top 21)) (jT (top 21)) (jo (top 21)) .none kV21 dc21 pm21 an21 cd21 ct21),sl21⟩) (c21:W.codeIn K cd21 "downsets"=true) (k21:W.keepIn K (.ref f21)=true)
  (a22:W.nsIn K mainGlobals "is_door"=some (some (.ref f22)))
  (l22:K.lookup f22=some ⟨oc22,od22,.func (W.fnOf "is_door" "is_door" (j0 (top 20)) (jT (top 20)) (jo (top 20)) .none kV22 dc22 pm22 an22 cd22 ct22),sl22⟩) (c22:W.codeIn K cd22 "is_door"=true) (k22:W.keepIn K (.ref f22)=true)
  (a23:W.nsIn K mainGlobals "things_next"=some (some (.ref f23)))
  (l23:K.lookup f23=some ⟨oc23,od23,.func (W.fnOf "things_next" "things_next" (j0 (top 26)) (jT (top 26)) (jo (top 26)) .none kV23 dc23 pm23 an23 cd23 ct23),sl23⟩) (c23:W.codeIn K cd23 "things_next"=true) (k23:W.keepIn K (.ref f23)=true)
  (a24:W.nsIn K mainGlobals "ways_on"=some (some (.ref f24)))
  (l24:K.lookup f24=some ⟨oc24,od24,.func (W.fnOf "ways_on" "ways_on" (j0 (top 27)) (jT (top 27)) (jo (top 27)) .none kV24 dc24 pm24 an24 cd24 ct24),sl24⟩) (c24:W.codeIn K cd24 "ways_on"=true) (k24:W.keepIn K (.ref f24)=true)
  (a25:W.nsIn K mainGlobals "number_of"=some (some (.ref f25)))
  (l25:K.lookup f25=some ⟨oc25,od25,.func (W.fnOf "number_of" "number_of" (j0 (top 30)) (jT (top 30)) (jo (top 30)) .none kV25 dc25 pm25 an25 cd25 ct25),sl25⟩) (c25:W.codeIn K cd25 "number_of"=true) (k25:W.keepIn K (.ref f25)=true)
  (a26:W.nsIn K mainGlobals "_law_asked"=some (some (.ref f26)))
  (l26:K.lookup f26=some ⟨oc26,od26,.func (W.fnOf "_law_asked" "_law_asked" (j0 (top 44)) (jT (top 44)) (jo (top 44)) .none kV26 dc26 pm26 an26 cd26 ct26),sl26⟩) (c26:W.codeIn K cd26 "_law_asked"=true) (k26:W.keepIn K (.ref f26)=true)
  (a27:W.nsIn K mainGlobals "_law_is_line"=some (some (.ref f27)))
  (l27:K.lookup f27=some ⟨oc27,od27,.func (W.fnOf "_law_is_line" "_law_is_line" (j0 (top 43)) (jT (top 43)) (jo (top 43)) .none kV27 dc27 pm27 an27 cd27 ct27),sl27⟩) (c27:W.codeIn K cd27 "_law_is_line"=true) (k27:W.keepIn K (.ref f27)=true)
  (a28:W.nsIn K mainGlobals "_law_whole"=some (some (.ref f28)))
  (l28:K.lookup f28=some ⟨oc28,od28,.func (W.fnOf "_law_whole" "_law_whole" (j0 (top 34)) (jT (top 34)) (jo (top 34)) .none kV28 dc28 pm28 an28 cd28 ct28),sl28⟩) (c28:W.codeIn K cd28 "_law_whole"=true) (k28:W.keepIn K (.ref f28)=true)
  (a29:W.nsIn K mainGlobals "_law_number"=some (some (.ref f29)))
  (l29:K.lookup f29=some ⟨oc29,od29,.func (W.fnOf "_law_number" "_law_number" (j0 (top 45)) (jT (top 45)) (jo (top 45)) .none kV29 dc29 pm29 an29 cd29 ct29),sl29⟩) (c29:W.codeIn K cd29 "_law_number"=true) (k29:W.keepIn K (.ref f29)=true)
  (a30:W.nsIn K mainGlobals "line_at"=some (some (.ref f30)))
  (l30:K.lookup f30=some ⟨oc30,od30,.func (W.fnOf "line_at" "line_at" (j0 (top 31)) (jT (top 31)) (jo (top 31)) .none kV30 dc30 pm30 an30 cd30 ct30),sl30⟩) (c30:W.codeIn K cd30 "line_at"=true) (k30:W.keepIn K (.ref f30)=true)
  (a31:W.nsIn K mainGlobals "how_many_lines"=some (some (.ref f31)))
  (l31:K.lookup f31=some ⟨oc31,od31,.func (W.fnOf "how_many_lines" "how_many_lines" (j0 (top 28)) (jT (top 28)) (jo (top 28)) .none kV31 dc31 pm31 an31 cd31 ct31),sl31⟩) (c31:W.codeIn K cd31 "how_many_lines"=true) (k31:W.keepIn K (.ref f31)=true)
  (a32:W.nsIn K mainGlobals "lines"=some (some (.ref f32)))
  (l32:K.lookup f32=some ⟨oc32,od32,.func (W.fnOf "lines" "lines" (j0 (top 29)) (jT (top 29)) (jo (top 29)) .none kV32 dc32 pm32 an32 cd32 ct32),sl32⟩) (c32:W.codeIn K cd32 "lines"=true) (k32:W.keepIn K (.ref f32)=true)
  (a33:W.nsIn K mainGlobals "law"=some (some (.ref f33)))
  (l33:K.lookup f33=some ⟨oc33,od33,.func (W.fnOf "law" "law" (j0 (top 46)) (jT (top 46)) (jo (top 46)) .none kV33 dc33 pm33 an33 cd33 ct33),sl33⟩) (c33:W.codeIn K cd33 "law"=true) (k33:W.keepIn K (.ref f33)=true)
  (a34:W.findIn K (.ref jK) "__init__"=some (some (.ref f34))) (i34:W.isFn K (.ref f34)=true)
  (l34:K.lookup f34=some ⟨oc34,od34,.func (W.fnOf "__init__" "NoPlace.__init__" (j0 ((qz (top 5) 0))) (jT ((qz (top 5) 0))) (jo ((qz (top 5) 0))) .none kV34 dc34 pm34 an34 cd34 ct34),sl34⟩) (c34:W.codeIn K cd34 "NoPlace.__init__"=true) (k34:W.keepIn K (.ref f34)=true)
  (xb_T:yU K CT none=true) (xb_all:Wp K CT [(jZ,some ef_NoCount),(kf,some ef_NoPair),(jK,some f34),(j4,none),(jN,none)]=true)
  (xb_NoLine:Wq K [(jZ,some ef_NoCount),(kf,some ef_NoPair),(jK,some f34),(j4,none),(jN,none)] (.ref j4) [3]=true)
  (xb_no_NoLine:jh2 K j4=true)
  (xb_NoPlace:Wq K [(jZ,some ef_NoCount),(kf,some ef_NoPair),(jK,some f34),(j4,none),(jN,none)] (.ref jK) [2]=true)
  (xb_no_NoPlace:jh2 K jK=true)
  (xb_TooMany:Wq K [(jZ,some ef_NoCount),(kf,some ef_NoPair),(jK,some f34),(j4,none),(jN,none)] (.ref jN) [4]=true)
  (xb_no_TooMany:jh2 K jN=true)
  (xv_V:W.nsIn K mainGlobals "ValueError"=some none) (xb_V:Wq K [(jZ,some ef_NoCount),(kf,some ef_NoPair),(jK,some f34),(j4,none),(jN,none)] (.type "ValueError") [0,1,2,3,4]=true)
  (xq_place:W.findIn K (.ref jK) "place"=some none)
  (xn_NoPlace_place:W.findIn K (.ref jK) "place"=some none)
  (g_MOST_THINGS:W.nsIn K mainGlobals "MOST_THINGS"=some (some (.int 9 tk_MOST_THINGS))) (g_MOST_LISTED:W.nsIn K mainGlobals "MOST_LISTED"=some (some (.int 1000 tk_MOST_LISTED)))
  (z0:W.nsIn K mainGlobals "len"=some none) (z1:W.nsIn K mainGlobals "range"=some none) (z2:W.nsIn K mainGlobals "isinstance"=some none) (z3:W.nsIn K mainGlobals "any"=some none) (z4:W.nsIn K mainGlobals "all"=some none) (z5:W.nsIn K mainGlobals "sum"=some none) (z6:W.nsIn K mainGlobals "list"=some none) (z7:W.nsIn K mainGlobals "tuple"=some none) (z8:W.nsIn K mainGlobals "int"=some none) (z9:W.nsIn K mainGlobals "bool"=some none) (z10:W.nsIn K mainGlobals "str"=some none) (z11:W.nsIn K mainGlobals "enumerate"=some none) (z12:W.nsIn K mainGlobals "reversed"=some none) (z13:W.nsIn K mainGlobals "sorted"=some none) (z14:W.nsIn K mainGlobals "set"=some none) (z15:W.nsIn K mainGlobals "max"=some none) (z16:W.nsIn K mainGlobals "min"=some none) (z17:W.nsIn K mainGlobals "abs"=some none) (z18:W.nsIn K mainGlobals "zip"=some none) :
  ∃ fd:FuncData,(∀ (s:Shared) (v:Value),BindsTo s fd ⟨[v],[]⟩ [("_law_script",v)])/\∀ base:Heap,K.In base->base.Ns mainGlobals mg->FnOk l.prog w K mg base CX0 9 fa fd ["_law_script"] (sp1 K (pF cScr) (rF cB) Vx):=by
 have e:=hfa.symm.trans (Xq X G a33);cases e;have B:Bi mg:=⟨XE X G z0,XE X G z1,XE X G z2,XE X G z3,XE X G z4,XE X G z5,XE X G z6,XE X G z7,XE X G z8,XE X G z9,XE X G z10,XE X G z11,XE X G z12,XE X G z13,XE X G z14,XE X G z15,XE X G z16,XE X G z17,XE X G z18⟩;have T_Order:Txt_Order K mg je:=⟨⟨pg_Order,hd_Order,po_Order,sa_Order⟩,n_Order_many,n_Order_beneath,n_Order_neighbours⟩;have yz:∃ t,mg "MOST_THINGS"=some (.int 9 t):=⟨_,Xq X G g_MOST_THINGS⟩;have qK:∃ t,mg "MOST_LISTED"=some (.int 1000 t):=⟨_,Xq X G g_MOST_LISTED⟩;have F0:=ky (st:=top 33) l0 c0 k0;have b0:=F0.binds (ps:=["_law_script","_law_k"]) fun _ _ _ _ _ _ us hl=>match us,hl with | [_,_],_=>rfl
 have F1:=ky (st:=top 36) l1 c1 k1;have b1:=F1.binds (ps:=["_law_script","_law_most"]) fun _ _ _ _ _ _ us hl=>match us,hl with | [_,_],_=>rfl
 have F2:=ky (st:=top 35) l2 c2 k2;have b2:=F2.binds (ps:=["_law_rows","_law_columns"]) fun _ _ _ _ _ _ us hl=>match us,hl with | [_,_],_=>rfl
 have F3:=ky (st:=top 37) l3 c3 k3;have b3:=F3.binds (ps:=["_law_script","_law_most"]) fun _ _ _ _ _ _ us hl=>match us,hl with | [_,_],_=>rfl
 have F4:=ky (st:=top 38) l4 c4 k4;have b4:=F4.binds (ps:=["_law_n","_law_pairs"]) fun _ _ _ _ _ _ us hl=>match us,hl with | [_,_],_=>rfl
 have F5:=ky (st:=top 10) l5 c5 k5;have b5:=F5.binds (ps:=["many","pairs"]) fun _ _ _ _ _ _ us hl=>match us,hl with | [_,_],_=>rfl
 have F6:=ky (st:=top 12) l6 c6 k6;have b6:=F6.binds (ps:=["many","pairs"]) fun _ _ _ _ _ _ us hl=>match us,hl with | [_,_],_=>rfl
 have F7:=ky (st:=top 11) l7 c7 k7;have b7:=F7.binds (ps:=["bits","thing"]) fun _ _ _ _ _ _ us hl=>match us,hl with | [_,_],_=>rfl
 have F8:=ky (st:=top 13) l8 c8 k8;have b8:=F8.binds (ps:=["beneath","low","high"]) fun _ _ _ _ _ _ us hl=>match us,hl with | [_,_,_],_=>rfl
 have F9:=ky (st:=top 14) l9 c9 k9;have b9:=F9.binds (ps:=["beneath"]) fun _ _ _ _ _ _ us hl=>match us,hl with | [_],_=>rfl
 have F10:=ky (st:=(qz (top 15) 0)) l10 c10 k10;have b10:=F10.binds (ps:=["self","many","pairs"]) fun _ _ _ _ _ _ us hl=>match us,hl with | [_,_,_],_=>rfl
 have F11:=ky (st:=top 39) l11 c11 k11;have b11:=F11.binds (ps:=["_law_below_here","_law_row"]) fun _ _ _ _ _ _ us hl=>match us,hl with | [_,_],_=>rfl
 have F12:=ky (st:=top 41) l12 c12 k12;have b12:=F12.binds (ps:=["_law_below_here"]) fun _ _ _ _ _ _ us hl=>match us,hl with | [_],_=>rfl
 have F13:=ky (st:=top 40) l13 c13 k13;have b13:=F13.binds (ps:=["_law_below_here","_law_cell_here"]) fun _ _ _ _ _ _ us hl=>match us,hl with | [_,_],_=>rfl
 have F14:=ky (st:=top 42) l14 c14 k14;have b14:=F14.binds (ps:=["_law_row","_law_cell_here"]) fun _ _ _ _ _ _ us hl=>match us,hl with | [_,_],_=>rfl
 have F15:=ky (st:=(qz (top 15) 1)) l15 c15 k15;have b15:=F15.binds (ps:=["self"]) fun _ _ _ _ _ _ us hl=>match us,hl with | [_],_=>rfl
 have F16:=ky (st:=top 18) l16 c16 k16;have b16:=F16.binds (ps:=["bits","others"]) fun _ _ _ _ _ _ us hl=>match us,hl with | [_,_],_=>rfl
 have F17:=ky (st:=top 24) l17 c17 k17;have b17:=F17.binds (ps:=["order","line"]) fun _ _ _ _ _ _ us hl=>match us,hl with | [_,_],_=>rfl
 have F18:=ky (st:=top 25) l18 c18 k18;have b18:=F18.binds (ps:=["order","line"]) fun _ _ _ _ _ _ us hl=>match us,hl with | [_,_],_=>rfl
 have F19:=ky (st:=top 17) l19 c19 k19;have b19:=F19.binds (ps:=["bits"]) fun _ _ _ _ _ _ us hl=>match us,hl with | [_],_=>rfl
 have F20:=ky (st:=top 19) l20 c20 k20;have b20:=F20.binds (ps:=["order","bits"]) fun _ _ _ _ _ _ us hl=>match us,hl with | [_,_],_=>rfl
 have F21:=ky (st:=top 21) l21 c21 k21;have b21:=F21.binds (ps:=["order"]) fun _ _ _ _ _ _ us hl=>match us,hl with | [_],_=>rfl
 have F22:=ky (st:=top 20) l22 c22 k22;have b22:=F22.binds (ps:=["order","bits","thing"]) fun _ _ _ _ _ _ us hl=>match us,hl with | [_,_,_],_=>rfl
 have F23:=ky (st:=top 26) l23 c23 k23;have b23:=F23.binds (ps:=["order","ahead"]) fun _ _ _ _ _ _ us hl=>match us,hl with | [_,_],_=>rfl
 have F24:=ky (st:=top 27) l24 c24 k24;have b24:=F24.binds (ps:=["order"]) fun _ _ _ _ _ _ us hl=>match us,hl with | [_],_=>rfl
 have F25:=ky (st:=top 30) l25 c25 k25;have b25:=F25.binds (ps:=["order","line"]) fun _ _ _ _ _ _ us hl=>match us,hl with | [_,_],_=>rfl
 have F26:=ky (st:=top 44) l26 c26 k26;have b26:=F26.binds (ps:=["_law_order_here","_law_which","_law_one"]) fun _ _ _ _ _ _ us hl=>match us,hl with | [_,_,_],_=>rfl
 have F27:=ky (st:=top 43) l27 c27 k27;have b27:=F27.binds (ps:=["_law_below_here","_law_row"]) fun _ _ _ _ _ _ us hl=>match us,hl with | [_,_],_=>rfl
 have F28:=ky (st:=top 34) l28 c28 k28;have b28:=F28.binds (ps:=["_law_found"]) fun _ _ _ _ _ _ us hl=>match us,hl with | [_],_=>rfl
 have F29:=ky (st:=top 45) l29 c29 k29;have b29:=F29.binds (ps:=["_law_many","_law_cell_here"]) fun _ _ _ _ _ _ us hl=>match us,hl with | [_,_],_=>rfl
 have F30:=ky (st:=top 31) l30 c30 k30;have b30:=F30.binds (ps:=["order","number"]) fun _ _ _ _ _ _ us hl=>match us,hl with | [_,_],_=>rfl
 have F31:=ky (st:=top 28) l31 c31 k31;have b31:=F31.binds (ps:=["order"]) fun _ _ _ _ _ _ us hl=>match us,hl with | [_],_=>rfl
 have F32:=ky (st:=top 29) l32 c32 k32;have b32:=F32.binds (ps:=["order"]) fun _ _ _ _ _ _ us hl=>match us,hl with | [_],_=>rfl
 have F33:=ky (st:=top 46) l33 c33 k33;have F34:=ky (st:=(qz (top 5) 0)) l34 c34 k34;have b34:=F34.binds (ps:=["self","place"]) fun _ _ _ _ _ _ us hl=>match us,hl with | [_,_],_=>rfl
 refine⟨W.fnOf "law" "law" (j0 (top 46)) (jT (top 46)) (jo (top 46)) .none kV33 dc33 pm33 an33 cd33 ct33,fun s v=>.of_eq rfl,fun base _ _=>?_⟩;have m_T:=Xq X G xa_T;have UD:jfp K CT (([(jZ,some ef_NoCount),(kf,some ef_NoPair),(jK,some f34),(j4,none),(jN,none)].zip ([["number"],["low","high"],["place"],[],[]]:List (List Str))).map fun z=>(z.1.1,z.2)):=jfC xb_all;have J_NoLine:XClN K mg (([(jZ,some ef_NoCount),(kf,some ef_NoPair),(jK,some f34),(j4,none),(jN,none)].zip ([["number"],["low","high"],["place"],[],[]]:List (List Str))).map fun z=>(z.1.1,z.2)) "NoLine" [3]:=Wu xb_all (Xq X G xa_NoLine) xb_NoLine xb_no_NoLine;have J_NoPlace:XClN K mg (([(jZ,some ef_NoCount),(kf,some ef_NoPair),(jK,some f34),(j4,none),(jN,none)].zip ([["number"],["low","high"],["place"],[],[]]:List (List Str))).map fun z=>(z.1.1,z.2)) "NoPlace" [2]:=Wu xb_all (Xq X G xa_NoPlace) xb_NoPlace xb_no_NoPlace;have J_TooMany:XClN K mg (([(jZ,some ef_NoCount),(kf,some ef_NoPair),(jK,some f34),(j4,none),(jN,none)].zip ([["number"],["low","high"],["place"],[],[]]:List (List Str))).map fun z=>(z.1.1,z.2)) "TooMany" [4]:=Wu xb_all (Xq X G xa_TooMany) xb_TooMany xb_no_TooMany;have ze:mg "ValueError"=none/\jd6 K (([(jZ,some ef_NoCount),(kf,some ef_NoPair),(jK,some f34),(j4,none),(jN,none)].zip ([["number"],["low","high"],["place"],[],[]]:List (List Str))).map fun z=>(z.1.1,z.2)) (.type "ValueError") [0,1,2,3,4]:=⟨XE X G xv_V,ja_ xb_all xb_V⟩;have WL:jgS K (([(jZ,some ef_NoCount),(kf,some ef_NoPair),(jK,some f34),(j4,none),(jN,none)].zip ([["number"],["low","high"],["place"],[],[]]:List (List Str))).map fun z=>(z.1.1,z.2)) 2 0 "place":=jfD xb_all rfl rfl xq_place (by decide +kernel) rfl;have YF_NoLine:=QD (p:=(j4,none)) xb_all (XA (i:=3) rfl);have Y_NoLine:MDef0 K mg (([(jZ,some ef_NoCount),(kf,some ef_NoPair),(jK,some f34),(j4,none),(jN,none)].zip ([["number"],["low","high"],["place"],[],[]]:List (List Str))).map fun z=>(z.1.1,z.2)) "NoLine" 3:=⟨⟨j4,rfl,Xq X G xa_NoLine,⟨YF_NoLine.exc,YF_NoLine.kp⟩⟩⟩;have YF_TooMany:=QD (p:=(jN,none)) xb_all (XA (i:=4) rfl);have Y_TooMany:MDef0 K mg (([(jZ,some ef_NoCount),(kf,some ef_NoPair),(jK,some f34),(j4,none),(jN,none)].zip ([["number"],["low","high"],["place"],[],[]]:List (List Str))).map fun z=>(z.1.1,z.2)) "TooMany" 4:=⟨⟨jN,rfl,Xq X G xa_TooMany,⟨YF_TooMany.exc,YF_TooMany.kp⟩⟩⟩;have XF_NoPlace:=QD (p:=(jK,some f34)) xb_all (XA (i:=2) rfl);have X_NoPlace:XDef l.prog w K mg base (([(jZ,some ef_NoCount),(kf,some ef_NoPair),(jK,some f34),(j4,none),(jN,none)].zip ([["number"],["low","high"],["place"],[],[]]:List (List Str))).map fun z=>(z.1.1,z.2)) "NoPlace" 2 1 ["place"]:=⟨⟨jK,f34,_,rfl,Xq X G xa_NoPlace,⟨XF_NoPlace.exc,i34,XF_NoPlace.kp⟩,VO F34 XF_NoPlace.cls xn_NoPlace_place,b34⟩⟩;have jU:Def l.prog w K mg base "_law_cell" 1 ["_law_script","_law_k"] (sp2 K (pF cScr) (pF cI) (rF cI) ko):=⟨_,_,VE (K:=K) B F0,Xq X G a0,k0,b0⟩;have xA:Def l.prog w K mg base "_law_any_order" 2 ["_law_script","_law_most"] (sp2 K (pF cScr) (pF cI) (rF (cP cI (cL (cP cI cI)))) qk):=⟨_,_,Gw (K:=K) B F1 jU,Xq X G a1,k1,b1⟩;have zG:Def l.prog w K mg base "_law_grid" 1 ["_law_rows","_law_columns"] (sp2 K (pF cI) (pF cI) (rO (cP cI cI)) GJ):=⟨_,_,VF (K:=K) B F2,Xq X G a2,k2,b2⟩;have y9:Def l.prog w K mg base "_law_order" 3 ["_law_script","_law_most"] (sp2 K (pF cScr) (pF cI) (rF (cP cI (cL (cP cI cI)))) yx):=⟨_,_,Ut (K:=K) B F3 xA jU zG,Xq X G a3,k3,b3⟩;have za:Def l.prog w K mg base "_law_below" 1 ["_law_n","_law_pairs"] (sp2 K (pF cI) (pB (cP cI cI)) (rO (cL cI)) xz):=⟨_,_,Uu (K:=K) B F4,Xq X G a4,k4,b4⟩;have yA:Def l.prog w K mg base "check_parts" 1 ["many","pairs"] (sp2 K (pF cI) (pB (cP cI cI)) (rF cU) kQ):=⟨_,_,Qf (K:=K) B F5 yz,Xq X G a5,k5,b5⟩;have y1:Def l.prog w K mg base "sets_below" 1 ["many","pairs"] (sp2 K (pF cI) (pB (cP cI cI)) (rF (cT cI)) qe):=⟨_,_,Uv (K:=K) B F6,Xq X G a6,k6,b6⟩;have JN:Def l.prog w K mg base "has" 1 ["bits","thing"] (sp2 K (pF cI) (pF cI) (rF cB) zl):=⟨_,_,jhM (K:=K) B F7,Xq X G a7,k7,b7⟩;have Gy:Def l.prog w K mg base "is_cover" 2 ["beneath","low","high"] (sp3 K (pF (cT cI)) (pF cI) (pF cI) (rF cB) qZ):=⟨_,_,WH (K:=K) B F8 JN,Xq X G a8,k8,b8⟩;have yB:Def l.prog w K mg base "cover_pairs" 3 ["beneath"] (sp1 K (pF (cT cI)) (rF (cT (cP cI cI))) kR):=⟨_,_,Qg (K:=K) B F9 Gy,Xq X G a9,k9,b9⟩;have zb:Kls l.prog w K mg base "Order" je 4 ["self","many","pairs"] (jhZ K je (pF cI) (pB (cP cI cI)) (jp je) kS):=⟨_,_,⟨mk_Order,a10,i10,kc_Order⟩,Uw (K:=K) B T_Order F10 yA y1 yB,Xq X G aC_Order,b10⟩;have xk:Def l.prog w K mg base "_law_free" 1 ["_law_below_here","_law_row"] (sp2 K (pB (cL cI)) (pF (cT cI)) (rO cI) ym):=⟨_,_,VG (K:=K) B F11,Xq X G a11,k11,b11⟩;have yd:Def l.prog w K mg base "_law_counted" 2 ["_law_below_here"] (sp1 K (pB (cL cI)) (rF cI) qP):=⟨_,_,JE (K:=K) B F12 xk,Xq X G a12,k12,b12⟩;have zL:Def l.prog w K mg base "_law_line" 2 ["_law_below_here","_law_cell_here"] (sp2 K (pB (cL cI)) (pF cI) (rF (cT cI)) zZ):=⟨_,_,VH (K:=K) B F13 xk,Xq X G a13,k13,b13⟩;have yC:Def l.prog w K mg base "_law_spoilt" 1 ["_law_row","_law_cell_here"] (sp2 K (pF (cT cI)) (pF cI) (rF (cT cI)) xH):=⟨_,_,Qh (K:=K) B F14,Xq X G a14,k14,b14⟩;have jW:Mth l.prog w K mg base je "size" 1 ["self"] (sp1 K (pF (jp je)) (rF cI) jP):=⟨⟨_,_,Ux (K:=K) B T_Order F15,⟨a15,i15,k15⟩,b15⟩,T_Order.cl⟩;have qo:Def l.prog w K mg base "holds_all" 1 ["bits","others"] (sp2 K (pF cI) (pF cI) (rF cB) km):=⟨_,_,VI (K:=K) B F16,Xq X G a16,k16,b16⟩;have yn:Def l.prog w K mg base "is_line" 2 ["order","line"] (sp2 K (pF (jp je)) (pF (cT cI)) (rF cB) kz):=⟨_,_,Zw (K:=K) B T_Order F17 jW qo,Xq X G a17,k17,b17⟩;have N_check_line:FnOk l.prog w K mg base CX0 3 f18 _ ["order","line"] (sp2 K (pF (jp je)) (pF (cT cI)) (rF cU) kj):=Uy (K:=K) B T_Order F18 yn;have y6:Def l.prog w K mg base "check_line" 3 ["order","line"] (sp2 K (pF (jp je)) (pF (cT cI)) (rF cU) kj):=⟨_,_,N_check_line,Xq X G a18,k18,b18⟩;have zH:Def l.prog w K mg base "things_of" 2 ["bits"] (sp1 K (pF cI) (rO cI) ql):=⟨_,_,VJ (K:=K) B F19 JN,Xq X G a19,k19,b19⟩;have y3:Def l.prog w K mg base "is_downset" 3 ["order","bits"] (sp2 K (pF (jp je)) (pF cI) (rF cB) kT):=⟨_,_,Uz (K:=K) B T_Order F20 jW zH qo,Xq X G a20,k20,b20⟩;have GA:Def l.prog w K mg base "downsets" 4 ["order"] (sp1 K (pF (jp je)) (rO cI) qw):=⟨_,_,WI (K:=K) B T_Order F21 jW y3,Xq X G a21,k21,b21⟩;have JO:Def l.prog w K mg base "is_door" 2 ["order","bits","thing"] (sp3 K (pF (jp je)) (pF cI) (pF cI) (rF cB) xa):=⟨_,_,Zx (K:=K) B T_Order F22 JN qo,Xq X G a22,k22,b22⟩;have kl:Def l.prog w K mg base "things_next" 3 ["order","ahead"] (sp2 K (pF (jp je)) (pF cI) (rO cI) jX):=⟨_,_,Qi (K:=K) B T_Order F23 jW JO,Xq X G a23,k23,b23⟩;have qu:Def l.prog w K mg base "ways_on" 5 ["order"] (sp1 K (pF (jp je)) (rD (κ:=Int) cI) kA):=⟨_,_,Zy (K:=K) B T_Order F24 GA kl,Xq X G a24,k24,b24⟩;have N_number_of:FnOk l.prog w K mg base CX0 6 f25 _ ["order","line"] (sp2 K (pF (jp je)) (pF (cT cI)) (rF cI) kJ):=VL (K:=K) B T_Order F25 y6 qu kl;have jf5:Def l.prog w K mg base "number_of" 6 ["order","line"] (sp2 K (pF (jp je)) (pF (cT cI)) (rF cI) kJ):=⟨_,_,N_number_of,Xq X G a25,k25,b25⟩;have VP:FnOk l.prog w K mg base (CX1 l.prog w) 3 f18 _ ["order","line"] (Za K (pF (jp je)) (pF (cT cI)) (([(jZ,some ef_NoCount),(kf,some ef_NoPair),(jK,some f34),(j4,none),(jN,none)].zip ([["number"],["low","high"],["place"],[],[]]:List (List Str))).map fun z=>(z.1.1,z.2)) qf):=JF (K:=K) B T_Order F18 yn Y_NoLine;have DE_check_line:DefE l.prog w K mg base "check_line" 3 ["order","line"] (ZF (sp2 K (pF (jp je)) (pF (cT cI)) (rF cU) kj) (Za K (pF (jp je)) (pF (cT cI)) (([(jZ,some ef_NoCount),(kf,some ef_NoPair),(jK,some f34),(j4,none),(jN,none)].zip ([["number"],["low","high"],["place"],[],[]]:List (List Str))).map fun z=>(z.1.1,z.2)) qf)):=⟨⟨_,_,FnOk.or ((N_check_line.up).mono (by decide)) VP,Xq X G a18,k18,b18⟩⟩;have WM:FnOk l.prog w K mg base (CX1 l.prog w) 6 f25 _ ["order","line"] (Za K (pF (jp je)) (pF (cT cI)) (([(jZ,some ef_NoCount),(kf,some ef_NoPair),(jK,some f34),(j4,none),(jN,none)].zip ([["number"],["low","high"],["place"],[],[]]:List (List Str))).map fun z=>(z.1.1,z.2)) kY):=Qj (K:=K) B T_Order F25 DE_check_line;have DE_number_of:DefE l.prog w K mg base "number_of" 6 ["order","line"] (ZF (sp2 K (pF (jp je)) (pF (cT cI)) (rF cI) kJ) (Za K (pF (jp je)) (pF (cT cI)) (([(jZ,some ef_NoCount),(kf,some ef_NoPair),(jK,some f34),(j4,none),(jN,none)].zip ([["number"],["low","high"],["place"],[],[]]:List (List Str))).map fun z=>(z.1.1,z.2)) kY)):=⟨⟨_,_,FnOk.or ((N_number_of.up).mono (by decide)) WM,Xq X G a25,k25,b25⟩⟩;have zc:Def l.prog w K mg base "_law_asked" 7 ["_law_order_here","_law_which","_law_one"] (sp3 K (pF (jp je)) (pF cI) (pF (cT cI)) (rF (cQ (cOp cI) (cOE (([(jZ,some ef_NoCount),(kf,some ef_NoPair),(jK,some f34),(j4,none),(jN,none)].zip ([["number"],["low","high"],["place"],[],[]]:List (List Str))).map fun z=>(z.1.1,z.2))) (cL cB))) yy):=⟨_,_,UA (K:=K) B T_Order F26 DE_number_of m_T xb_T UD J_NoLine J_NoPlace J_TooMany,Xq X G a26,k26,b26⟩;have xq:Def l.prog w K mg base "_law_is_line" 1 ["_law_below_here","_law_row"] (sp2 K (pB (cL cI)) (pF (cT cI)) (rF cB) kK):=⟨_,_,JG (K:=K) B F27,Xq X G a27,k27,b27⟩;have zd:Def l.prog w K mg base "_law_whole" 1 ["_law_found"] (sp1 K (pF cI) (rF cB) xO):=⟨_,_,UB (K:=K) B F28,Xq X G a28,k28,b28⟩;have yD:Def l.prog w K mg base "_law_number" 1 ["_law_many","_law_cell_here"] (sp2 K (pF cI) (pF cI) (rF cI) xZ):=⟨_,_,Qk (K:=K) B F29,Xq X G a29,k29,b29⟩;have N_line_at:FnOk l.prog w K mg base CX0 6 f30 _ ["order","number"] (sp2 K (pF (jp je)) (pF cI) (rF (cT cI)) qt):=Zz (K:=K) B T_Order F30 qu jW kl;have jhR:Def l.prog w K mg base "line_at" 6 ["order","number"] (sp2 K (pF (jp je)) (pF cI) (rF (cT cI)) qt):=⟨_,_,N_line_at,Xq X G a30,k30,b30⟩;have jb1:FnOk l.prog w K mg base (CX1 l.prog w) 6 f30 _ ["order","number"] (Za K (pF (jp je)) (pF cI) (([(jZ,some ef_NoCount),(kf,some ef_NoPair),(jK,some f34),(j4,none),(jN,none)].zip ([["number"],["low","high"],["place"],[],[]]:List (List Str))).map fun z=>(z.1.1,z.2)) qQ):=VM (K:=K) B T_Order F30 qu X_NoPlace;have DE_line_at:DefE l.prog w K mg base "line_at" 6 ["order","number"] (ZF (sp2 K (pF (jp je)) (pF cI) (rF (cT cI)) qt) (Za K (pF (jp je)) (pF cI) (([(jZ,some ef_NoCount),(kf,some ef_NoPair),(jK,some f34),(j4,none),(jN,none)].zip ([["number"],["low","high"],["place"],[],[]]:List (List Str))).map fun z=>(z.1.1,z.2)) qQ)):=⟨⟨_,_,FnOk.or ((N_line_at.up).mono (by decide)) jb1,Xq X G a30,k30,b30⟩⟩;have ye:Def l.prog w K mg base "_law_asked" 7 ["_law_order_here","_law_which","_law_one"] (sp3 K (pF (jp je)) (pF cI) (pF cI) (rF (cQ (cOp (cT cI)) (cOE (([(jZ,some ef_NoCount),(kf,some ef_NoPair),(jK,some f34),(j4,none),(jN,none)].zip ([["number"],["low","high"],["place"],[],[]]:List (List Str))).map fun z=>(z.1.1,z.2))) (cL cB))) xv):=⟨_,_,JH (K:=K) B T_Order F26 DE_line_at m_T xb_T UD J_NoLine J_NoPlace J_TooMany,Xq X G a26,k26,b26⟩;have kO:Def l.prog w K mg base "how_many_lines" 6 ["order"] (sp1 K (pF (jp je)) (rF cI) jS):=⟨_,_,Gx (K:=K) B T_Order F31 qu,Xq X G a31,k31,b31⟩;have N_lines:FnOk l.prog w K mg base CX0 7 f32 _ ["order"] (sp1 K (pF (jp je)) (rO (cT cI)) xP):=jdE (K:=K) B T_Order F32 qK kO jW kl;have jiJ:Def l.prog w K mg base "lines" 7 ["order"] (sp1 K (pF (jp je)) (rO (cT cI)) xP):=⟨_,_,N_lines,Xq X G a32,k32,b32⟩;have jf6:FnOk l.prog w K mg base (CX1 l.prog w) 7 f32 _ ["order"] (jgQ K (pF (jp je)) (([(jZ,some ef_NoCount),(kf,some ef_NoPair),(jK,some f34),(j4,none),(jN,none)].zip ([["number"],["low","high"],["place"],[],[]]:List (List Str))).map fun z=>(z.1.1,z.2)) yb):=ZA (K:=K) B T_Order F32 qK kO Y_TooMany;have DE_lines:DefE l.prog w K mg base "lines" 7 ["order"] (ZF (sp1 K (pF (jp je)) (rO (cT cI)) xP) (jgQ K (pF (jp je)) (([(jZ,some ef_NoCount),(kf,some ef_NoPair),(jK,some f34),(j4,none),(jN,none)].zip ([["number"],["low","high"],["place"],[],[]]:List (List Str))).map fun z=>(z.1.1,z.2)) yb)):=⟨⟨_,_,FnOk.or ((N_lines.up).mono (by decide)) jf6,Xq X G a32,k32,b32⟩⟩;have yf:Def l.prog w K mg base "_law_asked" 8 ["_law_order_here","_law_which","_law_one"] (sp3 K (pF (jp je)) (pF cI) (pF cU) (rF (cQ (cOp (cL (cT cI))) (cOE (([(jZ,some ef_NoCount),(kf,some ef_NoPair),(jK,some f34),(j4,none),(jN,none)].zip ([["number"],["low","high"],["place"],[],[]]:List (List Str))).map fun z=>(z.1.1,z.2))) (cL cB))) xw):=⟨_,_,JI (K:=K) B T_Order F26 DE_lines m_T xb_T UD J_NoLine J_NoPlace J_TooMany,Xq X G a26,k26,b26⟩;exact jhN (K:=K) B T_Order F33 y9 jU za zb yd zL yC zc xq zd yD ye yf ze WL
end Lw
namespace PySem.W.Fast
def tw14351273184478989077:=0
def tw9707836297375600927:=0
def tw14723882860966929768:=0
def tw1296662873295648639:=0
def tw18043746129615341536:=0
def tw7099082371183173697:=0
def tw6939054373924903926:=0
def tw383986617952017428:=0
def tw18415631537827065979:=0
def tw11057619663749984628:=0
def tw2408528656034595411:=0
def tw3398646570440895241:=0
def tw3876896138849115106:=0
def tw17283918251405004216:=0
end PySem.W.Fast
namespace Lw
open PySem L2 L3
theorem walk {l:W.OpenLaw}{q:Program}{d:DefRec}{K:Params->W.Frag} (hn:l.most=some 63) (hdf:d.params.defaults=[])
  (hY:∀ (w:World) (h:Heap),YP w h->(K w.params).In h)
  (F:∀ (w:World) (mg:Str->Option Value) (fa:Addr) (h:Heap),(K w.params).In h->h.Ns mainGlobals mg->mg d.name=some (.ref fa) ->
   ∃ fd:FuncData,(∀ (s:Shared) (u:Value),BindsTo s fd ⟨[u],[]⟩ [("_law_script",u)])/\∀ base:Heap,(K w.params).In base->base.Ns mainGlobals mg->FnOk l.prog w (K w.params) mg base CX0 9 fa fd ["_law_script"] (sp1 (K w.params) (pF cScr) (rF cB) Vx)) :
  W.WalkO q loose XP YP l.row.toRowW d [] (fun f vs=>PySem.call f vs):=
 L2.walk_of (n:=63) (k:=9) (x:="_law_script") (CX:=fun _=>CX0) (sp:=fun w=>sp1 (K w.params) (pF cScr) (rF cB) Vx) hn (by decide) hdf ⟨rfl,by decide,by decide,rfl⟩ hY F (fun _ H a ns hl _ hS=>⟨ns,_,H,true,rfl,Same.refl _,⟨a,rfl,hS⟩,law_true ns hl,fun u F' H' E h=>h⟩) fun _ _ _ _ _ z=>z
end Lw
open PySem PySem.W PyProof.Rows
set_option maxRecDepth 100000 in
set_option maxHeartbeats 0 in
theorem PySem.Challenge.cw_toggleclock_k25_lines_refused_holds : PySem.Challenge.rw_toggleclock_k25_lines_refused.Holds := by
 w_on; o_law; k_head; (case hw => w_witness2)
 k_fill
 refine Lw.walk (l := PySem.Challenge.rw_toggleclock_k25_lines_refused) rfl rfl (fun w h Y => PySem.W.kIn_of Y) ?F
 case F =>
  intro w mg fa h KX G hmg
  refine' Lw.all_mk KX G hmg ?aC_Order ?pg_Order ?hd_Order ?po_Order ?sa_Order ?mk_Order ?kc_Order ?n_Order_many ?n_Order_beneath ?n_Order_neighbours ?xa_T ?xa_NoCount ?xi_NoCount ?xa_NoPair ?xi_NoPair ?xa_NoPlace ?xa_NoLine ?xa_TooMany ?a0 ?l0 ?c0 ?k0 ?a1 ?l1 ?c1 ?k1 ?a2 ?l2 ?c2 ?k2 ?a3 ?l3 ?c3 ?k3 ?a4 ?l4 ?c4 ?k4 ?a5 ?l5 ?c5 ?k5 ?a6 ?l6 ?c6 ?k6 ?a7 ?l7 ?c7 ?k7 ?a8 ?l8 ?c8 ?k8 ?a9 ?l9 ?c9 ?k9 ?a10 ?i10 ?l10 ?c10 ?k10 ?a11 ?l11 ?c11 ?k11 ?a12 ?l12 ?c12 ?k12 ?a13 ?l13 ?c13 ?k13 ?a14 ?l14 ?c14 ?k14 ?a15 ?i15 ?l15 ?c15 ?k15 ?a16 ?l16 ?c16 ?k16 ?a17 ?l17 ?c17 ?k17 ?a18 ?l18 ?c18 ?k18 ?a19 ?l19 ?c19 ?k19 ?a20 ?l20 ?c20 ?k20 ?a21 ?l21 ?c21 ?k21 ?a22 ?l22 ?c22 ?k22 ?a23 ?l23 ?c23 ?k23 ?a24 ?l24 ?c24 ?k24 ?a25 ?l25 ?c25 ?k25 ?a26 ?l26 ?c26 ?k26 ?a27 ?l27 ?c27 ?k27 ?a28 ?l28 ?c28 ?k28 ?a29 ?l29 ?c29 ?k29 ?a30 ?l30 ?c30 ?k30 ?a31 ?l31 ?c31 ?k31 ?a32 ?l32 ?c32 ?k32 ?a33 ?l33 ?c33 ?k33 ?a34 ?i34 ?l34 ?c34 ?k34 ?xb_T ?xb_all ?xb_NoLine ?xb_no_NoLine ?xb_NoPlace ?xb_no_NoPlace ?xb_TooMany ?xb_no_TooMany ?xv_V ?xb_V ?xq_place ?xn_NoPlace_place ?g_MOST_THINGS ?g_MOST_LISTED ?z0 ?z1 ?z2 ?z3 ?z4 ?z5 ?z6 ?z7 ?z8 ?z9 ?z10 ?z11 ?z12 ?z13 ?z14 ?z15 ?z16 ?z17 ?z18
  (case aC_Order => k_is)
  (case pg_Order => k_is)
  (case hd_Order => k_is)
  (case po_Order => k_is)
  (case sa_Order => k_is)
  (case mk_Order => k_is)
  (case kc_Order => k_is)
  (case n_Order_many => k_is)
  (case n_Order_beneath => k_is)
  (case n_Order_neighbours => k_is)
  (case xa_T => k_is)
  (case xa_NoCount => k_is)
  (case xi_NoCount => k_is)
  (case xa_NoPair => k_is)
  (case xi_NoPair => k_is)
  (case xa_NoPlace => k_is)
  (case xa_NoLine => k_is)
  (case xa_TooMany => k_is)
  (case a0 => k_is)
  (case l0 => k_is)
  (case c0 => k_is)
  (case k0 => k_is)
  (case a1 => k_is)
  (case l1 => k_is)
  (case c1 => k_is)
  (case k1 => k_is)
  (case a2 => k_is)
  (case l2 => k_is)
  (case c2 => k_is)
  (case k2 => k_is)
  (case a3 => k_is)
  (case l3 => k_is)
  (case c3 => k_is)
  (case k3 => k_is)
  (case a4 => k_is)
  (case l4 => k_is)
  (case c4 => k_is)
  (case k4 => k_is)
  (case a5 => k_is)
  (case l5 => k_is)
  (case c5 => k_is)
  (case k5 => k_is)
  (case a6 => k_is)
  (case l6 => k_is)
  (case c6 => k_is)
  (case k6 => k_is)
  (case a7 => k_is)
  (case l7 => k_is)
  (case c7 => k_is)
  (case k7 => k_is)
  (case a8 => k_is)
  (case l8 => k_is)
  (case c8 => k_is)
  (case k8 => k_is)
  (case a9 => k_is)
  (case l9 => k_is)
  (case c9 => k_is)
  (case k9 => k_is)
  (case a10 => k_is)
  (case i10 => k_is)
  (case l10 => k_is)
  (case c10 => k_is)
  (case k10 => k_is)
  (case a11 => k_is)
  (case l11 => k_is)
  (case c11 => k_is)
  (case k11 => k_is)
  (case a12 => k_is)
  (case l12 => k_is)
  (case c12 => k_is)
  (case k12 => k_is)
  (case a13 => k_is)
  (case l13 => k_is)
  (case c13 => k_is)
  (case k13 => k_is)
  (case a14 => k_is)
  (case l14 => k_is)
  (case c14 => k_is)
  (case k14 => k_is)
  (case a15 => k_is)
  (case i15 => k_is)
  (case l15 => k_is)
  (case c15 => k_is)
  (case k15 => k_is)
  (case a16 => k_is)
  (case l16 => k_is)
  (case c16 => k_is)
  (case k16 => k_is)
  (case a17 => k_is)
  (case l17 => k_is)
  (case c17 => k_is)
  (case k17 => k_is)
  (case a18 => k_is)
  (case l18 => k_is)
  (case c18 => k_is)
  (case k18 => k_is)
  (case a19 => k_is)
  (case l19 => k_is)
  (case c19 => k_is)
  (case k19 => k_is)
  (case a20 => k_is)
  (case l20 => k_is)
  (case c20 => k_is)
  (case k20 => k_is)
  (case a21 => k_is)
  (case l21 => k_is)
  (case c21 => k_is)
  (case k21 => k_is)
  (case a22 => k_is)
  (case l22 => k_is)
  (case c22 => k_is)
  (case k22 => k_is)
  (case a23 => k_is)
  (case l23 => k_is)
  (case c23 => k_is)
  (case k23 => k_is)
  (case a24 => k_is)
  (case l24 => k_is)
  (case c24 => k_is)
  (case k24 => k_is)
  (case a25 => k_is)
  (case l25 => k_is)
  (case c25 => k_is)
  (case k25 => k_is)
  (case a26 => k_is)
  (case l26 => k_is)
  (case c26 => k_is)
  (case k26 => k_is)
  (case a27 => k_is)
  (case l27 => k_is)
  (case c27 => k_is)
  (case k27 => k_is)
  (case a28 => k_is)
  (case l28 => k_is)
  (case c28 => k_is)
  (case k28 => k_is)
  (case a29 => k_is)
  (case l29 => k_is)
  (case c29 => k_is)
  (case k29 => k_is)
  (case a30 => k_is)
  (case l30 => k_is)
  (case c30 => k_is)
  (case k30 => k_is)
  (case a31 => k_is)
  (case l31 => k_is)
  (case c31 => k_is)
  (case k31 => k_is)
  (case a32 => k_is)
  (case l32 => k_is)
  (case c32 => k_is)
  (case k32 => k_is)
  (case a33 => k_is)
  (case l33 => k_is)
  (case c33 => k_is)
  (case k33 => k_is)
  (case a34 => k_is)
  (case i34 => k_is)
  (case l34 => k_is)
  (case c34 => k_is)
  (case k34 => k_is)
  (case xb_T => kernel_rfl)
  (case xb_all => kernel_rfl)
  (case xb_NoLine => kernel_rfl)
  (case xb_no_NoLine => kernel_rfl)
  (case xb_NoPlace => kernel_rfl)
  (case xb_no_NoPlace => kernel_rfl)
  (case xb_TooMany => kernel_rfl)
  (case xb_no_TooMany => kernel_rfl)
  (case xv_V => k_is)
  (case xb_V => kernel_rfl)
  (case xq_place => k_is)
  (case xn_NoPlace_place => k_is)
  (case g_MOST_THINGS => k_is)
  (case g_MOST_LISTED => k_is)
  (case z0 => k_is)
  (case z1 => k_is)
  (case z2 => k_is)
  (case z3 => k_is)
  (case z4 => k_is)
  (case z5 => k_is)
  (case z6 => k_is)
  (case z7 => k_is)
  (case z8 => k_is)
  (case z9 => k_is)
  (case z10 => k_is)
  (case z11 => k_is)
  (case z12 => k_is)
  (case z13 => k_is)
  (case z14 => k_is)
  (case z15 => k_is)
  (case z16 => k_is)
  (case z17 => k_is)
  (case z18 => k_is)